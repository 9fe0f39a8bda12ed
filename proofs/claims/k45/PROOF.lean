import PyProof.Rows.All
import Wide.All
import OpenK.AllK
import Wide.FinOn
import Lean
import PyProof.EqAt
import PyProof.EqKinds
import PyProof.TupleCall
import PyProof.ExcInit
import PyProof.InstStoreFacts
import PyProof.StrLawsFirst
import PyProof.StrLawsIn
import KE.KLam
import PyProof.ListMulRoad
import PyProof.Rows.ListMul
import PyProof.ZipIter
import PyProof.Draws
import PyProof.ListStr
import PyProof.DictWalks
import PyProof.DictTruth
import PyProof.ListRange
import PyProof.StrLaws
import PyProof.StrLawsIdx
import PyProof.AttrMissHeap
import PyProof.StrBlock2
import PyProof.P3In
import PyProof.SumWalkG
import PyProof.Rows.StrClip
import PySem.Challenge.RW_striproam_k45_strips_refused_by_all
set_option linter.all false
set_option maxRecDepth 100000
set_option maxHeartbeats 4000000
set_option Elab.async false
set_option genSizeOf false
set_option compiler.extract_closed false
set_option bootstrap.genMatcherCode false
open PySem.W (instObj of_hideAll lookIn plainGet hasDictIn findIn handedIn findObj_own isFn plainOver takerIn makesIn typeIn emptyDict keepIn specialIn takesIn kitOne kitx_tuple kitx_dict fnOf codeIn codeRec_of kitAny kia_tup nsIn subIn kitCls CodeHd tabObj noTabs OpenLaw WalkO pyHash_slot nsOkIn callWith_F readsIn findCls binds_K)
open List (range replicate length Nodup foldl)
open PySem.SeqAt (shaped readOf)
open PyProof.Rows (boot_zip boot_str boot_min boot_int boot_all boot_abs)
set_option hygiene false
local macro_rules
|`(tactic|ext)=>`(tactic|first
 |(with_reducible first
  |assumption
  |exact Nat.zero_le _
  |exact Nat.le_refl _
  |exact Int.natCast_nonneg _
  |exact Nat.le_of_lt (by assumption)
  |exact Nat.le_trans (by assumption) (by decide)
  |exact Nat.lt_of_le_of_lt (by assumption) (by decide)
  |exact Nat.lt_of_lt_of_le (by assumption) (by decide)
  |exact Nat.lt_of_lt_of_le (by assumption) (by assumption)
  |exact Nat.lt_of_le_of_lt (by assumption) (by assumption)
  |exact Nat.le_trans (by assumption) (by assumption)
  |exact Nat.le_trans (Nat.le_of_lt (by assumption)) (by assumption)
  |exact Int.ofNat_lt.mpr (by assumption)
  |exact Int.ofNat_le.mpr (by assumption))
 |omega|grind)
set_option hygiene true
abbrev Dz:=PySem.PyData
abbrev V9:=PySem.Value
abbrev S9:=PySem.Shared
abbrev Az:=PySem.Addr
abbrev P9:=PySem.Program
abbrev W9:=PySem.World
abbrev Hz:=PySem.Heap
abbrev Ez:=PySem.Expr
abbrev U9:=PySem.Around
abbrev O9(α:Type):=Option α
abbrev L9(α:Type):=List α
theorem z0(a:True:=by rfl):True:=a
def z3:Lean.Syntax:=z0._auto_1
theorem z4(a:True:=by decide):True:=a
def z5:Lean.Syntax:=z4._auto_1
namespace PySem.W.Fast
def tw9075497944566159214:=0
def tw7377945628754269648:=0
def tw13517915993266123389:=0
def tw4039547555727098280:=0
def tw11081007475439917943:=0
def tw18129711418995874772:=0
def tw9488440598150346677:=0
def tw15825005750652805672:=0
def tw12004856697686471551:=0
def tw3316610767679174775:=0
def tw3743560025922905889:=0
def tw14487608178332318762:=0
def tw13961783532338330215:=0
def tw3650201513013913065:=0
def tw17622799701724858024:=0
def tw14618774936605850273:=0
def tw1528937653064572069:=0
def tw8325988313135846281:=0
def tw9140168492827197451:=0
def tw15697050642135752021:=0
def tw12894148867252269226:=0
def tw14117038796785633631:=0
def tw9411272445164656490:=0
def tw6286388143577792761:=0
def tw15476846818002033297:=0
def tw5808819668912841863:=0
def tw12621135284469178147:=0
def tw13446988102112059433:=0
def tw18364949682672183653:=0
def tw6479387385961028750:=0
def tw2870800278575496370:=0
def tw7066027991933234627:=0
def tw2388114308660299838:=0
def tw11392745363835300228:=0
def tw12040248795261426913:=0
def tw1169719913274904765:=0
def tw4051154420793966786:=0
def tw14071371684231155335:=0
def tw9282003918188805577:=0
def tw13104362840346625767:=0
def tw6624247107752520234:=0
def tw17898650156174578142:=0
def tw18158193498573700905:=0
def tw15764742484863267141:=0
def tw17142116971864776254:=0
def tw13161203967677318666:=0
def tw6850000493569328391:=0
def tw12717010120280025299:=0
def tw12533306920924722437:=0
def tw11146062728529957590:=0
def tw16062549565219528689:=0
def tw13026766380583485192:=0
def tw14138128468133960123:=0
def tw1250230141778859632:=0
def tw17289787198506794408:=0
def tw11105093345553461422:=0
def tw17205626978682997124:=0
def tw267572980314955712:=0
def tw8132748573989553571:=0
def tw9606650348546989696:=0
def tw5615071268564638410:=0
def tw16947153094666253836:=0
def tw17218189593160725310:=0
def tw5522893595727531703:=0
def tw11040181657197252820:=0
def tw4261669113145871183:=0
def tw3356801196806314731:=0
def tw16717135846059099078:=0
def tw17914638817944700258:=0
def tw9300712300329075248:=0
def tw6265358581208746752:=0
def tw4890613408876810595:=0
def tw14845985291762768996:=0
def tw1615371632532891447:=0
def tw6920052580766169140:=0
def tw14056910820305859065:=0
def tw13373534869248543390:=0
def tw5260211647279676675:=0
def tw13582665507936556696:=0
def tw7675932732838086317:=0
def tw8870056560229503891:=0
def tw13679962811724943077:=0
def tw16671691491519485183:=0
def tw2837556697565159014:=0
def tw5475292223429518288:=0
def tw4507448442800571826:=0
def tw5680099705699279592:=0
def tw8226911093160783381:=0
def tw3935612895324623842:=0
def tw17343274500168842197:=0
def tw2287105037562349965:=0
def tw16008448911956774914:=0
def tw8792602264303028155:=0
def tw299237706443053253:=0
def tw18057913791374631661:=0
def tw15824507837740260138:=0
def tw440112111369607587:=0
def tw13173443413181005569:=0
def tw17461448216029025566:=0
def tw5852848234802355589:=0
def tw8786502774245500406:=0
def tw10361638984584179040:=0
def tw15883846392890027326:=0
def tw10776458506587481603:=0
def tw11661810124566219015:=0
def tw17956189136336896027:=0
def tw1334466905202874596:=0
def tw5224211989577505341:=0
def tw8923980148592078390:=0
def tw5403536400313989058:=0
def tw13129694016527243241:=0
def tw17793060386449995603:=0
def tw2469496869168955633:=0
def tw9705943611959808129:=0
def tw16349905850719024554:=0
def tw12139053455293571814:=0
def tw16783541812401561872:=0
def tw9088061421170540139:=0
def tw13576317865457717588:=0
def tw13640179380659934421:=0
def tw3330631874458152136:=0
def tw11841376349243263634:=0
def tw7412819958362192557:=0
def tw12348019838987804052:=0
def tw7105328402010808197:=0
def tw12273930430400873153:=0
def tw532398083967098636:=0
def tw13893209740710380869:=0
def tw7713382169420700741:=0
def tw17391813259063564795:=0
def tw11674750606342748455:=0
def tw3477723231983694565:=0
def tw11620222096973381192:=0
def tw10563008186429832008:=0
def tw5897618304305036734:=0
def tw1707113011822396147:=0
def tw18036006941272562690:=0
def tw7105315980241779180:=0
def tw3385837486003390061:=0
def tw11837112085897236923:=0
def tw16420702021857447564:=0
def tw5682937806880808784:=0
def tw4005342134551258491:=0
def tw17522224325939742066:=0
def tw3296130224349542182:=0
def tw14826122256586713824:=0
def tw14525979702177585763:=0
def tw10856730934233460047:=0
def tw16257593825951796241:=0
def tw2850841942995212613:=0
def tw10632505386159232561:=0
def tw15023616158299795633:=0
def tw696405942104798764:=0
def tw17386753385061314107:=0
def tw6608226829927159781:=0
def tw3948116176970732830:=0
def tw1579383460744823014:=0
def tw3698392098768037376:=0
def tw12540977834037907852:=0
def tw799397461416800492:=0
def tw13845890437286886948:=0
def tw12294131801496793424:=0
def tw9102197272374761917:=0
def tw14226897998120890209:=0
def tw5269132796252992544:=0
def tw7803092872454452497:=0
def tw13089130583239352600:=0
def tw14670063337268145907:=0
def tw17388055322369791949:=0
def tw1627583091204725827:=0
def tw5362112500733236902:=0
def tw9011726919669063493:=0
def tw9489919674744766861:=0
def tw18417651310326619597:=0
def tw7508791142513868084:=0
def tw8858325486089058468:=0
def tw3998587071461034904:=0
def tw16008917470161422681:=0
def tw17461325241755421552:=0
def tw16915641243890976644:=0
def tw740697739403599491:=0
def tw1598473489594060274:=0
def tw9512138569541625546:=0
def tw4994184745795338451:=0
def tw9135915663712089494:=0
def tw16257961854438109426:=0
def tw15050930715463492988:=0
def tw715802169593085524:=0
def tw7773360783930371600:=0
def tw15118878110238727395:=0
def tw12718269892716049944:=0
def tw2044690928773648377:=0
def tw17305467309700199205:=0
def tw8986967600574003748:=0
def tw7007170480056941300:=0
def tw10281686038153655929:=0
def tw18196299959925135644:=0
def tw12987872872747900238:=0
def tw13555676695027553490:=0
def tw2620962766585948092:=0
def tw16755305574860009500:=0
def tw4566580812248804512:=0
def tw12926254034146906137:=0
def tw10369691515523917037:=0
def tw10602060155683190474:=0
def tw17700789763817815845:=0
def tw18321300157378254262:=0
def tw9347235044683929280:=0
def tw8130493476745307534:=0
def tw18108183779006518441:=0
def tw5898028121888141597:=0
def tw9176866039725230562:=0
def tw11427211094084878873:=0
def tw12419030436851129112:=0
def tw171385446692497196:=0
def tw12132655780793667456:=0
def tw4886849857407802311:=0
def tw799545233366941278:=0
def tw13273816698725909436:=0
def tw730757321112910709:=0
def tw16110516252875110653:=0
def tw17603562890654752677:=0
def tw1856561264883429053:=0
def tw9505388378461856333:=0
def tw3083941903984843822:=0
def tw13921931795949271226:=0
def tw4298691704050185749:=0
def tw16241969998538660451:=0
def tw6260620970828594195:=0
def tw4049753368642094522:=0
def tw10958821838086293736:=0
def tw6223077540877065507:=0
def tw6815615189272639809:=0
def tw18348716840218953186:=0
def tw18215128187594677464:=0
def tw1853015640133128624:=0
def tw2668835818646509988:=0
def tw8653737465761457849:=0
def tw3224230965841074782:=0
def tw15320416800427748370:=0
def tw4455038923024775144:=0
def tw11587253014958663478:=0
def tw9439521846672913107:=0
def tw3269288715478874051:=0
def tw11213457728683648353:=0
def tw14247033929263306267:=0
def tw9865613712492787197:=0
def tw14636792126279554507:=0
def tw6071026035440908677:=0
def tw3539019109788369085:=0
def tw8170348469759830176:=0
def tw7338005003773866412:=0
def tw12656701755464705297:=0
def tw1881973325168400175:=0
def tw4726232640933346972:=0
def tw12489770918958419708:=0
def tw3922221118702344145:=0
def tw13155235842045248806:=0
def tw2155167189037977350:=0
def tw9287783349984709893:=0
def tw10181526508524112535:=0
def tw7958690174257135338:=0
def tw10114304427387713300:=0
def tw17167065181057835731:=0
def tw1179143663535059893:=0
def tw11155276623008908113:=0
def tw17834328361374138169:=0
def tw12266907837827790288:=0
def tw13031877182179651548:=0
def tw5141608806180053437:=0
def tw6991012597102999448:=0
def tw12397252749961127742:=0
def tw17140740660843118023:=0
def tw8653976026362950315:=0
def tw4857504554551605353:=0
def tw7220816461527754757:=0
def tw5207915112940398668:=0
def tw4344179476394939010:=0
def tw17577705005893312349:=0
def tw11752602475540042639:=0
def tw10394682976759515348:=0
def tw14795525070025432578:=0
def tw8839080654375516837:=0
def tw3096484762046702402:=0
def tw16367351148940852105:=0
def tw7287143991437736216:=0
def tw11249559655133196253:=0
def tw984337511970825712:=0
def tw7956442474692300078:=0
def tw3953860569479722559:=0
def tw10729218928325060519:=0
def tw16359177521459030253:=0
def tw13469531415771883488:=0
def tw6473080960733443132:=0
def tw6361620967453328106:=0
def tw5190562267974168806:=0
def tw8046458289361144879:=0
def tw9007253773484571278:=0
def tw13263325446650281951:=0
def tw11910479166689039555:=0
def tw13943555576254818534:=0
def tw11040483513428619545:=0
def tw17290282497000371683:=0
def tw408959487411144248:=0
def tw11484724866513086130:=0
def tw15785333017041279358:=0
def tw3340769729614799998:=0
def tw3698480800071056791:=0
def tw5252214627515287899:=0
def tw17114391996318185339:=0
def tw6833115700565582066:=0
def tw14508324282999976040:=0
def tw3996826843865623442:=0
def tw10769192778724743437:=0
def tw4599794712011646029:=0
def tw1810455233265455172:=0
def tw16106508307534602839:=0
def tw12901938499241609799:=0
def tw8723915987925628181:=0
def tw6395918225805000198:=0
def tw3658521371443021567:=0
def tw14920603454303863975:=0
def tw3752836881279047537:=0
def tw18038897887944983765:=0
def tw15070322236703320401:=0
def tw2943934861668570880:=0
def tw17773875218923983074:=0
def tw13119842814084660073:=0
def tw9010964424699261548:=0
def tw16583716886574367656:=0
def tw16716439581904265252:=0
def tw4464688351728343559:=0
def tw13522428508768668087:=0
def tw17547764181220002180:=0
def tw8733949405400070801:=0
def tw8297183999652989130:=0
def tw9110636650532127896:=0
def tw7692370684228338317:=0
def tw15472380718887576847:=0
def tw12549490351189848057:=0
def tw10114038350688556976:=0
def tw5632981460045181645:=0
def tw3564197401238472343:=0
def tw3176274020532742134:=0
def tw17251309992819439474:=0
def tw13163457047313160360:=0
def tw3467281686593540335:=0
def tw13816251579437495895:=0
def tw13033111728373879756:=0
def tw4304997712794878688:=0
def tw11598577233668123340:=0
def tw6168897840175290644:=0
def tw17342739761573397587:=0
def tw9134597754840839664:=0
def tw8111983136977317130:=0
def tw18205905463629420358:=0
def tw16046685924251823623:=0
def tw15241090528825014194:=0
def tw17586755667410172506:=0
def tw10870306067549281651:=0
end PySem.W.Fast
def AA:=@PySem.wpAny_bind
def AB:=@PySem.Heap.get?_push_of_some
def AC:=@PySem.wpAny_pure
def AD:=@List.mem_of_getElem?
def AE:=@PySem.Heap.lt_size
def AG:=@Nat.le_refl
def AH:=@List.getElem?_eq_some_iff
def AI:=@if_pos
def AJ:=@List.getElem?_eq_getElem
def AK:=@List.getElem?_cons_succ
def AL:=@List.length_map
def AM:=@if_neg
def AN:=@PySem.Heap.get?_push_size
def AQ:=@List.mem_cons
def AS:=@List.mem_singleton
def AT:=@List.length_cons
def AU:=@List.mem_cons_of_mem
def AV:=@List.map_cons
def AW:=@List.getElem?_cons_zero
def AX:=@Nat.lt_of_lt_of_le
def AY:=@List.length_append
def AZ:=@List.getElem?_map
def A0:=@Nat.ne_of_lt
def A1:=@List.getElem?_set_ne
def A2:=@decide_eq_true
def A3:=@List.set_cons_succ
def A4:=@List.set_cons_zero
def A5:=@List.mem_cons_self
def A6:=@Nat.le_trans
def A7:=@List.cons_append
def A8:=@List.getElem?_append_left
def A9:=@List.length_nil
def BA:=@Bool.and_eq_true
def BB:=@decide_eq_false
def BC:=@List.nil_append
def BD:=@Ne.symm
def BE:=@PySem.mem_of_lookup
def BF:=@List.map_nil
def BG:=@List.mem_map
def BH:=@of_decide_eq_true
def BI:=@PySem.wpAny_mono
def BJ:=@List.length_set
def BK:=@PySem.Heap.get?_update_self
def BL:=@PySem.W.mg_none_of
def BM:=@PySem.Heap.get?_update_other
def BN:=@List.mem_append
def BO:=@List.getD_eq_getElem?_getD
def BP:=@PySem.W.mg_of
def BQ:=@List.length_take
def BR:=@List.lookup_cons
def BS:=@List.not_mem_nil
def BU:=@PyProof.Rows.boot_isinstance
def BV:=@List.getElem?_set_self
def BW:=@List.mem_append_right
def BX:=@PySem.Heap.size_push
def BY:=@List.nodup_cons
def BZ:=@List.map_append
def B0:=@PySem.wpAny_field
def B1:=@List.map_map
def B2:=@PySem.wpAny_Call_Name_kw
def B3:=@PySem.W.callWith_K
def B4:=@Nat.lt_irrefl
def B5:=@PySem.W.kia_one
def B6:=@Nat.le_of_lt
def B7:=@List.all_eq_true
def B8:=@List.length_range
def B9:=@List.mem_range
def CA:=@PySem.wpAny_holding
def CB:=@Option.some.inj
def CC:=@Bool.false_eq_true
def CD:=@Int.emod_lt_of_pos
def CF:=@List.length_drop
def CG:=@if_true
def CH:=@List.size_toArray
def CI:=@PySem.wpAny_callSpecial?_slot
def CJ:=@List.forall_mem_cons
def CK:=@Nat.ne_of_gt
def CL:=@List.getElem?_append_right
def CM:=@List.take_of_length_le
def CN:=@List.map_congr_left
def CO:=@List.append_nil
def CP:=@Int.emod_nonneg
def CQ:=@List.length_replicate
def CS:=@PySem.sizeLine_eq
def CT:=@Nat.zero_le
def CU:=@PySem.F.slot_dict_keyiterator_next
def CV:=@List.nodup_append
def CW:=@PyProof.Rows.callWith_type1
def CY:=@PySem.Heap.SameBut.update
def CZ:=@PySem.wpAny_standAt
def C3:=@PySem.wpAny_call_entry
def C4:=@PySem.Obj.data_mapFields
def C5:=@PySem.wpAny_setField_rec
def C6:=@List.mem_append_left
def C7:=@beq_false_of_ne
def C8:=@or_false
def C9:=@List.append_assoc
def DA:=@PySem.wpAny_typeNameOfWhole_keyiter
def DB:=@PyProof.Rows.boot_tuple
def DC:=@PySem.wpAny_isSubtype_exc
def DD:=@PySem.wpAny_seqItems
def DE:=@List.mem_filterMap
def DF:=@PySem.codeAny_mono
def DG:=@List.contains_cons
def DH:=@PySem.wpAny_passesOwn
def DI:=@List.find?_cons
def DJ:=@List.length_singleton
def DK:=@PySem.F.excBase_ValueError
def DL:=@PySem.F.slot_tuple_iterator_next
def DM:=@PySem.wpAny_truthy_bool
def DN:=@PySem.wpAny_newObj_type
def DO:=@PySem.wpAny_call
def DP:=@Nat.le_succ
def DQ:=@Int.le_refl
def DR:=@PySem.wpAny_setField
def DS:=@List.nodup_nil
def DT:=@Nat.lt_succ_self
def DU:=@if_false
def DV:=@beq_self_eq_true
def DW:=@List.getElem_mem
def DX:=@PyProof.Rows.slot_tuple_getitem
def DY:=@List.getElem?_replicate
def DZ:=@PySem.wpAny_execs_nil
def D4:=@List.forIn_cons
def D5:=@Bool.or_eq_true
def D6:=@PySem.wpAny_loadPart_at
def D7:=@List.take_add_one
def D8:=@PySem.Obj.isFreed_of_fields
def D9:=@Array.getElem?_toList
def EA:=@PySem.wpAny_execs_cons
def EB:=@List.mem_iff_getElem
def EC:=@List.mem_of_mem_take
def ED:=@PySem.wpAny_attempt
def EE:=@Array.getElem?_eq_some_iff
def EF:=@List.filterMap_cons
def EG:=@Array.length_toList
def EH:=@List.mem_map_of_mem
def EI:=@List.of_mem_zip
def EJ:=@List.pairwise_iff_getElem
def EK:=@List.drop_eq_getElem_cons
def EL:=@List.cons.injEq
def EM:=@PySem.F.plainAttrs_list
def EN:=@PySem.wpAny_pyIter_list
def EO:=@PySem.wpAny_pyIter_enum
def EQ:=@PySem.wpAny_dictEntries
def ER:=@PySem.W.cellsFrom_some
def ES:=@congrArg
def ET:=@PySem.wpAny_isInstance
def EU:=@List.drop_length
def EV:=@Option.bind_some
def EW:=@PySem.codeAny_call_function
def EX:=@PySem.plainObj_wpAny_Assign_Attribute
def EY:=@PySem.Heap.get?_none_of_le
def EZ:=@PySem.codeAny_call_builtin
def E2:=@PySem.F.args_dict_keyiterator_next_1
def E3:=@PySem.wpAny_updateSeq
def E4:=@List.getElem?_of_mem
def E5:=@PySem.F.entry_dict_keyiterator_next
def E6:=@PySem.W.plainGet_of
def E7:=@List.getElem?_range
def E8:=@PySem.wpAny_loadPart
def E9:=@PySem.F.args_tuple_iterator_next_1
def FA:=@PyProof.Rows.boot_enumerate
def FB:=@PySem.F.entry_tuple_iterator_next
def FC:=@List.getElem?_take
def FD:=@PySem.Paired.length
def FF:=@PySem.Calls.Name_function_global
def FG:=@PySem.wpAny_newFunctionEnv_cells
def FH:=@PySem.wpAny_letOwnedTupleGo_enum
def FJ:=@PySem.F.excAttr_ValueError
def FK:=@PySem.W.kitx_list
def FM:=@Bool.eq_false_iff
def FN:=@PySem.StrLaws.subAt_one
def FP:=@Option.isSome_map
def FQ:=@Nat.le_succ_of_le
def FR:=@PySem.call_meets
def FS:=@Option.isNone_iff_eq_none
def FT:=@Classical.byContradiction
def FU:=@List.mem_or_eq_of_mem_set
def FV:=@PySem.wpAny_lookBehind
def FW:=@PySem.pastItsLine_dict
def FX:=@Option.isSome_iff_exists
def FY:=@List.getElem?_take_of_lt
def FZ:=@PySem.F.args_tuple_add_2
def F7:=@PySem.wpAny_comprehension_free
def GA:=@Bool.or_true
def GB:=@List.Pairwise.imp_of_mem
def GC:=@Option.bind_none
def GD:=@List.eq_of_mem_replicate
def GE:=@PySem.F.slot_list_append
def GF:=@PySem.F.type_list_append
def GG:=@PySem.F.entry_tuple_add
def GH:=@List.length_eq_zero_iff
def GI:=@PySem.F.slot_list_index
def GJ:=@PySem.wpAny_specialOf
def GK:=@List.foldl_cons
def GL:=@PySem.pushCells_keeps
def GM:=@Nat.min_le_left
def GN:=@PySem.F.slot_zip_next
def GO:=@List.length_zip
def GP:=@PySem.wpAny_dictEpoch
def GQ:=@Array.size_push
def GR:=@PySem.F.slot_tuple_add
def GS:=@PySem.F.plainAttrs_str
def GT:=@PySem.W.methodCall_KW
def GU:=@PySem.F.entry_bexc_ga
def GV:=@Nat.mul_le_mul
def GW:=@PySem.boot_len
def GX:=@Nat.not_lt
def GY:=@Bool.true_and
def GZ:=@Nat.lt_trans
def G0:=@Nat.zero_add
def G1:=@Nat.add_comm
theorem _e.Aj{α:Type}{P:L9 α->Prop}(h:∀ a,P [a]):∀ us:L9 α,us.length=1->P us
 | [a],_=>h a
theorem _e.G7{α:Type}{P:L9 α->Prop}(h:∀ a b,P [a,b]):∀ us:L9 α,us.length=2->P us
 | [a,b],_=>h a b
theorem _e.G6{α:Type}{P:L9 α->Prop}(h:∀ a b c,P [a,b,c]):∀ us:L9 α,us.length=3->P us
 | [a,b,c],_=>h a b c
theorem _e.Jw{α:Type}{P:L9 α->Prop}(h:∀ a b c d,P [a,b,c,d]):∀ us:L9 α,us.length=4->P us
 | [a,b,c,d],_=>h a b c d
theorem _e.O4{α:Type}{P:L9 α->Prop}(h:∀ a b c d e,P [a,b,c,d,e]):∀ us:L9 α,us.length=5->P us
 | [a,b,c,d,e],_=>h a b c d e
open PySem.W (Frag)
open PySem PyProof.Rows PySem.Spec
noncomputable section
variable{u v cd doc pm ct:V9}{a b it C dx f:Az}{α β:Type}{P prog:P9}{o:Obj}{t' i j k n c:Nat}{ch:L9 Az}{N ps:L9 Str}{x m qual:Str}{E Q:V9->S9->Prop}{s' s:S9}{av pl:L9 (Az×Obj)}{K:Frag}{pos':Pos}{body:L9 Stmt}{vs:Array V9}{g:Int->Int->Int}{us:L9 V9}{mA mg:Str->O9 V9}{env:Env}{outer:L9 Env}{kindOf:Str->O9 NameKind}{scope:Scope}{od:O9 Az}
namespace _a
variable{H:Hp}{M:Model}{Z:St}{es:L9 Ez}{tg:Ez}{te:TE}{base:Hz}{CX:nr}
abbrev Key:=Sum Int Str
noncomputable def uD:Key->V9->Bool
 | .inl k,v=>Value.isInt k v
 | .inr x,v=>Value.isStrOf x v
noncomputable def PQ(w:W9):Key->Int
 | .inl k=>hashInt k
 | .inr x=>hashStr w x
theorem c3:∀ {k:Key} {v:V9},uD k v=true->(∃ i t,k=Sum.inl i/\v=Value.int i t)\/(∃ x t,k=Sum.inr x/\v=Value.str x t)
 | .inl i,v,h=>by
  obtain⟨t,e⟩:=Value.isInt_shape h
  exact .inl ⟨i,t,rfl,e⟩
 | .inr x,v,h=>by
  obtain⟨t,e⟩:=Value.isStrOf_shape h
  exact .inr ⟨x,t,rfl,e⟩
theorem Xv(i:Int)(t:Tok):uD (.inl i) (.int i t)=true:=by simp[uD,Value.isInt]
theorem Xu(x:Str)(t:Tok):uD (.inr x) (.str x t)=true:=by simp[uD,Value.isStrOf]
theorem Sj(a b:Int):decide ((Sum.inl a:Key)=Sum.inl b)=(a == b):=by
 ext
theorem Si(a b:Str):decide ((Sum.inr a:Key)=Sum.inr b)=decide (a=b):=by
 simp
theorem Sf(a:Int)(b:Str):decide ((Sum.inl a:Key)=Sum.inr b)=false:=BB (λq=>nomatch q)
theorem Se(a:Str)(b:Int):decide ((Sum.inr a:Key)=Sum.inl b)=false:=BB (λq=>nomatch q)
noncomputable def dM(prog:P9)(w:W9):PySem.KeyKind prog w Key where
 is:=uD
 hash:=PQ w
 inj:=λv a b ha hb=>by
  rcases c3 ha with ⟨i,t,rfl,rfl⟩|⟨x,t,rfl,rfl⟩
  .rcases c3 hb with ⟨j,u,rfl,e⟩|⟨y,u,rfl,e⟩
   · injection e with e1 _; rw [e1]
   · exact nomatch e
  .rcases c3 hb with ⟨j,u,rfl,e⟩|⟨y,u,rfl,e⟩
   · exact nomatch e
   · injection e with e1 _; rw [e1]
 byValue:=λk v h=>by
  rcases c3 h with ⟨i,t,rfl,rfl⟩|⟨x,t,rfl,rfl⟩<;>rfl
 pyHash:=λhv h=>by
  rcases c3 hv with ⟨i,t,rfl,rfl⟩|⟨x,t,rfl,rfl⟩
  .exact wpAny_pyHash_int h
  .exact wpAny_pyHash_str h
 eqBool:=λhu hv h=>by
  rcases c3 hu with ⟨i,t,rfl,rfl⟩|⟨x,t,rfl,rfl⟩
  .rcases c3 hv with ⟨j,u,rfl,rfl⟩|⟨y,u,rfl,rfl⟩
   · rw [Sj]at h; exact wpAny_eqBool_int h
   · rw [Sf]at h; exact SeqAt.EqAt.int_str i t y u _ _ _ _ h
  .rcases c3 hv with ⟨j,u,rfl,rfl⟩|⟨y,u,rfl,rfl⟩
   · rw [Se]at h; exact SeqAt.EqAt.str_int x t j u _ _ _ _ h
   · rw [Si]at h; exact wpAny_eqBool_str h
 «strs»:=λk x t v h=>by
  rcases c3 h with ⟨i,u,rfl,e⟩|⟨y,u,rfl,e⟩
  .exact nomatch e
  .injection e with e1 _
   subst e1
   cases v<;>rfl
theorem Yk(prog:P9)(w:W9)(i:Int)(t:Tok):(dM prog w).is (.inl i) (.int i t)=true:=Xv i t
theorem Yj(prog:P9)(w:W9)(x:Str)(t:Tok):(dM prog w).is (.inr x) (.str x t)=true:=Xu x t
inductive V where
 | fg|bl (b:Bool)|int (i:Int)|str (x:Str)|yh (b:Array UInt8)|xl (b:UInt64)|ref (a:Az)|ty (n:String)
 deriving DecidableEq
def aR:V->V9->Prop
 | .fg,u=>u=Value.none
 | .bl b,u=>u=Value.bool b
 | .int i,u=>∃ t,u=Value.int i t
 | .str x,u=>∃ t,u=Value.str x t
 | .yh b,u=>∃ t,u=Value.bytes b t
 | .xl b,u=>∃ t,u=Value.float b t
 | .ref a,u=>u=Value.ref a
 | .ty n,u=>u=Value.type n
abbrev aX:L9 V->L9 V9->Prop:=Paired aR
theorem aX.length{xs:L9 V}{us:L9 V9}(r:aX xs us):xs.length=us.length:=FD r
theorem aX.get:∀ {xs:L9 V} {us:L9 V9} {i:Nat} {x:V},aX xs us->xs[i]? = some x->∃ u,us[i]? = some u/\aR x u
 | _,_,_,_,.nil,e=>by simp_all
 | _,_,0,_,.cons r _,e=>by simp_all
 | _,_,i+1,x,.cons _ t,e=>by
  have u:=aX.get t (by assumption)
  simp_all
theorem aX.set{x:V}(r:aR x u):∀ {xs:L9 V} {us:L9 V9} (i:Nat),aX xs us->aX (xs.set i x) (us.set i u)
 | _,_,_,.nil=>.nil
 | _,_,0,.cons _ t=>.cons r t
 | _,_,i+1,.cons q t=>.cons q (aX.set r i t)
theorem aX.append:∀ {xs ys:L9 V} {us ws:L9 V9},aX xs us->aX ys ws->aX (xs++ys) (us++ws)
 | _,_,_,_,.nil,s=>s
 | _,_,_,_,.cons r t,s=>.cons r (aX.append t s)
theorem aX.take:∀ {xs:L9 V} {us:L9 V9} (n:Nat),aX xs us->aX (xs.take n) (us.take n)
 | _,_,0,_=>.nil
 | _,_,_+1,.nil=>.nil
 | _,_,n+1,.cons r t=>.cons r (aX.take n t)
theorem aX.drop:∀ {xs:L9 V} {us:L9 V9} (n:Nat),aX xs us->aX (xs.drop n) (us.drop n)
 | _,_,0,r=>r
 | _,_,_+1,.nil=>.nil
 | _,_,n+1,.cons _ t=>aX.drop n t
def gU:O9 V->O9 V9->Prop
 | some v,some u=>aR v u
 | none,none=>True
 | _,_=>False
def KV{κ:Type}:L9 (κ×V)->L9 (κ×V9)->Prop:=Paired λ(p:κ×V) (q:κ×V9)=>p.1=q.1/\aR p.2 q.2
noncomputable def kV:Key->V
 | .inl i=>.int i
 | .inr x=>.str x
inductive HO where
 | lst (xs:List V)
 | tup (xs:List V)
 | dK (bd:List (Key×V))|dT (bd:List (List Key×V))
 | set (S:Int->Bool) (n:Nat)
 | ins (C dx:Az) (fs:List (Str×V))
 | own (x:Az)
 | xd (fs:List (Str×V))
 | met (f x:Az)
 | Cc (lo hi:Int)
 | pd (o:Obj) (u:HO)
 | lW (qs:List (Pos×Str))
 | nq (q:Str)
 | ext (φ:Heap->Prop)
abbrev Hp:=Az->O9 HO
noncomputable def upd(H:Hp)(a:Az)(o:HO):Hp:=λb=>if b=a then some o else H b
theorem aI{o:HO}:upd H a o a=some o:=by unfold upd;simp
theorem aE{o:HO}(h:b≠a):upd H a o b=H b:=by unfold upd;rw[AM h]
theorem kB{o u:HO}:upd (upd H a o) a u=upd H a u:=by
 unfold upd;simp_all
theorem aW{o:HO}(h:H a=some o)(h':H b=none):a≠b:=by
 ext
def lU(h:Hz)(a:Az)(d7:Array V9):Prop:=∃ o,h.get? a=some o/\(o.cls=.type "tuple"/\o.dict=none)/\∃ n,o.data=.seq d7 n
theorem lU.t{h:Hz}{b:Array V9}:lU h a b->IsTup h a b:=λo=>by obtain⟨o,e,c,n,d⟩:=o;exact⟨o,e,c.1,n,d⟩
theorem lU.new(h:Hz)(a:Array V9):lU (h.push {cls:=.type "tuple",data:=.seq a}) h.objs.size a:=⟨_,AN h rfl,⟨rfl,rfl⟩,_,rfl⟩
section
variable(P:P9)(w:W9)
def cI(H:Hp)(h:Hz)(a:Az):HO->Prop
 | .lst xs=>xs.length<=sizeLine/\∃ (d7:L9 V9) (n:Nat),aX xs d7/\h.get? a=some {cls:=.type "list",data:=.seq d7.toArray n}
 | .tup xs=>xs.length<=sizeLine/\∃ d7:L9 V9,aX xs d7/\lU h a d7.toArray
 | .dK bd=>bd.length<=sizeLine/\(a == sysModules)=false/\∃ vs,KV bd vs/\h.DictOf (dM P w) a vs
 | .dT bd=>bd.length<=sizeLine/\(a == sysModules)=false/\∃ xs:L9 (L9 Key×Az×V9),
  Paired (λ(p:L9 Key×V) (q:L9 Key×Az×V9)=>p.1=q.1/\H q.2.1=some (.tup (p.1.map kV))/\aR p.2 q.2.2) bd xs /\
  ∃ o es ep,h.get? a=some o/\o.ExactDict/\o.data=.dict es ep/\es.toList=xs.map (entryOfKey (tupleKind (dM P w)))/\(xs.map (·.1)).Nodup
 | .set S n=>h.SetOf (intKind P w) a S n
 | .ins C dx fs=>H dx=some (.own a)/\fs.length<=1000/\dx≠a/\h.get? a=some (instObj C dx) /\
  ∃ mA,h.Ns1 dx mA/\(∀ f,gU (fs.lookup f) (mA f))/\PySem.Within mA (fs.map (·.1))
 | .own _=>∃ o,h.get? a=some o
 | .xd fs=>∃ mA,h.Ns1 a mA/\∀ f,gU (fs.lookup f) (mA f)
 | .Cc lo hi=>∃ t u v,h.get? a=some {cls:=.type "range",data:=.fields #[.int lo t,.int hi u,.int 1 v]}
 | .pd o u=>h.get? a=some o/\cI H h a u
 | .lW qs=>∃ ps:Array V9,h.get? a=some {cls:=.none,data:=.fields ps}/\TriplesOk ps.toList/\∀ p∈qs,codeAmong p.1 ps.toList=none\/∃ c,codeAmong p.1 ps.toList=some (.ref c)/\H c=some (.nq p.2)
 | .nq q=>h.CodeRec (.ref a) q
 | .met f x=>h.get? a=some (PySem.W.methodObj (.ref f) (.ref x))
 | .ext φ=>φ h/\(∃ o,h.get? a=some o)/\∀ h1 h2:Hz,φ h1->(∀ o,h1.get? a=some o->h2.get? a=some o)->φ h2
def eh(H:Hp)(h:Hz):Prop:=∀ a o,H a=some o->cI P w H h a o
end
section
variable{P:P9}{w:W9}{H H':Hp}{h h':Hz}{a:Az}{o:HO}
theorem cI.lt(x:cI P w H h a o):a < h.objs.size:=by
 cases o with
 | lst xs=>obtain⟨_,_,_,e⟩:=x;exact AE e.2
 | tup xs=>obtain⟨_,_,p⟩:=x;exact p.2.t.lt
 | dK bd=>obtain⟨_,_,_,_,o,_,_,e⟩:=x;exact AE e.1
 | dT bd=>obtain⟨_,_,_,_,o,_,_,e⟩:=x;exact AE e.1
 | set S n=>obtain⟨o,_,_,_,e⟩:=x;exact AE e.1
 | ins C dx fs=>exact AE x.2.2.2.1
 | own y=>obtain⟨_,e⟩:=x;exact AE e
 | xd fs=>obtain⟨_,⟨_,_,_,e,_⟩,_⟩:=x;exact AE e
 | Cc lo hi=>obtain⟨_,_,_,e⟩:=x;exact AE e
 | pd ob u=>exact AE x.1
 | lW qs=>obtain⟨ps,e⟩:=x;exact AE e.1
 | nq q=>obtain⟨c,o,vs,t,e,b⟩:=x;cases e;exact AE b.1
 | met f y=>exact AE ((x))
 | ext φ=>obtain⟨_,⟨_,e⟩,_⟩:=x;exact AE e
theorem Paired.zp{F G:α->β->Prop}:∀ {l₁:L9 α} {l₂:L9 β},Paired F l₁ l₂->(∀ a b,F a b->G a b)->Paired G l₁ l₂
 | _,_,.nil,_=>.nil
 | _,_,.cons r t,f=>.cons (f _ _ r) (Paired.zp t f)
theorem cI.d6(x:cI P w H h a o)(k:∀ b u,(b=a\/H b=some (.own a))->h.get? b=some u->h'.get? b=some u)
  (A:∀ b,H b=some (.own a)->H' b=some (.own a)) (s:∀ b q,H b=some (.nq q)->H' b=some (.nq q)) (j:∀ b xs,H b=some (.tup xs)->H' b=some (.tup xs)):cI P w H' h' a o:=by
 induction o with
 | lst xs=>obtain⟨z,i,n,r⟩:=x;exact⟨z,i,n,r.1,k _ _ (.inl rfl) r.2⟩
 | tup xs=>obtain⟨z,i,r,g,e⟩:=x;exact⟨z,i,r,g,k _ _ (.inl rfl) e.1,e.2⟩
 | dK bd=>obtain⟨z,y,vs,r,g,es,ep,e⟩:=x;exact⟨z,y,vs,r,g,es,ep,k _ _ (.inl rfl) e.1,e.2⟩
 | dT bd=>
  obtain⟨z,y,xs,r,g,es,ep,e⟩:=x
  exact⟨z,y,xs,Paired.zp r λp q z=>⟨z.1,j _ _ z.2.1,z.2.2⟩,g,es,ep,k _ _ (.inl rfl) e.1,e.2⟩
 | set S n=>obtain⟨g,es,ep,t,e⟩:=x;exact⟨g,es,ep,t,k _ _ (.inl rfl) e.1,e.2⟩
 | ins C dx fs=>
  obtain⟨d,z,m,e,mA,⟨od,es,ep,e2,c⟩,r⟩:=x
  exact⟨A _ d,z,m,k _ _ (.inl rfl) e,mA,⟨od,es,ep,k _ _ (.inr d) e2,c⟩,r⟩
 | own y=>obtain⟨g,e⟩:=x;exact⟨g,k _ _ (.inl rfl) e⟩
 | xd fs=>obtain⟨mA,⟨od,es,ep,e,c⟩,r⟩:=x;exact⟨mA,⟨od,es,ep,k _ _ (.inl rfl) e,c⟩,r⟩
 | Cc lo hi=>obtain⟨t,u,v,e⟩:=x;exact⟨t,u,v,k _ _ (.inl rfl) e⟩
 | pd g u ih=>exact⟨k _ _ (.inl rfl) x.1,ih x.2⟩
 | lW qs=>
  obtain⟨ps,e⟩:=x
  refine⟨ps,k _ _ (.inl rfl) e.1,e.2.1,λp l=>?_⟩
  rcases e.2.2 p l with z|⟨c,z,B⟩
  · exact .inl z
  · exact .inr ⟨c, z, s _ _ B⟩
 | nq q=>
  obtain⟨c,o,vs,t,e⟩:=x
  cases e.1
  exact⟨_,o,vs,t,rfl,k _ _ (.inl rfl) e.2.1,e.2.2⟩
 | met f y=>
  exact k a _ (.inl rfl) x
 | ext φ=>obtain⟨p,⟨o,e⟩,st⟩:=x;exact⟨st _ _ p λo q=>k _ _ (.inl rfl) q,⟨o,k _ _ (.inl rfl) e⟩,st⟩
theorem eh.lt(x:eh P w H h)(e:H a=some o):a < h.objs.size:=(x a o e).lt
theorem eh.fresh(x:eh P w H h)(e:h.objs.size<=a):H a=none:=by
 cases q:H a with
 | none=>rfl
 | some u=>exact absurd (AX (x.lt q) e) (B4 _)
theorem eh.kept(x:eh P w H h)(k:∀ b u,h.get? b=some u->h'.get? b=some u):eh P w H h':=λa o e=>
 (x a o e).d6 (λb u _ q=>k b u q) (λ_ q=>q) (λ_ _ q=>q) λ_ _ q=>q
theorem eh.laid(x:eh P w H h)(k:∀ b u,h.get? b=some u->h'.get? b=some u)(d:h.objs.size<=a)(new:cI P w (upd H a o) h' a o):eh P w (upd H a o) h':=λb u e=>by
 by_cases f:b=a
 .subst f;rw[aI]at e;ext
 .rw[aE f]at e
  exact(x b u e).d6 (λc v _ q=>k c v q) (λc q=>by rw[aE (aW q (x.fresh d))];ext) (λc xs q=>by rw[aE (aW q (x.fresh d))];ext) λc xs q=>by rw[aE (aW q (x.fresh d))];ext
end
def Rd(H:Hp)(a:Az)(u:HO):Prop:=H a=some u\/∃ o,H a=some (.pd o u)
theorem Rd.ok{w:W9}{h:Hz}{u:HO}(r:Rd H a u)(x:eh P w H h):cI P w H h a u:=by
 rcases r with r|⟨o,r⟩
 .exact x a u r
 .obtain ⟨_,q⟩:=x a _ r
  ext
def Bp:O9 HO->Prop
 | some (.lst _)=>True
 | some (.dK _)=>True
 | some (.dT _)=>True
 | some (.set _ _)=>True
 | some (.ins _ _ _)=>True
 | some (.ext _)=>True
 | _=>False
section
variable{P:P9}{w:W9}{H:Hp}{h h':Hz}{x e:Az}{o':HO}
theorem eh.write(ok:eh P w H h)(a:Bp (H x))(m:e=x\/H e=some (.own x))(k:∀ b u,b≠e->h.get? b=some u->h'.get? b=some u)(f:∃ u,h'.get? e=some u)
  (new:cI P w (upd H x o') h' x o'):eh P w (upd H x o') h':=λb u q=>by
 have d:∀ c y,H c=some (.own y)->c≠x:=λc y r z=>by subst z;rw[r]at a;exact a
 by_cases g:b=x
 .subst g;rw[aI]at q;simp_all
 .rw[aE g]at q
  by_cases j:b=e
  .have i:H b=some (.own x):=by
    simp_all
   rw[q]at i;cases i
   obtain⟨v,n⟩:=f
   exact⟨v,by simp_all⟩
  .refine (ok b u q).d6 (λc v l r=>k c v ?_ r) (λc r=>by rw[aE (d c b r)];ext) (λc xs r=>by rw[aE ((λc xs r z=>by subst z;rw[r]at a;exact a) c xs r)];ext) λc xs r=>by rw[aE ((λc xs r z=>by subst z;rw[r]at a;exact a) c xs r)];ext
   ext
end
structure Un(fs ex:List Az)(H H':Hp)(h h':Heap):Prop where
 keep:∀ b o,h.get? b=some o->H b=none->b∉fs->b∉ex->h'.get? b=some o
 slot:∀ b o,h.get? b=some o->H b=none->b∈fs->b∉ex->∃ sl,h'.get? b=some {o with slots:=sl}
 free:∀ b o,h.get? b=some o->H b=none->b∉ex->H' b=none
 there:∀ b o,h.get? b=some o->b∉ex->∃ o',h'.get? b=some o'
 ib:∀ b xs,H b=some (.tup xs)->H' b=some (.tup xs)
 hB:∀ b o u,H b=some (.pd o u)->H' b=some (.pd o u)
 gx:∀ b ps,H b=some (.lW ps)->H' b=some (.lW ps)
section
variable{fs wc ex Za:L9 Az}{H H1 H2:Hp}{h h1 h2 h':Hz}{a x e:Az}{o:HO}
theorem Un.any(u:Un fs ex H H1 h h1){a:Obj}(q:h.get? b=some a)(n:H b=none)(hx:b∉ex):∃ sl,h1.get? b=some {a with slots:=sl}:=by
 by_cases c:b∈fs
 · exact u.slot b a q n c hx
 · exact⟨a.slots, u.keep b a q n c hx⟩
theorem Un.trans(a:Un fs ex H H1 h h1)(b:Un fs ex H1 H2 h1 h2):Un fs ex H H2 h h2 where
 keep:=λc e q n f d=>b.keep c e (a.keep c e q n f d) (a.free c e q n d) f d
 slot:=λc e q n f d=>by
  obtain⟨sl,e1⟩:=a.slot c e q n f d
  obtain⟨g,e2⟩:=b.slot c _ e1 (a.free c e q n d) f d
  exact⟨g,e2⟩
 free:=λc e q n d=>by
  obtain⟨o',e1⟩:=a.there c e q d
  exact b.free c o' e1 (a.free c e q n d) d
 there:=λc e q d=>by
  obtain⟨o',e1⟩:=a.there c e q d
  exact b.there c o' e1 d
 ib:=λc xs q=>b.ib c xs (a.ib c xs q)
 hB:=λc e xs q=>b.hB c e xs (a.hB c e xs q)
 gx:=λc ps q=>b.gx c ps (a.gx c ps q)
theorem Un.kept(k:∀ b u,h.get? b=some u->h'.get? b=some u):Un fs ex H H h h':=
 ⟨λb a q _ _ _=>k b a q,λb a q _ _ _=>⟨a.slots,k b a q⟩,λ_ _ _ n _=>n,λb a q _=>⟨a,k b a q⟩,λ_ _ q=>q,λ_ _ _ q=>q,λ_ _ q=>q⟩
theorem Un.refl:Un fs ex H H h h:=Un.kept λ_ _ q=>q
theorem Un.laid(k:∀ b u,h.get? b=some u->h'.get? b=some u)(d:h.objs.size<=a)(c:H a=none):Un fs ex H (upd H a o) h h' where
 keep:=λb u q _ _ _=>k b u q
 slot:=λb u q _ _ _=>⟨u.slots,k b u q⟩
 free:=λb u q n _=>by rw[aE (A0 (AX (AE q) d))];exact n
 there:=λb u q _=>⟨u,k b u q⟩
 ib:=λb xs q=>by rw[aE (aW q c)];exact q
 hB:=λb u xs q=>by rw[aE (aW q c)];exact q
 gx:=λb ps q=>by rw[aE (aW q c)];exact q
theorem Un.write(c:Bp (H x))(j:e=x\/H e=some (.own x))(k:∀ b u,b≠e->h.get? b=some u->h'.get? b=some u)(i:∃ u,h'.get? e=some u):Un fs ex H (upd H x o) h h':=by
 have g:∀ b,H b=none->b≠x:=λb n z=>by subst z;rw[n]at c;exact c
 have d:∀ b,H b=none->b≠e:=λb n z=>by
  simp_all
 have a:∀ b u,H b=some u->¬ Bp (some u)->b≠x:=λb u q nm z=>by simp_all
 refine⟨λb u q n _ _=>k b u (d b n) q,λb u q n _ _=>⟨u.slots,k b u (d b n) q⟩,λb u q n _=>by rw[aE (g b n)];ext,λb u q _=>?_,
  λb xs q=>by rw[aE (a b _ q λz=>z)];ext,λb u xs q=>by rw[aE (a b _ q λz=>z)];ext,λb ps q=>by rw[aE (a b _ q λz=>z)];ext⟩
 by_cases f:b=e<;>simp_all
end
noncomputable def Jh(h:Hz)(H:Hp):L9 Az:=(range h.objs.size).filter λa=>(H a).isSome
def rZ(h:Hz)(H:Hp):Hz:=PySem.W.hideAll h (Jh h H)
theorem Xt(h:Hz)(H:Hp):(rZ h H).objs.size=h.objs.size:=PySem.W.hideAll_size _ _
theorem WO{h:Hz}(e:h.get? b=some o)(n:H b=none):(rZ h H).get? b=some o:=
 PySem.W.hideAll_get _ e λa=>by
  have q:=(List.mem_filter.mp a).2
  simp_all
theorem U4{h:Hz}(e:(rZ h H).get? b=some o):h.get? b=some o/\H b=none:=by
 refine⟨(of_hideAll _ e),?_⟩
 cases q:H b with
 | none=>rfl
 | some x=>
  have z:(rZ h H).get? b=none:=PySem.W.hideAll_none _ (List.mem_filter.mpr ⟨B9.mpr (AE (of_hideAll _ e)),by simp[q]⟩)
  simp_all
structure Mod(K:Frag)(mg:Str->Option V9)(base:Heap):Prop where
 jy:K.In base
 glob:base.Ns mainGlobals mg
 blt:∃ mb,base.Ns builtinsNs mb/\∀ x:Str,x≠"__name__"->mb x=bootBuiltins x
 nolimit:base.NoLimit
structure Cx where
 prog:Program
 w:World
 K:Frag
 mg:Str->Option V9
 base:Heap
 A:Around
 N:List Str
 s₀:S9
 H₀:Hp
 env:Env
 outer:List Env
 stack:List Env
 ex:List Az
 fn:Str->Bool
 calm:Bool
 pn:List (Az×Obj)
 xe:V9->S9->Prop
noncomputable def ph(l:L9 Env):L9 Az:=l.filterMap (·.frame)
abbrev Cx.fs(X:Cx):L9 Az:=ph X.outer
def Ff(sc:Scope)(x:Str):Prop:=sc.names.lookup x=some .local\/sc.names.lookup x=some .cell\/sc.names.lookup x=some .free
def Loc(sc:Scope)(x:Str):Prop:=sc.names.lookup x=some .local\/sc.names.lookup x=some .cell
def PM(env:Env)(h:Hz)(m:Str->O9 V9)(x:Str)(u:V9):Prop:=
 (env.kindOf x=some .local/\m x=some u)\/((env.kindOf x=some .cell\/env.kindOf x=some .free)/\∃ c,env.cells.lookup x=some c/\h.IsCell c (some u))
structure Cx.Ok(X:Cx):Prop where
 mod:Mod X.K X.mg X.base
 kind:X.env.scope.kind=.function
 glob:X.env.globals=mainGlobals
 blt:X.env.builtins=builtinsNs
 above:X.s₀.heap.objs.size<=X.env.locals
 inj:∀ x y c,X.env.cells.lookup x=some c->X.env.cells.lookup y=some c->x=y
 has:∀ x,(X.env.kindOf x=some .cell\/X.env.kindOf x=some .free)->∃ c,X.env.cells.lookup x=some c
 vx:∀ x c,X.fn x=true->X.env.cells.lookup x=some c->X.s₀.heap.objs.size<=c
 hd:X.calm=true->X.A.handled=none
 frames:X.A.frames=some X.stack
 w5:X.stack=X.outer\/(X.stack=X.env::X.outer/\X.env.frame=some X.env.locals)
 z6:∀ b∈X.ex,b≠X.env.locals/\∀ x c,X.env.cells.lookup x=some c->c≠b
 bs:∀ b o,X.base.get? b=some o->X.s₀.heap.get? b=some o/\X.H₀ b=none
 qh:X.base.objs.size<=X.s₀.heap.objs.size
 n3:∀ b o,X.base.get? b=some o->b∉X.ex
 pj:∀ b∈X.ex,b∉X.fs
 g_:X.s₀.heap.FunFrames X.base X.outer
 ro:∀ b∈X.fs,X.H₀ b=none
structure Inv(X:Cx)(av:List (Az×Obj))(Z:List (Option V))(H:Hp)(s:S9):Prop where
 ok:X.Ok
 os:s.os=X.s₀.os
 bare:AllBare s.gens
 base:Un X.fs X.ex X.H₀ H X.s₀.heap s.heap
 loc:∃ m,s.heap.Ns X.env.locals m/\∀ (i:Nat) (x:Str) (v:V),X.N[i]? = some x->Z[i]? = some (some v)->Ff X.env.scope x->∃ u,aR v u/\PM X.env s.heap m x u
 cell:∀ x c,X.env.cells.lookup x=some c->∃ v,s.heap.IsCell c v
 free:H X.env.locals=none
 ek:∀ x c,X.env.cells.lookup x=some c->H c=none
 pin:∀ p∈X.pn++av,s.heap.get? p.1=some p.2/\H p.1=none/\p.1≠X.env.locals/\p.1∉X.fs/\∀ v,p.2.data≠.cell v
 cj:eh X.prog X.w H s.heap
 len:Z.length=X.N.length
section
variable{X:Cx}{av:L9 (Az×Obj)}{Z:L9 (O9 V)}{H H':Hp}{s:S9}{h':Hz}
theorem Cx.Ok.Ga(ok:X.Ok)(e:X.base.get? b=some o):b∉X.fs:=λa=>by
 have:=(ok.g_.mem a).1
 simp_all
theorem Inv.bs(I:Inv X av Z H s):∀ b o,X.base.get? b=some o->s.heap.get? b=some o/\H b=none:=λb o e=>
 ⟨I.base.keep b o (I.ok.bs b o e).1 (I.ok.bs b o e).2 (I.ok.Ga e) (I.ok.n3 b o e),I.base.free b o (I.ok.bs b o e).1 (I.ok.bs b o e).2 (I.ok.n3 b o e)⟩
theorem Inv.bk(I:Inv X av Z H s):∀ b o,X.base.get? b=some o->s.heap.get? b=some o:=λb o e=>(I.bs b o e).1
theorem Inv.mod(I:Inv X av Z H s):Mod X.K X.mg X.base:=I.ok.mod
theorem Inv.ee(I:Inv X av Z H s):X.K.In s.heap:=I.ok.mod.jy.keeps I.bk
theorem Inv.lt(I:Inv X av Z H s):X.env.locals < s.heap.objs.size:=let ⟨_,hn,_⟩:=I.loc;hn.lt
theorem Inv.sz(I:Inv X av Z H s):X.s₀.heap.objs.size<=s.heap.objs.size:=A6 I.ok.above (B6 I.lt)
theorem Inv.zl(I:Inv X av Z H s)(h:s.heap.objs.size<=a):a∉X.fs:=λc=>by
 obtain⟨_,o,b⟩:=I.ok.g_.mem c
 exact absurd (AX (AE b.1) (A6 I.sz h)) (B4 _)
theorem Inv.wg(I:Inv X av Z H s):∀ x c,X.env.cells.lookup x=some c->c≠X.env.locals:=λx c e z=>by
 obtain⟨v,o,d⟩:=I.cell x c e
 obtain⟨m,⟨o',es,ep,b,a,_⟩,_⟩:=I.loc
 simp_all
theorem Inv.g_(I:Inv X av Z H s):s.heap.FunFrames X.base X.outer:=by
 have all:∀ l,(∀ b∈ph l,b∈X.fs)->X.s₀.heap.FunFrames X.base l->s.heap.FunFrames X.base l:=by
  intro l
  induction l with
  | nil=>intro _ _;trivial
  | cons env r ih=>
   intro f j
   obtain⟨g,⟨L,o,d,h,i,k⟩,hr⟩:=j
   have a:=f L (by unfold ph;rw[EF,d];exact A5)
   obtain⟨sl,e⟩:=I.base.slot L o i (I.ok.ro L a) a λz=>I.ok.pj L z a
   exact⟨g,⟨L,_,d,h,e,k⟩,ih (λb c=>f b (by unfold ph;rw[EF,d];exact AU _ c)) hr⟩
 exact all X.outer (λ_ c=>c) I.ok.g_
theorem Inv.stack(I:Inv X av Z H s):s.heap.FunFrames X.base X.stack:=by
 rcases I.ok.w5 with e|⟨e,b⟩
 .rw[e];exact I.g_
 .rw[e]
  obtain⟨m,a⟩:=I.loc
  refine .cons (by rw[I.ok.kind];decide) b a.1 ?_ I.g_
  exact EY (A6 I.ok.qh I.ok.above)
theorem Inv.l0(I:Inv X av Z H s):∀ b∈ph X.stack,b∈X.env.locals::X.fs:=λb a=>by
 rcases I.ok.w5 with e|⟨e,c⟩
 .simp_all
 .rw[e]at a
  unfold ph at a
  rw[EF,c]at a
  exact a
theorem Inv.ly(I:Inv X av Z H s):∀ b∈ph X.stack,H b=none:=λb a=>by
 rcases AQ.mp (I.l0 b a)with e|a
 .rw[e];exact I.free
 .obtain ⟨_,o,c⟩:=I.ok.g_.mem a
  exact I.base.free b o c.1 (I.ok.ro b a) λz=>I.ok.pj b z a
theorem Inv.step{g':Array GenState}{d':Drawn}{ch:L9 Az}(I:Inv X av Z H s)
  (f:∀ b∈ch,(b∈X.ex\/X.s₀.heap.objs.size<=b)/\b≠X.env.locals/\(∀ x c,X.env.cells.lookup x=some c->c≠b)/\∀ p∈X.pn++av,p.1≠b)
  (keep:∀ b o,b≠X.env.locals->b∉X.fs->b∉ch->s.heap.get? b=some o->H b=none->h'.get? b=some o)
  (slot:∀ b o,b≠X.env.locals->b∈X.fs->b∉ch->s.heap.get? b=some o->H b=none->∃ sl,h'.get? b=some {o with slots:=sl}) (free:∀ b o,b∉ch->s.heap.get? b=some o->H b=none->H' b=none)
  (there:∀ b o,b∉ch->s.heap.get? b=some o->∃ o',h'.get? b=some o')
  (ib:∀ b xs,H b=some (.tup xs)->H' b=some (.tup xs)) (hB:∀ b o u,H b=some (.pd o u)->H' b=some (.pd o u)) (gx:∀ b ps,H b=some (.lW ps)->H' b=some (.lW ps))
  (ns:∀ m,s.heap.Ns X.env.locals m->h'.Ns X.env.locals m) (cj:eh X.prog X.w H' h') (hg:AllBare g') :
  Inv X av Z H' {s with heap:=h',gens:=g',drawn:=d',toks:=t'}:=by
 have h:∀ b o,X.s₀.heap.get? b=some o->b∉X.ex->b∉ch:=λb o e a j=>by
  rcases(f b j).1 with z|z
  .exact a z
  .exact absurd (AX (AE e) z) (B4 _)
 have g:∀ x c,X.env.cells.lookup x=some c->∀ v,s.heap.IsCell c v->h'.IsCell c v:=λx c e v y=>by
  obtain⟨o,t,E⟩:=y
  have d:=λz=>(f c z).2.2.1 x c e rfl
  by_cases B:c∈X.fs
  .obtain ⟨sl,q⟩:=slot c o (I.wg x c e) B d t (I.ek x c e)
   exact⟨_,q,E⟩
  .exact ⟨o,keep c o (I.wg x c e) B d t (I.ek x c e),E⟩
 refine⟨I.ok,I.os,hg,⟨λb o e n j a=>?_,λb o e n j a=>?_,λb o e n a=>?_,λb o e a=>?_,λb xs e=>ib b xs (I.base.ib b xs e),λb o xs e=>hB b o xs (I.base.hB b o xs e),λb ps e=>?_⟩,?_,λx c e=>?_,?_,λx c e=>?_,λp C=>?_,cj,I.len⟩
 .exact keep b o ((λb o e=>A0 (AX (AE e) I.ok.above)) b o e) j (h b o e a) (I.base.keep b o e n j a) (I.base.free b o e n a)
 .obtain ⟨sl,e1⟩:=I.base.slot b o e n j a
  obtain⟨A,e2⟩:=slot b _ ((λb o e=>A0 (AX (AE e) I.ok.above)) b o e) j (h b o e a) e1 (I.base.free b o e n a)
  exact⟨A,e2⟩
 .obtain ⟨o',e1⟩:=I.base.there b o e a
  exact free b o' (h b o e a) e1 (I.base.free b o e n a)
 .obtain ⟨o',e1⟩:=I.base.there b o e a
  exact there b o' (h b o e a) e1
 .exact gx b ps (I.base.gx b ps e)
 .obtain ⟨m,D⟩:=I.loc
  refine⟨m,ns m D.1,λi x v e1 e2 F=>?_⟩
  obtain⟨u,r,l⟩:=D.2 i x v e1 e2 F
  refine⟨u,r,?_⟩
  rcases l with l|⟨k,c,e,z⟩
  .exact .inl l
  .exact .inr ⟨k,c,e,g x c e _ z⟩
 .obtain ⟨v,z⟩:=I.cell x c e
  exact⟨v,g x c e v z⟩
 .obtain ⟨m,⟨o,_,_,t,_⟩,_⟩:=I.loc
  exact free _ o (λz=>(f _ z).2.1 rfl) t I.free
 .obtain ⟨v,o,t⟩:=I.cell x c e
  exact free c o (λz=>(f c z).2.2.1 x c e rfl) t.1 (I.ek x c e)
 .have e:=I.pin p C
  have d:=λz=>(f p.1 z).2.2.2 p C rfl
  exact⟨keep p.1 p.2 e.2.2.1 e.2.2.2.1 d e.1 e.2.1,free p.1 p.2 d e.1 e.2.1,e.2.2.1,e.2.2.2.1,e.2.2.2.2⟩
theorem Inv.un{t':Nat}(I:Inv X av Z H s)(u:Un X.fs [] H H' s.heap h')(cj:eh X.prog X.w H' h'):Inv X av Z H' {s with heap:=h',toks:=t'}:=by
 obtain⟨m,⟨o,es,ep,g,r⟩,_⟩:=id I.loc
 obtain⟨sl,i⟩:=u.any g I.free (by simp)
 exact I.step (ch:=[]) (λ_ z=>nomatch z) (λb o _ c _ e n=>u.keep b o e n c (by simp)) (λb o _ c _ e n=>u.slot b o e n c (by simp)) (λb o _ e n=>u.free b o e n (by simp)) (λb o _ e=>u.there b o e (by simp)) u.ib u.hB u.gx (λk h=>by
  obtain⟨o',f,d,a,j⟩:=h
  rw[g]at a;cases a
  exact⟨_,f,d,i,j⟩) cj I.bare
theorem Inv.call{g':Array GenState}{d':Drawn}(I:Inv X av Z H s)(u:Un (ph X.stack) ch H H' s.heap h')(cj:eh X.prog X.w H' h')(k:AllBare g')
  (d:∀ b∈ch,(b∈X.ex\/X.s₀.heap.objs.size<=b)/\b≠X.env.locals/\(∀ x c,X.env.cells.lookup x=some c->c≠b)/\∀ p∈X.pn++av,p.1≠b) :
  Inv X av Z H' {s with heap:=h',gens:=g',drawn:=d',toks:=t'}:=by
 obtain⟨m,⟨o,es,ep,j,r⟩,_⟩:=id I.loc
 obtain⟨sl,g⟩:=u.any j I.free λz=>(d _ z).2.1 rfl
 exact I.step d (λb o g q a e n=>u.keep b o e n (λz=>(AQ.mp (I.l0 b z)).elim g q) a) (λb o _ _ a e n=>u.any e n a) (λb o a e n=>u.free b o e n a) (λb o a e=>u.there b o e a) u.ib u.hB u.gx (λv l=>by
  obtain⟨o',i,h,f,t⟩:=l
  rw[j]at f;cases f
  exact⟨_,i,h,g,t⟩) cj k
theorem Inv.turned{t':Nat}{it:Az}(I:Inv X av Z H s)(k:∀ b o,b≠it->s.heap.get? b=some o->h'.get? b=some o)(l:H it=none)(f:it≠X.env.locals)
  (h1:it∈X.ex\/X.s₀.heap.objs.size<=it) (h2:∀ x c,X.env.cells.lookup x=some c->c≠it) (j:∀ p∈X.pn++av,p.1≠it):Inv X av Z H {s with heap:=h',toks:=t'}:=by
 have d:∀ b u,H b=some u->b≠it:=λb u e z=>by ext
 refine I.step (ch:=[it]) (λb i=>?_) (λb o _ _ a e _=>k b o (λz=>a (by simp[z])) e) (λb o _ _ a e _=>⟨o.slots,k b o (λz=>a (by simp[z])) e⟩) (λ_ _ _ _ n=>n)
  (λb o a e=>⟨o,k b o (λz=>a (by simp[z])) e⟩) (λ_ _ e=>e) (λ_ _ _ e=>e) (λ_ _ e=>e) (λm h=>?_) (λb u e=>?_) I.bare
 .have e:=by simpa using i
  subst e
  exact⟨h1,f,h2,j⟩
 .obtain ⟨o,es,ep,g⟩:=h
  exact⟨o,es,ep,k _ o (BD f) g.1,g.2⟩
 .refine (I.cj b u e).d6 (λc v a q=>k c v ?_ q) (λ_ q=>q) (λ_ _ q=>q) λ_ _ q=>q
  rcases a with z|z
  · rw [z]; exact d b u e
  · exact d c _ z
theorem Inv.tok(I:Inv X av Z H s)(t:Nat):Inv X av Z H {s with toks:=t}:=I.un Un.refl I.cj
theorem Inv.kept{t':Nat}(I:Inv X av Z H s)(k:∀ b u,s.heap.get? b=some u->h'.get? b=some u):Inv X av Z H {s with heap:=h',toks:=t'}:=I.un (Un.kept k) (I.cj.kept k)
theorem Inv.laid{o:HO}{t':Nat}(I:Inv X av Z H s)(k:∀ b u,s.heap.get? b=some u->h'.get? b=some u)(c:s.heap.objs.size<=a)(new:cI X.prog X.w (upd H a o) h' a o) :
 Inv X av Z (upd H a o) {s with heap:=h',toks:=t'}:=I.un (Un.laid k c (I.cj.fresh c)) (I.cj.laid k c new)
theorem Inv.write{x e:Az}{o:HO}(I:Inv X av Z H s)(d:Bp (H x))(c:e=x\/H e=some (.own x))(k:∀ b u,b≠e->s.heap.get? b=some u->h'.get? b=some u)(a:∃ u,h'.get? e=some u)
 (new:cI X.prog X.w (upd H x o) h' x o):Inv X av Z (upd H x o) {s with heap:=h',toks:=t'}:=I.un (Un.write d c k a) (I.cj.write d c k a new)
theorem Inv.ez{pins':L9 (Az×Obj)}(I:Inv X av Z H s)(h:∀ p∈pins',s.heap.get? p.1=some p.2/\H p.1=none/\p.1≠X.env.locals/\p.1∉X.fs/\∀ v,p.2.data≠.cell v):Inv X pins' Z H s:=
 ⟨I.ok,I.os,I.bare,I.base,I.loc,I.cell,I.free,I.ek,λp a=>(BN.mp a).elim (λz=>I.pin p (C6 _ z)) (h p),I.cj,I.len⟩
theorem wJ(c:N.Nodup)(a:N[i]? = some x)(b:N[j]? = some x):i=j:=by
 exact(List.getElem_inj c).mp ((AH.mp a).2.trans (AH.mp b).2.symm)
theorem Ot{A:U9}{v:V}{Q:Unit->S9->Prop}(I:Inv X av Z H s)(hN:X.N.Nodup)(hi:X.N[i]? = some x)(hx:Loc X.env.scope x)(r:aR v u)
  (h:∀ s',Inv X av (Z.set i (some v)) H s'->(∃ a,Heap.SameBut a s.heap s'.heap/\(a=X.env.locals\/X.env.cells.lookup x=some a))->Q () s') (hf:X.fn x=true\/X.env.scope.names.lookup x=some .local):wpAny M A (storeName X.env x u) Q E s:=by
 obtain⟨m,W,hl⟩:=id I.loc
 have l:i < Z.length:=by rw[I.len];exact(AH.mp hi).1
 have f:∀ {a:Az} {h':Hz},(∃ o,s.heap.get? a=some o/\H a=none)->Heap.SameBut a s.heap h'->eh X.prog X.w H h':=λ{a h'} ha d b ob e=>by
  refine(I.cj b ob e).d6 (λc K g q=>(d.2 c ?_).trans q) (λ_ q=>q) (λ_ _ q=>q) λ_ _ q=>q
  ext
 rcases hx with F|F
 .refine wpAny_storeName_local F W (λh' P d=>?_) (by rw[I.ok.kind];rfl)
  obtain⟨oL,_,_,Y⟩:=id W
  refine h _ ⟨I.ok,I.os,I.bare,⟨λb o e n B hx=>?_,λb o e n B hx=>?_,I.base.free,λb o e hx=>?_,I.base.ib,I.base.hB,I.base.gx⟩,⟨_,P,λj y R e1 e2 T=>?_⟩,λy c e=>?_,I.free,I.ek,λp U=>?_,f ⟨oL,Y.1,I.free⟩ d,by simpa using I.len⟩ ⟨_,d,.inl rfl⟩
  .exact (d.2 b (A0 (AX (AE e) I.ok.above))).trans (I.base.keep b o e n B hx)
  .obtain ⟨sl,e1⟩:=I.base.slot b o e n B hx
   exact⟨sl,(d.2 b (A0 (AX (AE e) I.ok.above))).trans e1⟩
  .obtain ⟨o',e1⟩:=I.base.there b o e hx
   exact⟨o',(d.2 b (A0 (AX (AE e) I.ok.above))).trans e1⟩
  .by_cases t:j=i
   .subst t
    rw[hi]at e1;cases e1
    rw[BV l]at e2
    cases e2
    exact⟨u,r,.inl ⟨F,by simp⟩⟩
   .rw[A1 (BD t)]at e2
    obtain⟨S,O⟩:=hl j y R e1 e2 T
    refine⟨S,O.1,?_⟩
    rcases O.2 with ⟨k,e⟩|⟨k,c,e,z⟩
    .refine .inl ⟨k,?_⟩
     have:y≠x:=λe=>t (wJ hN e1 (e▸hi))
     simp_all
    .exact .inr ⟨k,c,e,z.sameBut d (I.wg y c e)⟩
  .obtain ⟨K,z⟩:=I.cell y c e
   exact⟨K,z.sameBut d (I.wg y c e)⟩
  .have e:=I.pin p U
   exact⟨(d.2 p.1 e.2.2.1).trans e.1,e.2.1,e.2.2.1,e.2.2.2.1,e.2.2.2.2⟩
 .have D:X.fn x=true:=by
   simp_all
  obtain⟨c,g⟩:=I.ok.has x (.inl F)
  obtain⟨K,z⟩:=I.cell x c g
  refine wpAny_storeName_cell I.ok.kind F g z (λh' J d=>?_)
  obtain⟨oc,C⟩:=id z
  refine h {s with heap:=h'} ⟨I.ok,I.os,I.bare,⟨λb o e n B hx=>?_,λb o e n B hx=>?_,I.base.free,λb o e hx=>?_,I.base.ib,I.base.hB,I.base.gx⟩,⟨m,W.sameBut d (BD (I.wg x c g)),λj y R e1 e2 T=>?_⟩,λy L e=>?_,I.free,I.ek,λp U=>?_,f ⟨oc,C.1,I.ek x c g⟩ d,by simpa using I.len⟩ ⟨c,d,.inr g⟩
  .exact (d.2 b (A0 (AX (AE e) (I.ok.vx x c D g)))).trans (I.base.keep b o e n B hx)
  .obtain ⟨sl,e1⟩:=I.base.slot b o e n B hx
   exact⟨sl,(d.2 b (A0 (AX (AE e) (I.ok.vx x c D g)))).trans e1⟩
  .obtain ⟨o',e1⟩:=I.base.there b o e hx
   exact⟨o',(d.2 b (A0 (AX (AE e) (I.ok.vx x c D g)))).trans e1⟩
  .by_cases t:j=i
   .subst t
    rw[hi]at e1;cases e1
    rw[BV l]at e2
    cases e2
    exact⟨u,r,.inr ⟨.inl F,c,g,J⟩⟩
   .rw[A1 (BD t)]at e2
    obtain⟨S,O,q⟩:=hl j y R e1 e2 T
    refine⟨S,O,?_⟩
    rcases q with q|⟨k,L,e,z'⟩
    .exact .inl q
    .refine .inr ⟨k,L,e,z'.sameBut d ?_⟩
     rintro rfl
     exact t (wJ hN e1 (I.ok.inj _ _ _ e g▸hi))
  .by_cases G:L=c
   .subst G;exact⟨_,J⟩
   .obtain ⟨w2,z2⟩:=I.cell y L e
    exact⟨w2,z2.sameBut d G⟩
  .obtain ⟨e,n⟩:=I.pin p U
   refine⟨(d.2 p.1 ?_).trans e,n.1,n.2.1,n.2.2.1,n.2.2.2⟩
   intro q
   rw[q,C.1]at e
   exact n.2.2.2 K (by rw[<-(CB e)];exact C.2)
theorem m6{A:U9}{v:V}{Q:Unit->S9->Prop}(I:Inv X av Z H s)(c:X.N.Nodup)(hi:X.N[i]? = some x)(hx:Loc X.env.scope x)(r:aR v u)
  (h:∀ s',Inv X av (Z.set i (some v)) H s'->Q () s') (b:X.fn x=true\/X.env.scope.names.lookup x=some .local):wpAny M A (storeName X.env x u) Q E s:=
 Ot I c hi hx r (λs' a _=>h s' a) b
theorem Inv.uk(I:Inv X av Z H s)(d:s'.os=s.os)(u:Un (ph X.stack) ch H H' s.heap s'.heap)(cj:eh X.prog X.w H' s'.heap)(e:AllBare s'.gens)
  (a:∀ b∈ch,(b∈X.ex\/X.s₀.heap.objs.size<=b)/\b≠X.env.locals/\(∀ x c,X.env.cells.lookup x=some c->c≠b)/\∀ p∈X.pn++av,p.1≠b):Inv X av Z H' s':=by
 obtain⟨h',f⟩:=s'
 subst d
 exact I.call u cj e a
end
abbrev XK:=V9->O9 Az->Hp->Prop
abbrev St:=L9 (O9 V)
abbrev VK:=V->Hp->Prop
abbrev TE:=St->Hp->VK->Prop
abbrev TT:=St->Hp->(Bool->Hp->Prop)->Prop
abbrev TA:=St->Hp->(L9 V->Hp->Prop)->Prop
structure iL where
 nx:St->Hp->Prop
 rt:VK
 bk:St->Hp->Prop:=λ_ _=>False
 ct:St->Hp->Prop:=λ_ _=>False
abbrev TS:=iL->St->Hp->Prop
def EP(X:Cx)(av:L9 (Az×Obj))(Z:St)(Q:VK)(u:V9)(s':S9):Prop:=∃ v H',Inv X av Z H' s'/\aR v u/\Q v H'
def TP(X:Cx)(av:L9 (Az×Obj))(Z:St)(Q:Bool->Hp->Prop)(b:Bool)(s':S9):Prop:=∃ H',Inv X av Z H' s'/\Q b H'
def AP(X:Cx)(av:L9 (Az×Obj))(Z:St)(Q:L9 V->Hp->Prop)(us:L9 V9)(s':S9):Prop:=∃ vs H',Inv X av Z H' s'/\aX vs us/\Q vs H'
def SP(X:Cx)(av:L9 (Az×Obj))(D:iL)(f:Flow)(s':S9):Prop:=
 match f with
 | .next=>∃ Z' H',Inv X av Z' H' s'/\D.nx Z' H'
 | .brk=>∃ Z' H',Inv X av Z' H' s'/\D.bk Z' H'
 | .cont=>∃ Z' H',Inv X av Z' H' s'/\D.ct Z' H'
 | .ret u=>∃ v Z' H',Inv X av Z' H' s'/\aR v u/\D.rt v H'
def PE(X:Cx)(e:Ez)(t:TE):Prop:=
 ∀ (av:L9 (Az×Obj)) (s:S9) (Z:St) (H:Hp) (Q:VK),Inv X av Z H s->t Z H Q->wpAny (model X.prog X.w) X.A (eval e X.env) (EP X av Z Q) X.xe s
def PT(X:Cx)(e:Ez)(t:TT):Prop:=
 ∀ (av:L9 (Az×Obj)) (s:S9) (Z:St) (H:Hp) (Q:Bool->Hp->Prop),Inv X av Z H s->t Z H Q->wpAny (model X.prog X.w) X.A (isTrue e X.env (eval e X.env)) (TP X av Z Q) X.xe s
def PW(X:Cx)(e:Ez)(t:TT):Prop:=
 ∀ (whole:Sem V9) (av:L9 (Az×Obj)) (s:S9) (Z:St) (H:Hp) (Q:Bool->Hp->Prop),Inv X av Z H s->t Z H Q->wpAny (model X.prog X.w) X.A (isTrue e X.env whole) (TP X av Z Q) X.xe s
theorem PW.pt{X:Cx}{e:Ez}{t:TT}(h:PW X e t):PT X e t:=h _
def PA(X:Cx)(es:L9 Ez)(t:TA):Prop:=
 ∀ (pos:Pos) (av:L9 (Az×Obj)) (s:S9) (Z:St) (H:Hp) (Q:L9 V->Hp->Prop),Inv X av Z H s->t Z H Q->wpAny (model X.prog X.w) X.A (spliced (backTo pos (starEach es X.env))) (AP X av Z Q) X.xe s
def PS(X:Cx)(st:Stmt)(t:TS):Prop:=
 ∀ (av:L9 (Az×Obj)) (s:S9) (Z:St) (H:Hp) (D:iL),Inv X av Z H s->t D Z H->wpAny (model X.prog X.w) X.A (exec st X.env) (SP X av D) X.xe s
def ix(X:Cx)(st:L9 Stmt)(t:TS):Prop:=
 ∀ (av:L9 (Az×Obj)) (s:S9) (Z:St) (H:Hp) (D:iL),Inv X av Z H s->t D Z H->wpAny (model X.prog X.w) X.A (execs st X.env) (SP X av D) X.xe s
theorem cz{t:Sem α}{Q b:α->S9->Prop}{A:U9}(h:wpAny M A t Q E s)(c:∀ a s,Q a s->b a s):wpAny M A t b E s:=BI h c λ_ _ x=>x
section
variable{X:Cx}
def bU(i:Nat):TE:=λZ H Q=>∃ v,Z[i]? = some (some v)/\Q v H
def tC(v:V):TE:=λ_ H Q=>Q v H
theorem Sd{pos:Pos}(k:X.N[i]? = some x)(n:Ff X.env.scope x)(f:autoParam ((x == ("__debug__":Str))=false) z5)(Gx:autoParam ((x == ("__classdict__":Str))=false) z5):PE X (.Name x pos) (bU i):=by
 intro av s Z H Q I h
 obtain⟨v,e⟩:=h
 obtain⟨m,g⟩:=I.loc
 obtain⟨u,r⟩:=g.2 i x v k e.1 n
 have d:EP X av Z Q u s:=⟨v,H,I,r.1,e.2⟩
 rcases r.2 with ⟨b,l⟩|⟨b,c,j,a⟩
 .exact wpAny_Name (wpAny_loadName_local I.ok.kind b g.1 l d) f
 .rcases b with b|b
  · exact wpAny_Name (wpAny_loadName_cell I.ok.kind b j a d) f
  · exact wpAny_Name (wpAny_loadName_free I.ok.kind b j a d Gx) f
theorem R_{i j pos}:PE X (.Constant (.int i) j pos) (tC (.int i)):=λ_ _ _ H _ I h=>wpAny_Constant_int ⟨.int i,H,I.tok _,⟨_,rfl⟩,h⟩
theorem Qc{b j pos}:PE X (.Constant (.bool b) j pos) (tC (.bl b)):=λ_ _ _ H _ I h=>Constant_bool ⟨.bl b,H,I,rfl,h⟩
theorem R9{j pos}:PE X (.Constant .none j pos) (tC .fg):=λ_ _ _ H _ I h=>Constant_none ⟨.fg,H,I,rfl,h⟩
theorem Iz{x j pos}:PE X (.Constant (.str x) j pos) (tC (.str x)):=λ_ _ _ H _ I h=>Calls.Constant_str ⟨.str x,H,I.tok _,⟨_,rfl⟩,h⟩
def Gl(X:Cx)(x:Str):Prop:=X.env.kindOf x=some .globalImplicit
theorem iC{pos:Pos}(I:Inv X av Z H s)(a:Gl X x)(c:X.mg x=some u)(h:Q u s)
  (b:autoParam ((x == ("__debug__":Str))=false) z5):wpAny (model X.prog X.w) X.A (eval (.Name x pos) X.env) Q E s:=
 FF I.ok.kind a (Calls.loadGlobal_global (by rw[I.ok.glob];exact I.mod.glob.keeps I.bk) c h) b
theorem m7{pos:Pos}(I:Inv X av Z H s)(d:Gl X x)(a:X.mg x=none)(b:bootBuiltins x=some u)(h:Q u s)
  (c:autoParam (x≠"__name__") z5) (hd:autoParam ((x == ("__debug__":Str))=false) z5):wpAny (model X.prog X.w) X.A (eval (.Name x pos) X.env) Q E s:=by
 obtain⟨e,h1⟩:=I.mod.blt
 exact FF I.ok.kind d (Calls.loadGlobal_builtin (by rw[I.ok.glob];exact I.mod.glob.keeps I.bk) a (by rw[I.ok.blt];exact h1.1.keeps I.bk) ((h1.2 x c).trans b) h) hd
theorem iD{v:V}{pos:Pos}(a:Gl X x)(c:X.mg x=some u)(r:aR v u)(b:autoParam ((x == ("__debug__":Str))=false) z5):PE X (.Name x pos) (tC v):=
 λ_ _ _ H _ I h=>iC I a c ⟨v,H,I,r,h⟩ b
theorem o8{v:V}{pos:Pos}(b:Gl X x)(c:X.mg x=none)(d:bootBuiltins x=some u)(r:aR v u)(a:autoParam (x≠"__name__") z5)(hd:autoParam ((x == ("__debug__":Str))=false) z5):PE X (.Name x pos) (tC v):=
 λ_ _ _ H _ I h=>m7 I b c d ⟨v,H,I,r,h⟩ a hd
variable{a b:Ez}{ta tb:TE}{pos:Pos}
def PC(X:Cx)(op:CmpOp)(a b:Ez)(t:TE):Prop:=
 ∀ (av:L9 (Az×Obj)) (s:S9) (Z:St) (H:Hp) (Q:VK),Inv X av Z H s->t Z H Q->
  wpAny (model X.prog X.w) X.A (eval a X.env) (λv s₁=>wpAny (model X.prog X.w) X.A (eval b X.env) (λu s₂=>wpAny (model X.prog X.w) X.A (compareOp op v u) (EP X av Z Q) X.xe s₂) X.xe s₁) X.xe s
theorem WN(b:Ez){a:CmpOp}(h:a≠.In)(h2:a≠.NotIn):behindInMarks a b=false:=by
 have e1:(a == CmpOp.In)=false:=by ext
 have e2:(a == CmpOp.NotIn)=false:=by ext
 cases b<;>simp[behindInMarks,e1,e2]
def tB(t:TE):TT:=λZ H Q=>t Z H λx H1=>∃ c,x=.bl c/\Q c H1
theorem fD{f:CmpOp}{t:TE}(h:PC X f a b t)(h1:behindInMarks f b=false:=by first|exact WN _ (by decide) (by decide)|rfl):PT X (.Compare a [f] [b] pos) (tB t):=by
 intro av s Z H Q I i
 refine wpAny_isTrue_Compare1 (cz (h av s Z H _ I i) λv s1 h1=>cz h1 λu l h2=>cz h2 λc k e=>?_) h1
 obtain⟨x,H1,j,r1,g⟩:=e
 obtain⟨d,rfl,q⟩:=g
 cases r1
 exact DM ⟨H1,j,q⟩
theorem o9{e:Ez}{t:TE}(h:PE X e t)(b:∀ whole,isTrue e X.env whole=(do let v <-whole;standAt e.pos;holding [v] (truthy v)):=by intro _;rfl):PT X e (tB t):=by
 intro av s Z H Q I c
 refine isTrue_plain (cz (h av s Z H _ I c) λv s1 a=>?_) (b _)
 obtain⟨x,H1,g,r1,f⟩:=a
 obtain⟨d,rfl,q⟩:=f
 cases r1
 exact DM ⟨H1,g,q⟩
variable{tA B_:TT}{rest:L9 Ez}
def JZ(t u:TT):TT:=λZ H Q=>t Z H λc H1=>if c=true then u Z H1 Q else Q false H1
def Jj(t u:TT):TT:=λZ H Q=>t Z H λc H1=>if c=true then Q true H1 else u Z H1 Q
def PL(t:TT):TT:=λZ H Q=>t Z H λc H1=>Q (!c) H1
theorem uE(b:PT X a tA):PW X (.BoolOp .And [a] pos) tA:=by
 intro d av s Z H Q I h
 refine isTrue_and (cz (b av s Z H Q I h) λc s1 e=>?_)
 cases c with
 | true=>exact isTrue_and_nil e
 | false=>exact e
theorem r6(b:PT X a tA):PW X (.BoolOp .Or [a] pos) tA:=by
 intro d av s Z H Q I h
 refine isTrue_or (cz (b av s Z H Q I h) λc s1 e=>?_)
 cases c with
 | false=>exact isTrue_or_nil e
 | true=>exact e
theorem xV(i:PT X a tA)(hb:PW X (.BoolOp .And (b::rest) pos) B_):PW X (.BoolOp .And (a::b::rest) pos) (JZ tA B_):=by
 intro g av s Z H Q I h
 refine isTrue_and (cz (i av s Z H _ I h) λc s1 d=>?_)
 obtain⟨H1,f,e⟩:=d
 cases c with
 | true=>exact hb g av s1 Z H1 Q f e
 | false=>exact⟨H1,f,e⟩
theorem qF(i:PT X a tA)(hb:PW X (.BoolOp .Or (b::rest) pos) B_):PW X (.BoolOp .Or (a::b::rest) pos) (Jj tA B_):=by
 intro g av s Z H Q I h
 refine isTrue_or (cz (i av s Z H _ I h) λc s1 d=>?_)
 obtain⟨H1,f,e⟩:=d
 cases c with
 | true=>exact⟨H1,f,e⟩
 | false=>exact hb g av s1 Z H1 Q f e
theorem r7(b:PT X a tA):PT X (.UnaryOp .Not a pos) (PL tA):=by
 intro av s Z H Q I h
 exact isTrue_not (b av s Z H (λc H1=>Q (!c) H1) I h)
def Qb(ta tb:TE):TE:=λZ H Q=>ta Z H λx H1=>∃ c,x=.bl c/\if c=true then tb Z H1 Q else Q (.bl false) H1
def Qa(ta:TE):TE:=λZ H Q=>ta Z H λx H1=>∃ c,x=.bl c/\Q (.bl (!c)) H1
theorem R8{op}{t:TE}(h:PE X a t):PE X (.BoolOp op [a] pos) t:=λav s Z H Q I b=>BoolOp_one (h av s Z H Q I b)
theorem R7(g:PE X a ta)(hb:PE X (.BoolOp .And (b::rest) pos) tb):PE X (.BoolOp .And (a::b::rest) pos) (Qb ta tb):=by
 intro av s Z H Q I h
 refine BoolOp_and (cz (g av s Z H _ I h) λv s1 e=>?_)
 obtain⟨x,H1,f,r1,d⟩:=e
 obtain⟨c,rfl,d⟩:=d
 cases r1
 refine DM ?_
 cases c with
 | true=>exact hb av s1 Z H1 Q f d
 | false=>exact⟨.bl false,H1,f,rfl,d⟩
theorem R6(e:PE X a ta):PE X (.UnaryOp .Not a pos) (Qa ta):=by
 intro av s Z H Q I h
 refine UnaryOp_ (cz (e av s Z H _ I h) λv s1 b=>?_)
 obtain⟨x,H1,f,r1,d⟩:=b
 obtain⟨c,rfl,d⟩:=d
 cases r1
 exact not_of (DM ⟨.bl (!c),H1,f,rfl,d⟩)
def OI(t:TT)(ta tb:TE):TE:=λZ H Q=>t Z H λc H1=>if c=true then ta Z H1 Q else tb Z H1 Q
theorem WM{c:Ez}(j:PT X c tA)(i:PE X a ta)(hb:PE X b tb):PE X (.IfExp c a b pos) (OI tA ta tb):=by
 intro av s Z H Q I h
 refine wpAny_IfExp (cz (j av s Z H _ I h) λd s1 e=>?_)
 obtain⟨H1,g,f⟩:=e
 cases d with
 | true=>exact i av s1 Z H1 Q g f
 | false=>exact hb av s1 Z H1 Q g f
end
def d_(K:Frag)(H:Hp)(a:Az)(xs:L9 V):Prop:=
 Rd H a (.lst xs) \/
  ∃ (o:Obj) (d7:Array V9) (n:Nat),K.lookup a=some o/\o.cls=.type "list"/\o.dict=none/\o.data=.seq d7 n/\d7.size<=sizeLine/\aX xs d7.toList
def fq(K:Frag)(H:Hp)(a:Az)(xs:L9 V):Prop:=
 Rd H a (.tup xs) \/
  ∃ (o:Obj) (d7:Array V9) (n:Nat),K.lookup a=some o/\(o.cls=.type "tuple"/\o.dict=none)/\o.data=.seq d7 n/\d7.size<=sizeLine/\aX xs d7.toList
noncomputable def PK:V9->O9 V
 | .none=>some .fg
 | .bool b=>some (.bl b)
 | .int i _=>some (.int i)
 | .str x _=>some (.str x)
 | .bytes b _=>some (.yh b)
 | .float b _=>some (.xl b)
 | .ref a=>some (.ref a)
 | .type n=>some (.ty n)
 | _=>none
theorem aR.abs{x:V}(r:aR x u):PK u=some x:=by
 cases x with
 | fg=>cases r;rfl
 | bl _=>cases r;rfl
 | int _=>obtain⟨t,rfl⟩:=r;rfl
 | str _=>obtain⟨t,rfl⟩:=r;rfl
 | yh _=>obtain⟨t,rfl⟩:=r;rfl
 | xl _=>obtain⟨t,rfl⟩:=r;rfl
 | ref _=>cases r;rfl
 | ty _=>cases r;rfl
theorem aR.inj{x y:V}{u:V9}(r:aR x u)(q:aR y u):x=y:=CB (r.abs.symm.trans q.abs)
theorem aX.inj:∀ {xs ys:L9 V} {us:L9 V9},aX xs us->aX ys us->xs=ys
 | _,_,_,.nil,.nil=>rfl
 | _,_,_,.cons r t,.cons r' t'=>by rw[r.inj r',aX.inj t t']
section
variable{X:Cx}{av:L9 (Az×Obj)}{Z:St}{H:Hp}{s:S9}{a:Az}{xs ys:L9 V}
theorem d_.of(h:H a=some (.lst xs)):d_ K H a xs:=.inl (.inl h)
theorem fq.of(h:H a=some (.tup xs)):fq K H a xs:=.inl (.inl h)
theorem Inv.list(I:Inv X av Z H s)(h:d_ X.K H a xs):∃ d7:L9 V9,aX xs d7/\PlainL s.heap a d7.toArray/\xs.length<=sizeLine:=by
 rcases h with h|⟨o,d7,n,b,c,d,g,f,r⟩
 .obtain ⟨z,d7,n,r⟩:=h.ok I.cj
  exact⟨d7,r.1,⟨_,n,r.2,rfl,rfl,rfl⟩,z⟩
 .refine ⟨d7.toList,r,⟨o,n,I.ee a o b,c,d,by ext⟩,?_⟩
  have e:=r.length
  ext
theorem Inv.tuple(I:Inv X av Z H s)(h:fq X.K H a xs):∃ d7:L9 V9,aX xs d7/\IsTup s.heap a d7.toArray/\xs.length<=sizeLine:=by
 rcases h with h|⟨o,d7,n,b,c,f,d,r⟩
 .obtain ⟨z,d7,r⟩:=h.ok I.cj
  exact⟨d7,r.1,r.2.t,z⟩
 .refine ⟨d7.toList,r,⟨o,I.ee a o b,c.1,n,by ext⟩,?_⟩
  have e:=r.length
  ext
theorem Inv.l5(I:Inv X av Z H s)(h:d_ X.K H a xs)(h':d_ X.K H a ys):xs=ys:=by
 obtain⟨g,r,⟨o,n,e,_,_,d⟩,_⟩:=I.list h
 obtain⟨f,i,⟨o',j,b,_,_,c⟩,_⟩:=I.list h'
 rw[e]at b;cases b
 rw[d]at c
 injection c with d1 _
 have:=by simpa using congrArg Array.toList d1
 subst this
 exact r.inj i
theorem Inv.nc(I:Inv X av Z H s)(h:fq X.K H a xs)(h':fq X.K H a ys):xs=ys:=by
 obtain⟨g,r,⟨o,e,_,n,d⟩,_⟩:=I.tuple h
 obtain⟨f,i,⟨o',b,_,j,c⟩,_⟩:=I.tuple h'
 rw[e]at b;cases b
 rw[d]at c
 injection c with d1 _
 have:=by simpa using congrArg Array.toList d1
 subst this
 exact r.inj i
end
abbrev Cx.gw(X:Cx)(E:V9->S9->Prop):Cx:={X with xe:=E}
abbrev Cx.oD(X:Cx):Cx:=X.gw λ_ _=>False
theorem Cx.Ok.gw{X:Cx}(ok:X.Ok)(E:V9->S9->Prop):(X.gw E).Ok:=
 ⟨ok.mod,ok.kind,ok.glob,ok.blt,ok.above,ok.inj,ok.has,ok.vx,ok.hd,ok.frames,ok.w5,ok.z6,ok.bs,ok.qh,ok.n3,ok.pj,ok.g_,ok.ro⟩
theorem Cx.Ok.cx{X:Cx}(ok:(X.gw E).Ok):X.Ok:=
 ⟨ok.mod,ok.kind,ok.glob,ok.blt,ok.above,ok.inj,ok.has,ok.vx,ok.hd,ok.frames,ok.w5,ok.z6,ok.bs,ok.qh,ok.n3,ok.pj,ok.g_,ok.ro⟩
section
variable{X:Cx}{av:L9 (Az×Obj)}{Z:St}{H:Hp}{s:S9}{E:V9->S9->Prop}
theorem Inv.gw(I:Inv X av Z H s)(E:V9->S9->Prop):Inv (X.gw E) av Z H s:=⟨I.ok.gw E,I.os,I.bare,I.base,I.loc,I.cell,I.free,I.ek,I.pin,I.cj,I.len⟩
theorem Inv.cx(I:Inv (X.gw E) av Z H s):Inv X av Z H s:=⟨I.ok.cx,I.os,I.bare,I.base,I.loc,I.cell,I.free,I.ek,I.pin,I.cj,I.len⟩
theorem SP.cx{D:iL}{f:Flow}(h:SP (X.gw E) av D f s'):SP X av D f s':=by
 cases f with
 | next=>obtain⟨a,H',I,q⟩:=h;exact⟨a,H',I.cx,q⟩
 | brk=>obtain⟨a,H',I,q⟩:=h;exact⟨a,H',I.cx,q⟩
 | cont=>obtain⟨a,H',I,q⟩:=h;exact⟨a,H',I.cx,q⟩
 | ret u=>obtain⟨v,a,H',I⟩:=h;exact⟨v,a,H',I.1.cx,I.2.1,I.2.2⟩
theorem PE.oD{e:Ez}{t:TE}(h:PE X.oD e t):PE X e t:=λav s Z H Q I b=>
 BI (h av s Z H Q (I.gw _) b) (λ_ _ v=>by obtain⟨v,H',a⟩:=v;exact⟨v,H',a.1.cx,a.2.1,a.2.2⟩) λ_ _ z=>False.elim z
theorem PT.oD{e:Ez}{t:TT}(h:PT X.oD e t):PT X e t:=λav s Z H Q I b=>
 BI (h av s Z H Q (I.gw _) b) (λ_ _ H'=>by obtain⟨H',a⟩:=H';exact⟨H',a.1.cx,a.2⟩) λ_ _ z=>False.elim z
theorem ix.oD{st:L9 Stmt}{t:TS}(h:ix X.oD st t):ix X st t:=λav s Z H D I a=>
 BI (h av s Z H D (I.gw _) a) (λ_ _ q=>q.cx) λ_ _ z=>False.elim z
end
section
variable{X:Cx}{st:Stmt}{rest:L9 Stmt}{t u:TS}{e:Ez}{te:TE}{pos:Pos}
def P_:TS:=λD Z H=>D.nx Z H
def J3(t u:TS):TS:=λD Z H=>t {D with nx:=u D} Z H
theorem iE:ix X [] P_:=λ_ _ Z H _ I h=>DZ ⟨Z,H,I,h⟩
theorem aJ(h1:PS X st t)(h2:ix X rest u):ix X (st::rest) (J3 t u):=by
 intro av s Z H D I h
 refine EA (cz (h1 av s Z H {D with nx:=u D} I h) λf s1 q=>?_)
 cases f with
 | next=>
  obtain⟨b,H',a⟩:=q
  exact h2 av s1 b H' D a.1 a.2
 | ret v=>exact q
 | brk=>exact q
 | cont=>exact q
theorem bC(h1:PS X st t):ix X [st] t:=by
 intro av s Z H D I h
 refine EA (cz (h1 av s Z H D I h) λf s1 q=>?_)
 cases f with
 | next=>exact DZ q
 | ret v=>ext
 | brk=>ext
 | cont=>ext
theorem Inv.quiet(I:Inv X av Z H s):interactive X.env=false:=by simp[interactive,I.ok.kind]
def uF(te:TE):TS:=λD Z H=>te Z H λ_ H1=>D.nx Z H1
theorem kC(b:PE X e te)(c:autoParam (swapsWith e none pos.line X.env=pure false) z3):PS X (.Expr e pos) (uF te):=by
 intro av s Z H D I h
 exact wpAny_Expr_any (cz (b av s Z H _ I h) λv s1 x=>by obtain⟨x,H1,a⟩:=x;exact⟨Z,H1,a.1,a.2.2⟩) I.quiet c
def Ht(te:TE):TS:=λD Z H=>te Z H D.rt
theorem cB(b:PE X e te):PS X (.Return (some e) pos) (Ht te):=by
 intro av s Z H D I h
 exact wpAny_Return_some (cz (b av s Z H _ I h) λv s1 x=>by obtain⟨x,H1,a⟩:=x;exact⟨x,Z,H1,a.1,a.2.1,a.2.2⟩)
def PJ(c:TT)(t u:TS):TS:=λD Z H=>c Z H λb H1=>if b=true then t D Z H1 else u D Z H1
theorem lQ{c:Ez}{a b:L9 Stmt}{tc:TT}(j:PT X c tc)(i:ix X a t)(hb:ix X b u):PS X (.If c a b pos) (PJ tc t u):=by
 intro av s Z H D I h
 refine wpAny_If (cz (j av s Z H _ I h) λd s1 e=>?_)
 obtain⟨H1,g,f⟩:=e
 cases d with
 | true=>exact i av s1 Z H1 D g f
 | false=>exact hb av s1 Z H1 D g f
end
abbrev TG:=V->St->Hp->(St->Hp->Prop)->Prop
abbrev vd:=L9 V->St->Hp->(St->Hp->Prop)->Prop
def PG(X:Cx)(target:Ez)(t:TG):Prop:=
 ∀ (av:L9 (Az×Obj)) (s:S9) (Z:St) (H:Hp) (v:V) (u:V9) (Q:St->Hp->Prop),Inv X av Z H s->aR v u->t v Z H Q->
  wpAny (model X.prog X.w) X.A (assign target X.env u) (λ_ s'=>∃ Z' H',Inv X av Z' H' s'/\Q Z' H') X.xe s
def yx(X:Cx)(ts:L9 Ez)(t:vd):Prop:=
 ∀ (av:L9 (Az×Obj)) (s:S9) (Z:St) (H:Hp) (vs:L9 V) (us:L9 V9) (Q:St->Hp->Prop),Inv X av Z H s->aX vs us->t vs Z H Q->
  wpAny (model X.prog X.w) X.A (assignInOrder ((assignEach ts X.env).map (·.2)) us) (λ_ s'=>∃ Z' H',Inv X av Z' H' s'/\Q Z' H') X.xe s
abbrev Ed:=V->V->V->Hp->(Hp->Prop)->Prop
def Hs(X:Cx)(t:Ed):Prop:=
 ∀ (av:L9 (Az×Obj)) (s:S9) (Z:St) (H:Hp) (o i v:V) (ov iv u:V9) (Q:Hp->Prop),Inv X av Z H s->aR o ov->aR i iv->aR v u->t o i v H Q->
  wpAny (model X.prog X.w) X.A (setItem ov iv u) (λ_ s'=>∃ H',Inv X av Z H' s'/\Q H') X.xe s
abbrev Fg:=V->V->Hp->VK->Prop
def IY(X:Cx)(op:Operator)(t:Fg):Prop:=
 ∀ (av:L9 (Az×Obj)) (s:S9) (Z:St) (H:Hp) (x y:V) (v u:V9) (Q:VK),Inv X av Z H s->aR x v->aR y u->t x y H Q->
  wpAny (model X.prog X.w) X.A (inplaceOp op v u) (EP X av Z Q) X.xe s
section
variable{X:Cx}{pos:Pos}
def fQ(i:Nat):TG:=λv Z H Q=>Q (Z.set i (some v)) H
theorem k6{i:Nat}(c:X.N.Nodup)(hi:X.N[i]? = some x)(hx:Loc X.env.scope x)(b:X.fn x=true\/X.env.scope.names.lookup x=some .local:=by first|exact .inl rfl|exact .inr rfl):PG X (.Name x pos) (fQ i):=by
 intro av s Z H v u Q I r h
 exact wpAny_assign_Name (m6 I c hi hx r (λs' a=>⟨_,H,a,h⟩) b)
def Hr:vd:=λvs Z H Q=>vs=[]/\Q Z H
def Kv(t:TG)(u:vd):vd:=λvs Z H Q=>∃ v r,vs=v::r/\t v Z H λZ' H'=>u r Z' H' Q
theorem MN:yx X [] Hr:=by
 intro av s Z H vs us Q I r h
 exact assignInOrder_nil ⟨Z,H,I,h.2⟩
theorem wK{e:Ez}{t:TG}{u:vd}(h1:PG X e t)(h2:yx X es u)
  (d:autoParam ((assignEach (e::es) X.env).map (·.2)=assign e X.env::(assignEach es X.env).map (·.2)) z3):yx X (e::es) (Kv t u):=by
 intro av s Z H vs us Q I r h
 obtain⟨v,g,e1,h⟩:=h
 subst e1
 cases r with
 | cons r rr=>
  rw[d]
  refine assignInOrder_cons (cz (h1 av s Z H _ _ _ I r h) λ_ s1 a=>?_)
  obtain⟨c,H1,f,b⟩:=a
  exact h2 av s1 c H1 _ _ Q f rr b
def J2(K:Frag)(n:Nat)(t:vd):TG:=λv Z H Q=>∃ a xs,v=.ref a/\fq K H a xs/\xs.length=n/\t xs Z H Q
theorem LJ{t:vd}(i:X.calm=true)(h:yx X es t)
  (g:autoParam ((assignEach es X.env).length=n) z3) (OR:autoParam ((assignEach es X.env).findIdx? (·.1)=none) z3):PG X (.Tuple es k pos) (J2 X.K n t):=by
 intro av s Z H v u Q I r j
 obtain⟨a,xs,e1,c⟩:=j
 subst e1
 cases r
 obtain⟨m,f,d⟩:=I.tuple c.1
 refine assign_Tuple_tuple (I.ok.hd i) d.1 (by simp[g,<-c.2.1,f.length]) OR λh' l=>?_
 exact h av _ Z H xs _ Q (I.kept (t':=s.toks) λb o e=>l b o (A0 (AE e)) e) (by ext) c.2.2
def Hq(to ti:TE)(t:Ed):TG:=λv Z H Q=>to Z H λo H1=>ti Z H1 λi H2=>t o i v H2 λH3=>Q Z H3
theorem Iy{o i:Ez}{to b:TE}{t:Ed}(l:PE X o to)(hi:PE X i b)(f:Hs X t)
  (e:∀ v,assign (.Subscript o i pos) X.env v=(do
   let ov <-holding [v] (eval o X.env)
   let iv <-holding [v,ov] (eval i X.env)
   standAt pos
   holding [v,ov,iv] (setItem ov iv v)
   release [v,ov,iv] []):=by intro _;rfl):PG X (.Subscript o i pos) (Hq to b t):=by
 intro av s Z H v u Q I r h
 rw[e]
 refine AA (CA (cz (l av s Z H _ I h) λov s1 a=>?_))
 obtain⟨x,H1,g,r1,c⟩:=a
 refine AA (CA (cz (hi av s1 Z H1 _ g c) λiv n a=>?_))
 obtain⟨y,H2,m,r2,j⟩:=a
 refine AA (CZ (AA (CA (cz (f av n Z H2 x y v ov iv u _ m r1 r2 r j) λ_ p a=>?_))))
 obtain⟨H3,k,d⟩:=a
 exact wpAny_release ⟨Z,H3,k,d⟩
def jR(te:TE)(g:TG):TS:=λD Z H=>te Z H λx H1=>g x Z H1 D.nx
theorem xW{e:Ez}{g:TG}(d:PE X e te)(i:PG X tg g)(f:autoParam (swapsWithSole [tg] e pos.line X.env=pure false) z3)(hw:autoParam (swappedStores [tg] e X.env=pure none) z3)
  (h1:autoParam ((assignEach [tg] X.env).map (·.2)=[assign tg X.env]) z3):PS X (.Assign [tg] e pos) (jR te g):=by
 intro av s Z H D I h
 refine wpAny_Assign_stores (cz (d av s Z H _ I h) λv s1 a=>?_) f hw
 obtain⟨x,H1,b,r1,c⟩:=a
 rw[h1]
 exact cz (i av s1 Z H1 x v _ b r1 c) λ_ j q=>q
theorem dA{i:Nat}{x:Str}{e:Ez}{te:TE}{pos':Pos}(b:X.N.Nodup)(hi:X.N[i]? = some x)(hx:Loc X.env.scope x)(d:PE X e te)(g:autoParam (swapsWith e (some (.Name x pos')) pos.line X.env=pure false) z3)(hf:X.fn x=true\/X.env.scope.names.lookup x=some .local:=by exact .inl rfl) :
  PS X (.Assign [.Name x pos'] e pos) (jR te (fQ i)):=by
 intro av s Z H D I h
 refine wpAny_Assign_Name (cz (d av s Z H _ I h) λv s1 a=>?_) g
 obtain⟨y,H1,j,r1,c⟩:=a
 exact m6 j b hi hx r1 (λk f=>⟨_,H1,f,c⟩) hf
def J1(i:Nat)(te:TE)(ti:Fg):TS:=λD Z H=>∃ x,Z[i]? = some (some x)/\te Z H λy H1=>ti x y H1 λz H2=>D.nx (Z.set i (some z)) H2
theorem sA{i:Nat}{e:Ez}{j:Operator}{p:Fg}(J:X.N.Nodup)(hi:X.N[i]? = some x)(hx:Loc X.env.scope x)(B:PE X e te)(L:IY X j p)(C:X.fn x=true\/X.env.scope.names.lookup x=some .local:=by first|exact .inl rfl|exact .inr rfl) :
  PS X (.AugAssign (.Name x pos') j e pos) (J1 i te p):=by
 intro av s Z H D I h
 obtain⟨v,e1⟩:=h
 obtain⟨m,o⟩:=I.loc
 obtain⟨u,r,l⟩:=o.2 i x v hi e1.1 (by rcases hx with k|k;exact .inl k;exact .inr (.inl k))
 refine wpAny_AugAssign_Name ?_
 have n:wpAny (model X.prog X.w) X.A (eval e X.env) (λw f=>wpAny (model X.prog X.w) X.A (inplaceOp j u w) (λr g=>wpAny (model X.prog X.w) X.A (storeName X.env x r) (λ_=>SP X av D .next) X.xe g) X.xe f) X.xe s:=by
  refine cz (B av s Z H _ I e1.2) λw s1 b=>?_
  obtain⟨y,H1,E,r1,q⟩:=b
  refine cz (L av s1 Z H1 v y u w _ E r r1 q) λz Q b=>?_
  obtain⟨O,H2,M,r2,F⟩:=b
  exact m6 M J hi hx r2 (λP G=>⟨_,H2,G,F⟩) C
 rcases l with ⟨a,K⟩|⟨a,c,t,d⟩
 .exact wpAny_loadName_local I.ok.kind a o.1 K n
 .rcases a with a|a
  .exact wpAny_loadName_cell I.ok.kind a t d n
  .rcases hx with k|k
   .have:X.env.scope.names.lookup x=some .free:=a
    simp_all
   .have:X.env.scope.names.lookup x=some .free:=a
    simp_all
def Gj(f:Int->Int->Int):Fg:=λx y H Q=>∃ i j,x=.int i/\y=.int j/\Q (.int (f i j)) H
theorem SJ:IY X .Add (Gj λi j=>i+j):=by
 intro av s Z H x y v u Q I r1 r2 h
 obtain⟨i,j,e1,e2,q⟩:=h
 subst e1;subst e2
 obtain⟨t,rfl⟩:=r1
 obtain⟨a,rfl⟩:=r2
 exact iadd_int ⟨.int _,H,I.tok _,⟨_,rfl⟩,q⟩
theorem SI:IY X .Sub (Gj λi j=>i - j):=by
 intro av s Z H x y v u Q I r1 r2 h
 obtain⟨i,j,e1,e2,q⟩:=h
 subst e1;subst e2
 obtain⟨t,rfl⟩:=r1
 obtain⟨a,rfl⟩:=r2
 exact isub_int ⟨.int _,H,I.tok _,⟨_,rfl⟩,q⟩
end
section
variable{X:Cx}{pos:Pos}
def LH(c:TT)(tb:TS):TS:=λD Z H=>∃ W:Nat->St->Hp->Prop,(∃ m,W m Z H)/\∀ m Z H,W m Z H->
 c Z H λb H1=>if b=true then ∃ N:St->Hp->Prop,(∀ Z' H',N Z' H'->∃ m',m' < m/\W m' Z' H')/\tb {D with nx:=N,ct:=N,bk:=D.nx} Z H1 else D.nx Z H1
theorem fF{c:Ez}{tc:TT}{tb:TS}(q:PassesOwn (model X.prog X.w) X.A X.env X.xe)(u:PT X c tc)(hb:ix X body tb):PS X (.While c body [] pos) (LH tc tb):=by
 intro av s Z H D I h
 obtain⟨W,⟨x,t⟩,a⟩:=h
 refine wpAny_While (codeAny_whileLoop (λn s'=>∃ Z' H',Inv X av Z' H' s'/\W n Z' H') ?_ x ⟨Z,H,I,t⟩)
 rintro n s1 ⟨Z1,H1,I1,w1⟩
 refine DH q (cz (u av s1 Z1 H1 _ I1 (a n Z1 H1 w1)) λb y k=>?_)
 obtain⟨H2,r,p⟩:=k
 cases b with
 | true=>
  obtain⟨N,m⟩:=p
  refine DH q (cz (hb av y Z1 H2 _ r m.2) λf z e=>?_)
  cases f with
  | next=>
   obtain⟨d,H3,l,g⟩:=e
   obtain⟨j,o,i⟩:=m.1 d H3 g
   exact⟨j,o,d,H3,l,i⟩
  | cont=>
   obtain⟨d,H3,l,g⟩:=e
   obtain⟨j,o,i⟩:=m.1 d H3 g
   exact⟨j,o,d,H3,l,i⟩
  | brk=>exact e
  | ret v=>exact e
 | false=>
  exact DZ ⟨Z1,H2,r,p⟩
end
structure It where
 go:Nat->Hp->Prop
 oz:Nat->Hp->V->Hp->Prop
 stop:Nat->Hp->Prop
def iW(X:Cx)(av:L9 (Az×Obj))(H:Hp)(b:Az):Prop:=
 H b=none/\b≠X.env.locals/\b∉X.fs/\(b∈X.ex\/X.s₀.heap.objs.size<=b)/\(∀ x c,X.env.cells.lookup x=some c->c≠b)/\∀ p∈X.pn++av,p.1≠b
theorem Inv.me{X:Cx}{H':Hp}(I:Inv X av Z H s)(hb:s.heap.objs.size<=b)(a:H' b=none):iW X av H' b:=by
 refine⟨a,CK (AX I.lt hb),I.zl hb,.inr (A6 I.sz hb),λx c e z=>?_,λp d z=>?_⟩
 .obtain ⟨v,q⟩:=I.cell x c e
  exact absurd (AX q.lt (by simp_all)) (B4 _)
 .exact absurd (AX (AE (I.pin p d).1) (by simp_all)) (B4 _)
structure Turn(P:Program)(w:World)(K:Frag)(tg:Expr)(J:It)(fp:List Az)(it:Az)(tn:Nat->Heap->Prop):Prop where
 mem:it∈fp
 obj:∀ i h,tn i h->∀ b∈fp,∃ o,h.get? b=some o/\∀ v,o.data≠.cell v
 keep:∀ i h h',tn i h->(∀ b∈fp,∀ o,h.get? b=some o->h'.get? b=some o)->tn i h'
 item:∀ (X:Cx),X.prog=P->X.w=w->X.K=K->X.calm=true->∀ (i:Nat) (av:List (Az×Obj)) (s:S9) (Z:St) (H:Hp) (E:V9->S9->Prop),Inv X av Z H s->(∀ b∈fp,iW X av H b)->tn i s.heap->J.go i H->
  wpAny (model P w) X.A (pyNext (.ref it)) (λr s1=>∃ u,r=some u /\
   wpAny (model P w) X.A (letOwnedTupleGo tg (.ref it) u) (λ_ s2=>∃ x H',Inv X av Z H' s2/\aR x u/\J.oz i H x H'/\tn (i+1) s2.heap/\∀ b∈fp,H' b=none) E s1) E s
 done:∀ (X:Cx),X.prog=P->X.w=w->X.K=K->X.calm=true->∀ (i:Nat) (av:List (Az×Obj)) (s:S9) (Z:St) (H:Hp) (E:V9->S9->Prop),Inv X av Z H s->(∀ b∈fp,iW X av H b)->tn i s.heap->J.stop i H->
  wpAny (model P w) X.A (pyNext (.ref it)) (λr s1=>r=none/\Inv X av Z H s1) E s
 self:∀ (A:Around) (i:Nat) (s:S9) (Q:V9->S9->Prop) (E:V9->S9->Prop),tn i s.heap->Q (.ref it) s->wpAny (model P w) A (pyIter (.ref it)) Q E s
abbrev TI:=St->Hp->(It->Hp->Prop)->Prop
def Ov(X:Cx)(av:L9 (Az×Obj))(Z:St)(tg:Ez)(R:It->Hp->Prop)(OP:V9)(s2:S9):Prop:=
 ∃ (it:Az) (fp:L9 Az) (tn:Nat->Hz->Prop) (J:It) (H':Hp),OP=.ref it/\Inv X av Z H' s2/\Turn X.prog X.w X.K tg J fp it tn/\tn 0 s2.heap/\(∀ b∈fp,iW X av H' b)/\R J H'
def PI(X:Cx)(tg iter:Ez)(wi:TI):Prop:=
 ∀ (av:L9 (Az×Obj)) (s:S9) (Z:St) (H:Hp) (R:It->Hp->Prop),Inv X av Z H s->wi Z H R->
  wpAny (model X.prog X.w) X.A (eval iter X.env) (λv s1=>wpAny (model X.prog X.w) X.A (pyIter v) (Ov X av Z tg R) X.xe s1) X.xe s
theorem Fe  {A : U9} {E : V9 -> S9 -> Prop} {s : S9}     {n : String}  {Q : Unit -> S9 -> Prop} (b : s.heap.get? it = some o) (d : o.cls = .type n) (c : o.data = .fields vs)
    (e : ["enumerate", "zip", "dict_itemiterator", "dict_reverseitemiterator", "odict_iterator", "itertools.zip_longest", "itertools.pairwise"].contains n = false) (a : Q () s) : wpAny M A (letOwnedTupleGo tg (.ref it) u) Q E s := by
  cases tg <;> first
    | exact AC a
    | (cases u <;> first
        | exact AC a
        | (refine AA (wpAny_load b ?_)
           rw [d, c]
           show wpAny M A (if (["enumerate", "zip", "dict_itemiterator", "dict_reverseitemiterator", "odict_iterator", "itertools.zip_longest", "itertools.pairwise"].contains n && vs[0]? == some _) = true then _ else _) Q E s
           rw [AM (by ext)]
           exact AC a))
def Br(K:Frag)(a:Az):It:=
 ⟨λi H=>∃ xs x,d_ K H a xs/\xs[i]? = some x,λi H x H'=>H'=H/\∀ xs,d_ K H a xs->xs[i]? = some x,λi H=>∃ xs,d_ K H a xs/\xs.length<=i⟩
def Jb(K:Frag)(a:Az):It:=
 ⟨λi H=>∃ xs x,fq K H a xs/\xs[i]? = some x,λi H x H'=>H'=H/\∀ xs,fq K H a xs->xs[i]? = some x,λi H=>∃ xs,fq K H a xs/\xs.length<=i⟩
noncomputable def Fm(lo:Int)(n:Nat):It:=⟨λi _=>i < n,λi H x H'=>H'=H/\x=.int (lo+i),λi _=>n<=i⟩
theorem Oq{w:W9}(a it:Az):Turn P w K tg (Br K a) [it] it (λi h=>h.IsListIter it a i) where
 mem:=by simp
 obj:=λi h st b f=>by
  have e:b=it:=by simpa using f
  subst e
  obtain⟨o,e,c,d⟩:=st
  exact⟨o,e,λv z=>by rw[d]at z;cases z⟩
 keep:=λi h h' st k=>st.at λo e=>k it (by simp) o e
 item:=by
  intro X D q G J i av s Z H E I l st B
  subst D q G
  obtain⟨xs,x,j,t⟩:=B
  obtain⟨A,C,p,M⟩:=I.list j
  obtain⟨u,N,R⟩:=C.get t
  obtain⟨n,m,T,F,y,r⟩:=l it (by simp)
  refine wpAny_pyNext_list_item st p.isList (x:=u) (by simpa using N) λh' g S=>?_
  have O:Inv X av Z H {s with heap:=h'}:=I.turned (t':=s.toks) (λb o f e=>(S.2 b f).trans e) n m F y r
  obtain⟨o,e,c,d⟩:=id g
  exact⟨u,rfl,Fe (s:={s with heap:=h'}) e c d (by decide) ⟨x,H,O,R,⟨rfl,λys Q=>by rw[I.l5 Q j];exact t⟩,g,λb f=>(l b f).1⟩⟩
 done:=by
  intro X D q G J i av s Z H E I l st B
  subst D q G
  obtain⟨xs,j,t⟩:=B
  obtain⟨A,C,p,M⟩:=I.list j
  obtain⟨n,m,T,F,y,r⟩:=l it (by simp)
  have U:=C.length
  exact wpAny_pyNext_list_end (I.ok.hd J) st p.isList (by simp;ext) λh' L=>⟨rfl,I.turned (t':=s.toks) (λb o f e=>L b o f e) n m F y r⟩
 self:=λ_ _ _ _ _ st h=>wpAny_pyIter_listiter st h
theorem X_{w:W9}(a it:Az):Turn P w K tg (Jb K a) [it] it (λi h=>h.IsTupleIter it a i) where
 mem:=by simp
 obj:=λi h st b f=>by
  have e:b=it:=by simpa using f
  subst e
  obtain⟨o,e,c,d⟩:=st
  exact⟨o,e,λv z=>by rw[d]at z;cases z⟩
 keep:=λi h h' st k=>st.at λo e=>k it (by simp) o e
 item:=by
  intro X D r G J i av s Z H E I m st B
  subst D r G
  obtain⟨xs,x,l,y⟩:=B
  obtain⟨g,C,p,M⟩:=I.tuple l
  obtain⟨u,N,R⟩:=C.get y
  obtain⟨q,n,T,F,A,t⟩:=m it (by simp)
  refine wpAny_pyNext_tuple_item st (show s.heap.IsTuple a g.toArray from p) (x:=u) (by simpa using N) λh' j S=>?_
  have O:Inv X av Z H {s with heap:=h'}:=I.turned (t':=s.toks) (λb o f e=>(S.2 b f).trans e) q n F A t
  obtain⟨o,e,c,d⟩:=id j
  exact⟨u,rfl,Fe (s:={s with heap:=h'}) e c d (by decide) ⟨x,H,O,R,⟨rfl,λys Q=>by rw[I.nc Q l];exact y⟩,j,λb f=>(m b f).1⟩⟩
 done:=by
  intro X D r G J i av s Z H E I m st B
  subst D r G
  obtain⟨xs,l,y⟩:=B
  obtain⟨g,C,p,M⟩:=I.tuple l
  obtain⟨q,n,T,F,A,t⟩:=m it (by simp)
  have U:=C.length
  exact wpAny_pyNext_tuple_end (I.ok.hd J) st (show s.heap.IsTuple a g.toArray from p) (by simp;ext) λh' L=>⟨rfl,I.turned (t':=s.toks) (λb o f e=>L b o f e) q n F A t⟩
 self:=λ_ _ _ _ _ st h=>wpAny_pyIter_tupleiter st h
theorem X9{w:W9}(it:Az)(lo:Int)(n:Nat):Turn P w K tg (Fm lo n) [it] it (λi h=>IsRangeIter h it (lo+(i:Nat) * 1) ((n:Int) - (i:Nat)) 1) where
 mem:=by simp
 obj:=λi h st b a=>by
  have e:b=it:=by simpa using a
  subst e
  exact⟨_,st,λv z=>by
   have D:Data.fields _=Data.cell v:=z
   cases D⟩
 keep:=λi h h' st k=>k it (by simp) _ st
 item:=by
  intro X r l x j i av s Z H E I d st p
  subst r l x
  obtain⟨g,f,G,u,q,m⟩:=d it (by simp)
  have W:=Walks.range (prog:=X.prog) (w:=X.w) (I.ok.hd j) it lo 1 n
  refine W.item i s _ _ p st λv h' y F c C=>?_
  obtain⟨t,rfl⟩:=F
  have B:Inv X av Z H {s with heap:=h',toks:=y}:=I.turned (λb o a e=>C b o (by simpa using a) e) g f u q m
  refine⟨_,rfl,Fe (s:={s with heap:=h',toks:=y}) (n:="range_iterator") c rfl rfl (by decide) ⟨.int (lo+i),H,B,⟨t,?_⟩,⟨rfl,rfl⟩,c,λb a=>(d b a).1⟩⟩
  rw[Int.mul_one]
 done:=by
  intro X r l x j i av s Z H E I d st p
  subst r l x
  obtain⟨g,f,G,u,q,m⟩:=d it (by simp)
  exact wpAny_pyNext_range_end (I.ok.hd j) st (by have:n<=i:=p;ext) λh' A=>⟨rfl,I.turned (t':=s.toks) (λb o a e=>A b o a e) g f u q m⟩
 self:=λ_ _ _ _ _ st h=>wpAny_pyIter_rangeiter st h
section
variable{X:Cx}{tg:Ez}
def Ku(K:Frag)(tl:TE):TI:=λZ H R=>tl Z H λx H1=>∃ a,x=.ref a/\(∃ xs,d_ K H1 a xs)/\R (Br K a) H1
theorem U3{l:Ez}{tl:TE}(k:PE X l tl):PI X tg l (Ku X.K tl):=by
 intro av s Z H R I h
 refine cz (k av s Z H _ I h) λv s1 d=>?_
 obtain⟨x,H1,c,r1,g⟩:=d
 obtain⟨a,e,⟨xs,j⟩,q⟩:=g
 subst e
 cases r1
 obtain⟨m,f⟩:=c.list j
 refine EN f.2.1.isList ?_
 refine⟨s1.heap.objs.size,[s1.heap.objs.size],_,_,H1,rfl,c.kept λb o e=>AB _ e,Oq a _,⟨_,AN _ rfl,rfl,rfl⟩,λb i=>?_,q⟩
 have e:=by simpa using i
 subst e
 exact c.me (AG _) (c.cj.fresh (AG _))
theorem WK{R:It->Hp->Prop}{lo hi:Int}{t u v:Tok}(I:Inv X av Z H s)(h1 : -(2 ^ 62)<=lo)(h2:lo < 2 ^ 62)(g : -(2 ^ 62)<=hi)(d:hi < 2 ^ 62)
  (q:R (Fm lo (hi - lo).toNat) H):wpAny (model X.prog X.w) X.A (pyIter (.ref s.heap.objs.size)) (Ov X av Z tg R) E {s with heap:=s.heap.push {cls:=.type "range",data:=.fields #[.int lo t,.int hi u,.int 1 v]},toks:=c}:=by
 refine wpAny_pyIter_range (IsRange.new ..) (small_one h1 h2 g d) ?_
 have a:Inv X av Z H {s with heap:=s.heap.push {cls:=.type "range",data:=.fields #[.int lo t,.int hi u,.int 1 v]},toks:=c}:=I.kept λb o e=>AB _ e
 refine⟨(s.heap.push {cls:=.type "range",data:=.fields #[.int lo t,.int hi u,.int 1 v]}).objs.size,[(s.heap.push {cls:=.type "range",data:=.fields #[.int lo t,.int hi u,.int 1 v]}).objs.size],_,_,H,rfl,
  a.kept λb o e=>AB _ e,X9 _ lo _,?_,λb f=>?_,q⟩
 .have e1:lo+((0:Nat)) * 1=lo:=by simp
  have e2:(((hi - lo).toNat)) - ((0:Nat))=Builtin.Range.rangeSize lo hi 1:=by rw[rangeSize_one];ext
  rw[e1,e2]
  exact AN _ rfl
 .have e:b=(s.heap.push {cls:=.type "range",data:=.fields #[.int lo t,.int hi u,.int 1 v]}).objs.size:=by simpa using f
  subst e
  exact a.me (AG _) (a.cj.fresh (AG _))
def Kt(ta:TA):TI:=λZ H R=>ta Z H λvs H1=>∃ j:Int,vs=[.int j] /\ -(2 ^ 62)<=j/\j < 2 ^ 62/\R (Fm 0 j.toNat) H1
theorem Oo{a:Ez}{ta:TA}{p pos:Pos}(k:Gl X "range")(d:X.mg "range"=none)(g:PA X [a] ta)(i:autoParam (starEach [a] X.env=[(false,eval a X.env)]) z3):PI X tg (.Call (.Name "range" p) [a] [] pos) (Kt ta):=by
 intro av s Z H R I h
 refine Call_ (m7 I k d boot_range (CW (cz (g pos av s Z H _ I h) λus s1 c=>?_) i rfl))
 obtain⟨vs,H1,f,r1,b⟩:=c
 obtain⟨j,e,b⟩:=b
 subst e
 cases r1 with
 | cons r rr=>
  cases rr
  obtain⟨t,rfl⟩:=r
  exact call_range_1 (WK f (by simp) (by simp) b.1 b.2.1 (by simp_all))
def Ho(wi:TI)(g:TG)(tb:TS):TS:=λD Z H=>wi Z H λJ H1=>∃ W:Nat->Nat->St->Hp->Prop,(∃ m,W 0 m Z H1)/\∀ i m Z H,W i m Z H->
 (J.stop i H/\D.nx Z H)\/(J.go i H/\∃ N:St->Hp->Prop,(∀ Z' H',N Z' H'->∃ m',m' < m/\W (i+1) m' Z' H')/\∀ x H',J.oz i H x H'->g x Z H' λZ2 H2=>tb {D with nx:=N,ct:=N,bk:=D.nx} Z2 H2)
noncomputable def xX(fp:L9 Az)(h:Hz):L9 (Az×Obj):=fp.filterMap λb=>(h.get? b).map λo=>(b,o)
theorem mM{a:L9 Az}{h:Hz}(hb:b∈a)(e:h.get? b=some o):(b,o)∈xX a h:=DE.mpr ⟨b,hb,by simp_all⟩
theorem XE{a:L9 Az}{h:Hz}{p:Az×Obj}(d:p∈xX a h):p.1∈a/\h.get? p.1=some p.2:=by
 obtain⟨b,f,e⟩:=DE.mp d
 cases q:h.get? b with
 | none=>simp_all
 | some o=>
  rw[q]at e
  have c:=CB e
  subst c
  exact⟨f,q⟩
theorem Inv.pinned{a:L9 Az}(I:Inv X av Z H s)(f:∀ b∈a,iW X av H b)(e:∀ b∈a,∃ o,s.heap.get? b=some o/\∀ v,o.data≠.cell v):Inv X (av++xX a s.heap) Z H s:=
 I.ez λp d=>(BN.mp d).elim (λz=>I.pin p (BW _ z)) λz=>by
  have c:=XE z
  obtain⟨h,g⟩:=f p.1 c.1
  have o:=e p.1 c.1
  simp_all
theorem Inv.hR(I:Inv X (av++pl) Z H s):Inv X av Z H s:=I.ez λp a=>I.pin p (BW _ (C6 _ a))
theorem lV{p:Ez}{O:TI}{g:TG}{tb:TS}{pos:Pos}(y:PassesOwn (model X.prog X.w) X.A X.env X.xe)(G:X.calm=true)(hi:PI X tg p O)(hg:PG X tg g)(hb:ix X body tb)
  (hs:∀ x,foldedSetIterable p X.env x=pure x:=by intro _;rfl):PS X (.For tg p body [] pos) (Ho O g tb):=by
 intro av s Z H D I h
 refine wpAny_For (cz (hi av s Z H _ I h) λv s1 h1=>cz h1 λQ s2 h2=>?_) hs
 obtain⟨it,z,F,J,H2,e,V,T,st2,K,W,⟨m0,P⟩,t⟩:=h2
 subst e
 have j:∀ {H':Hp},(∀ b∈z,H' b=none)->∀ b∈z,iW X av H' b:=λhn b hb=>⟨hn b hb,(K b hb).2⟩
 refine codeAny_forLoop_any (λn s'=>∃ i Z' H',Inv X av Z' H' s'/\F i s'.heap/\(∀ b∈z,H' b=none)/\W i n Z' H') ?_ m0 ⟨0,Z,H2,V,st2,λb hb=>(K b hb).1,P⟩
 rintro n M ⟨i,Z3,H3,I3,ze,Dd,w3⟩
 rcases t i n Z3 H3 w3 with ⟨stop,S⟩|⟨go,N,R,step⟩
 .refine DH y (cz (T.done X rfl rfl rfl G i av M Z3 H3 X.xe I3 (j Dd) ze stop) λr s4 c=>?_)
  obtain⟨hr,I4⟩:=c
  subst hr
  exact DZ ⟨Z3,H3,I4,S⟩
 .refine DH y (cz (T.item X rfl rfl rfl G i av M Z3 H3 X.xe I3 (j Dd) ze go) λr s4 c=>?_)
  obtain⟨u,hr,U⟩:=c
  subst hr
  refine DH y (cz U λ_ s5 c=>?_)
  obtain⟨x,H5,I5,r5,y5,q,C⟩:=c
  refine DH y (cz (hg _ s5 Z3 H5 x u _ (I5.pinned (j C) (T.obj _ _ q)) r5 (step x H5 y5)) λ_ s6 c=>?_)
  obtain⟨Z6,H6,I6,q6⟩:=c
  refine DH y (cz (hb _ s6 Z6 H6 _ I6 q6) λf E B=>?_)
  have d:∀ {k:St} {l:Hp},Inv X _ k l E->N k l->∃ m,m < n/\∃ i Z' H',Inv X av Z' H' E/\F i E.heap/\(∀ b∈z,H' b=none)/\W i m Z' H':=λ{k l} a n7=>by
   obtain⟨m',L⟩:=R k l n7
   refine⟨m',L.1,i+1,k,l,a.hR,T.keep _ _ _ q λb hb o e=>(a.pin _ (BW _ (BW _ (mM hb e)))).1,λb hb=>?_,L.2⟩
   obtain⟨o,e⟩:=T.obj _ _ q b hb
   exact(a.pin _ (BW _ (BW _ (mM hb e.1)))).2.1
  cases f with
  | next=>obtain⟨k,l,a⟩:=B;exact d a.1 a.2
  | cont=>obtain⟨k,l,a⟩:=B;exact d a.1 a.2
  | brk=>obtain⟨k,l,a⟩:=B;exact⟨k,l,a.1.hR,a.2⟩
  | ret v=>obtain⟨Y,k,l,a⟩:=B;exact⟨Y,k,l,a.1.hR,a.2.1,a.2.2⟩
end
abbrev R2:=V->V->Hp->VK->Prop
def e_(X:Cx)(f:V9->V9->Sem V9)(r:R2):Prop:=
 ∀ (av:L9 (Az×Obj)) (s:S9) (Z:St) (H:Hp) (x y:V) (v u:V9) (Q:VK),Inv X av Z H s->aR x v->aR y u->r x y H Q->
  wpAny (model X.prog X.w) X.A (f v u) (EP X av Z Q) X.xe s
def Bj(X:Cx)(f:V9->Sem V9)(r:V->Hp->VK->Prop):Prop:=
 ∀ (av:L9 (Az×Obj)) (s:S9) (Z:St) (H:Hp) (x:V) (v:V9) (Q:VK),Inv X av Z H s->aR x v->r x H Q->
  wpAny (model X.prog X.w) X.A (f v) (EP X av Z Q) X.xe s
def gV(X:Cx)(f:V9)(r:L9 V->Hp->VK->Prop):Prop:=
 ∀ (av:L9 (Az×Obj)) (s:S9) (Z:St) (H:Hp) (xs:L9 V) (us:L9 V9) (Q:VK),Inv X av Z H s->aX xs us->r xs H Q->
  wpAny (model X.prog X.w) X.A (call f us) (EP X av Z Q) X.xe s
def vk(r:R2)(ta tb:TE):TE:=λZ H Q=>ta Z H λx H1=>tb Z H1 λy H2=>r x y H2 Q
def OH(r:V->Hp->VK->Prop)(ta:TE):TE:=λZ H Q=>ta Z H λx H1=>r x H1 Q
def rI(C:Int->Int->Prop)(g:Int->Int->V):R2:=λx y H Q=>∃ i j,x=.int i/\y=.int j/\C i j/\Q (g i j) H
def v_(g:Int->Int->V):R2:=λx y H Q=>∃ i j,x=.int i/\y=.int j/\Q (g i j) H
def rU(g:Int->V):V->Hp->VK->Prop:=λx H Q=>∃ i,x=.int i/\Q (g i) H
section
variable{X:Cx}{a b c:Ez}{ta tb tc:TE}{pos:Pos}
theorem Hn(g:PE X a ta)(hb:PE X b tb){R:V->V->Hp->Prop}(I:Inv X av Z H s)
  (h:ta Z H λx H1=>tb Z H1 λy H2=>R x y H2)  {f:V9->V9->Sem V9}
  (e:∀ v u s2 x y H2,Inv X av Z H2 s2->aR x v->aR y u->R x y H2->wpAny (model X.prog X.w) X.A (f v u) Q X.xe s2) :
  wpAny (model X.prog X.w) X.A (eval a X.env) (λv s₁=>wpAny (model X.prog X.w) X.A (eval b X.env) (λu s₂=>wpAny (model X.prog X.w) X.A (f v u) Q X.xe s₂) X.xe s₁) X.xe s:=by
 refine cz (g av s Z H _ I h) λv s1 c=>?_
 obtain⟨x,H1,j,r1,d⟩:=c
 refine cz (hb av s1 Z H1 _ j d) λu s2 c=>?_
 obtain⟨y,H2,i,r2,k⟩:=c
 exact e v u s2 x y H2 i r1 r2 k
theorem Fd{c:Operator}{r:R2}(f:e_ X (binaryOp c) r)(g:PE X a ta)(hb:PE X b tb):PE X (.BinOp a c b pos) (vk r ta tb):=by
 intro av s Z H Q I h
 exact wpAny_BinOp (Hn g hb I h λv u j x y H2 i d e q=>f av j Z H2 x y v u Q i d e q)
theorem P8{c:UnaryOp}{r:V->Hp->VK->Prop}(d:Bj X (unaryOp c) r)(e:PE X a ta):PE X (.UnaryOp c a pos) (OH r ta):=by
 intro av s Z H Q I h
 exact UnaryOp_ (cz (e av s Z H _ I h) λv s1 x=>by obtain⟨x,H1,b⟩:=x;exact d av s1 Z H1 x v Q b.1 b.2.1 b.2.2)
theorem Cd{f:V9->V9->Sem V9}{C:Int->Int->Prop}
  (a:∀ (i j:Int) (t u:Tok) (s:S9) (Q:V9->S9->Prop) (E:V9->S9->Prop),C i j->Q (.int (g i j) s.toks) {s with toks:=s.toks+1}->wpAny (model X.prog X.w) X.A (f (.int i t) (.int j u)) Q E s) :
  e_ X f (rI C λi j=>.int (g i j)):=by
 intro av s Z H x y v u Q I c d h
 obtain⟨i,j,rfl,rfl,b⟩:=h
 obtain⟨t,rfl⟩:=c
 obtain⟨e,rfl⟩:=d
 exact a i j t e s _ _ b.1 ⟨.int _,H,I.tok _,⟨_,rfl⟩,b.2⟩
theorem J0{f:V9->V9->Sem V9}
  (a:∀ (i j:Int) (t u:Tok) (s:S9) (Q:V9->S9->Prop) (E:V9->S9->Prop),Q (.int (g i j) s.toks) {s with toks:=s.toks+1}->wpAny (model X.prog X.w) X.A (f (.int i t) (.int j u)) Q E s) :
  e_ X f (v_ λi j=>.int (g i j)):=by
 intro av s Z H x y v u Q I b c h
 obtain⟨i,j,rfl,rfl,q⟩:=h
 obtain⟨t,rfl⟩:=b
 obtain⟨d,rfl⟩:=c
 exact a i j t d s _ _ ⟨.int _,H,I.tok _,⟨_,rfl⟩,q⟩
theorem Hm{f:V9->V9->Sem V9}{g:Int->Int->Bool}
  (a:∀ (i j:Int) (t u:Tok) (s:S9) (Q:V9->S9->Prop) (E:V9->S9->Prop),Q (.bool (g i j)) s->wpAny (model X.prog X.w) X.A (f (.int i t) (.int j u)) Q E s) :
  e_ X f (v_ λi j=>.bl (g i j)):=by
 intro av s Z H x y v u Q I b c h
 obtain⟨i,j,rfl,rfl,q⟩:=h
 obtain⟨t,rfl⟩:=b
 obtain⟨d,rfl⟩:=c
 exact a i j t d s _ _ ⟨.bl _,H,I,rfl,q⟩
def YU(i j:Int):Prop:=0<=j/\j<=1000000/\i.natAbs < 2 ^ 64
def Hl(i j:Int):Prop:=(-(2 ^ 64) < i/\i < 2 ^ 64)\/(-(2 ^ 64) < j/\j < 2 ^ 64)
theorem Hl.ok{i j:Int}(h:Hl i j):IntMulOk i j:=by
 rcases h with ⟨h1,h2⟩|⟨h1,h2⟩
 · exact .of_left (intBits_le_64 h1 h2)
 · exact .of_right (intBits_le_64 h1 h2)
theorem SH:e_ X (binaryOp .Add) (v_ λi j=>.int (i+j)):=J0 λ_ _ _ _ _ _ _ q=>add_int q
theorem SG:e_ X (binaryOp .Sub) (v_ λi j=>.int (i - j)):=J0 λ_ _ _ _ _ _ _ q=>sub_int q
theorem SF:e_ X (binaryOp .Mult) (rI Hl λi j=>.int (i * j)):=Cd λ_ _ _ _ _ _ _ a q=>mul_int q a.ok
theorem SE:e_ X (binaryOp .Mod) (rI (λ_ j=>0 < j) λi j=>.int (i % j)):=Cd λi j _ _ _ _ _ a q=>mod_int' (by ext) (by rw[Int.fmod_eq_emod_of_nonneg i (by ext)];ext)
theorem RY:e_ X (binaryOp .Pow) (rI YU λi j=>.int (i ^ j.toNat)):=Cd λ_ _ _ _ _ _ _ a q=>pow_int_small a.1 a.2.1 a.2.2 q
theorem OE{f:V9->Sem V9}{g:Int->Int}
  (a:∀ (i:Int) (t:Tok) (s:S9) (Q:V9->S9->Prop) (E:V9->S9->Prop),Q (.int (g i) s.toks) {s with toks:=s.toks+1}->wpAny (model X.prog X.w) X.A (f (.int i t)) Q E s) :
  Bj X f (rU λi=>.int (g i)):=by
 intro av s Z H x v Q I b h
 obtain⟨i,rfl,q⟩:=h
 obtain⟨t,rfl⟩:=b
 exact a i t s _ _ ⟨.int _,H,I.tok _,⟨_,rfl⟩,q⟩
theorem RX:Bj X (unaryOp .USub) (rU λi=>.int (-i)):=OE λ_ _ _ _ _ q=>neg_int q
end
section
variable{X:Cx}{a b c:Ez}{ta tb tc:TE}{pos:Pos}
theorem Iw{Q:VK}{k a:Bool}(I:Inv X av Z H s)(q:Q (.bl k) H)(e:k=a):EP X av Z Q (.bool a) s:=by
 subst e
 exact⟨.bl k,H,I,rfl,q⟩
theorem P7:e_ X (compareOp .Lt) (v_ λi j=>.bl (decide (i < j))):=Hm λ_ _ _ _ _ _ _ q=>lt_int q
theorem P6:e_ X (compareOp .Gt) (v_ λi j=>.bl (decide (j < i))):=Hm λ_ _ _ _ _ _ _ q=>gt_int q
theorem P5:e_ X (compareOp .GtE) (v_ λi j=>.bl (decide (j<=i))):=Hm λ_ _ _ _ _ _ _ q=>ge_int q
theorem XD:e_ X (compareOp .In) (λx y H Q=>∃ i j,x=.str i/\y=.str j/\Q (.bl (!(Builtin.Str.occurrences j i 0 j.length 1).isEmpty)) H):=by
 intro av s Z H x y v u Q I a b h
 obtain⟨i,j,rfl,rfl,q⟩:=h
 obtain⟨t,rfl⟩:=a
 obtain⟨c,rfl⟩:=b
 exact in_str (Iw I q rfl)
theorem U2:e_ X (compareOp .IsNot) (λx y H Q=>y=.fg/\Q (.bl (!decide (x=.fg))) H):=by
 intro av s Z H x y v u Q I b a h
 obtain⟨rfl,q⟩:=h
 cases a
 refine isnot_none_gen (Iw I q ?_)
 cases x<;>first
  | rfl
  | (obtain⟨t,rfl⟩:=b;rfl)
theorem Yu:e_ X (compareOp .NotIn) (λx y H Q=>∃ i j,x=.str i/\y=.str j/\Q (.bl (!(!(Builtin.Str.occurrences j i 0 j.length 1).isEmpty))) H):=by
 intro av s Z H x y v u Q I a b h
 obtain⟨i,j,rfl,rfl,q⟩:=h
 obtain⟨t,rfl⟩:=a
 obtain⟨c,rfl⟩:=b
 exact notIn_str (Iw I q rfl)
theorem dY(b:Ez){a:CmpOp}(h:autoParam (a≠.In) z5)(h2:autoParam (a≠.NotIn) z5):behindInMarks a b=false:=by
 have e1:(a == CmpOp.In)=false:=by ext
 have e2:(a == CmpOp.NotIn)=false:=by ext
 cases b<;>simp[behindInMarks,e1,e2]
theorem U1{c:CmpOp}{r:R2}(g:e_ X (compareOp c) r)(i:PE X a ta)(hb:PE X b tb)(d:behindInMarks c b=false):PE X (.Compare a [c] [b] pos) (vk r ta tb):=by
 intro av s Z H Q I h
 exact wpAny_Compare1 (Hn i hb I h λv u k x y H2 j e f q=>g av k Z H2 x y v u Q j e f q) d
def Ks(t:TE):TT:=λZ H Q=>t Z H λx H'=>∃ k,x=.bl k/\Q k H'
theorem zL{d:CmpOp}{r:R2}(l:e_ X (compareOp d) r)(m:PE X a ta)(hb:PE X b tb)(g:behindInMarks d b=false):PT X (.Compare a [d] [b] pos) (Ks (vk r ta tb)):=by
 intro av s Z H Q I h
 refine wpAny_isTrue_Compare1 (cz (m av s Z H _ I h) λv s1 ⟨x,H1,q,r1,i⟩=>cz (hb av s1 Z H1 _ q i) λu p ⟨y,H2,n,r2,t⟩=>
  cz (l av p Z H2 x y v u _ n r1 r2 t) λc w ⟨z,H3,f,o,k,e,j⟩=>?_) g
 subst e
 cases o
 exact DM ⟨H3,f,j⟩
theorem xY:(sizeLine:Nat) < 2 ^ 63:=by decide
theorem X8:e_ X (binaryOp .Add) (λx y H Q=>∃ i j,x=.str i/\y=.str j/\i.length+j.length<=sizeLine/\Q (.str (i++j)) H):=by
 intro av s Z H x y v u Q I b c h
 obtain⟨i,j,rfl,rfl,a⟩:=h
 obtain⟨t,rfl⟩:=b
 obtain⟨d,rfl⟩:=c
 exact add_str (λd e=>⟨.str _,H,I.tok _,⟨_,rfl⟩,a.2⟩) a.1
theorem n5{x:V}(r:aX [x] us):∃ u,us=[u]/\aR x u:=by
 cases r with
 | cons r1 r2=>cases r2;exact⟨_,rfl,r1⟩
theorem uG{x y:V}(r:aX [x,y] us):∃ u w',us=[u,w']/\aR x u/\aR y w':=by
 cases r with
 | cons r1 r2=>
  cases r2 with
  | cons r3 r4=>cases r4;exact⟨_,_,rfl,r1,r3⟩
theorem Wl:gV X (.builtin "abs") (λxs H Q=>∃ i,xs=[.int i]/\Q (.int (if i < 0 then -i else i)) H):=by
 intro av s Z H xs us Q I r h
 obtain⟨i,rfl,q⟩:=h
 obtain⟨u,rfl,t,rfl⟩:=n5 r
 exact call_abs_int λu a=>⟨.int _,H,I.tok _,⟨_,rfl⟩,q⟩
theorem XC(b:X.calm=true):gV X (.builtin "min") (λxs H Q=>∃ i j,xs=[.int i,.int j]/\Q (.int (if j < i then j else i)) H):=by
 intro av s Z H xs us Q I r h
 obtain⟨i,j,rfl,q⟩:=h
 obtain⟨u,c,rfl,⟨t,rfl⟩,⟨e,rfl⟩⟩:=uG r
 refine min_two_ints (I.ok.hd b) λh' d k=>⟨_,H,I.kept k,?_,q⟩
 by_cases a:j < i
 · rw [AI a, AI a]; exact⟨_, rfl⟩
 · rw [AM a, AM a]; exact⟨_, rfl⟩
def JU(K:Frag)(x:V)(H:Hp)(n:Nat):Prop:=
 match x with
 | .str y=>y.length<=sizeLine/\n=y.length
 | .yh y=>y.size<=sizeLine/\n=y.size
 | .ref p=>(∃ xs,d_ K H p xs/\n=xs.length)\/∃ xs,fq K H p xs/\n=xs.length
 | _=>False
theorem NO:gV X (.builtin "len") (λxs H Q=>∃ x n,xs=[x]/\JU X.K x H n/\Q (.int n) H):=by
 intro av s Z H xs us Q I r h
 obtain⟨x,n,rfl,e,q⟩:=h
 obtain⟨u,rfl,c⟩:=n5 r
 have l:=CS
 cases x with
 | str y=>
  obtain⟨t,rfl⟩:=c
  obtain⟨k,b⟩:=e
  subst b
  exact len_str (by ext) ⟨.int _,H,I.tok _,⟨_,rfl⟩,q⟩
 | yh y=>
  obtain⟨t,rfl⟩:=c
  obtain⟨k,b⟩:=e
  subst b
  exact PySem.W.len_bytes (by ext) ⟨.int _,H,I.tok _,⟨_,rfl⟩,q⟩
 | ref p=>
  cases c
  have b:=e
  rcases b with ⟨xs,f,b⟩|⟨xs,f,b⟩
  .subst b
   obtain⟨g,i,d,j⟩:=I.list f
   have a:=i.length
   exact Calls.call_len_list d.isList (by simp only[CH];ext) ⟨.int xs.length,H,I.tok _,⟨_,by simp only[CH];rw[a]⟩,q⟩
  .subst b
   obtain⟨g,i,d,j⟩:=I.tuple f
   have a:=i.length
   exact len_tuple d (by simp only[CH];ext) ⟨.int xs.length,H,I.tok _,⟨_,by simp only[CH];rw[a]⟩,q⟩
 | _=>exact((e)).elim
end
structure qx(h:Heap)(x dx C:Az)(mA:Str->Option V9):Prop where
 obj:h.get? x=some (instObj C dx)
 ns:h.Ns1 dx mA
 ne:dx≠x
theorem lX{h:Hz}(n:h.Ns1 dx mA):∃ od,h.get? dx=some od/\∀ name,lookIn name od=some (mA name):=by
 obtain⟨o,es,ep,c⟩:=n
 refine⟨o,c.1,λname=>?_⟩
 have e:=c.2.2.2.2 name
 unfold nsFind findBy at e
 rw[<-Array.find?_toList]at e
 unfold lookIn
 rw[c.2.1]
 dsimp
 split
 .simp_all
 .rename_i q
  rw[q]at e
  have a:es.toList.any (·.refKey)=false:=by
   rw[List.any_eq_false]
   intro y d
   obtain⟨z,t,b⟩:=c.2.2.1 y (Array.mem_toList_iff.mp d)
   simp[DictEntry.refKey,b]
  ext
theorem qx.look{h:Hz}{x:Az}(I:qx h x dx C mA):∃ od,PySem.W.InstAt h x (instObj C dx) C (some od)/\∀ name,lookIn name od=some (mA name):=
 let ⟨od,ho,hl⟩:=lX I.ns
 ⟨od,⟨I.obj,rfl,rfl,ho⟩,hl⟩
section
variable{prog:P9}{w:W9}{A:U9}{E:V9->S9->Prop}{s:S9}{K:Frag}{x dx C f:Az}{mA:Str->O9 V9}{name:Str}{v:V9}
theorem U0{a:Bool}(X:K.In s.heap)(I:qx s.heap x dx C mA)(d:plainGet K C name=true)(e:hasDictIn K C=true)
  (c:findIn K (.ref C) name=some none) (f:mA name=some v) (b:handedIn v=true) (h:Q v {s with toks:=s.toks+1}) :
  wpAny (model prog w) A (getAttr (.ref x) name a) Q E s:=by
 obtain⟨od,J⟩:=I.look
 exact PySem.W.get_value X J.1 (E6 d).1 (findObj_own e c rfl (by simp_all)) b h
theorem Wk{pl:Sem Bool}{Q:V9×L9 V9->S9->Prop}(X:K.In s.heap)(I:qx s.heap x dx C mA)(a:plainGet K C name=true)
  (c:findIn K (.ref C) name=some (some (.ref f))) (b:isFn K (.ref f)=true) (d:mA name=none) (h:Q (.ref f,[.ref x]) s) :
  wpAny (model prog w) A (getMethod (.ref x) name pl) Q E s:=by
 obtain⟨od,J⟩:=I.look
 exact PySem.W.method_fn X J.1 (E6 a).1 (E6 a).2 c (beq_iff_eq.mp b) (by show(lookIn name od).map _=some false;simp_all) h
theorem UZ{ns:L9 Str}{Q:Unit->S9->Prop}(X:K.In s.heap)(I:qx s.heap x dx C mA)
  (l:findIn K (.ref C) "__setattr__"=some (some (.builtin "object.__setattr__"))) (g:plainOver K C=true) (f:takerIn K C name=some none) (j:hasDictIn K C=true)
  (hw:PySem.Within mA ns) (hsz:ns.length<=sizeLine)
  (h:∀ h',qx h' x dx C (λy=>if y=name then some v else mA y)->Heap.SameBut dx s.heap h'->Q () {s with heap:=h',toks:=s.toks+2}) :
  wpAny (model prog w) A (setAttr (.ref x) name v) Q E s:=by
 obtain⟨od,J⟩:=I.look
 refine PySem.W.set_plain X J.1 l (PySem.W.osa_open X J.1 g f λb=>?_)
 obtain⟨cd,e⟩:=PySem.W.any_some j
 refine AA (AC (AA (AA (E8 I.obj (AA (PySem.W.Looks.here (PySem.W.looks_clsIn X e.1) ?_))))))
 rw[e.2]
 refine AC (AA (AC (AA ?_)))
 refine wpAny_nsSet1 I.ns λh' d c=>?_
 obtain⟨m,k,i,a⟩:=d.count (PySem.Within.cons name v hw)
 refine AA (FV a.1 (by rw[a.2.1];exact FW (A6 a.2.2 (by ext))) ?_)
 exact AC (h _ ⟨(c.2 _ (BD I.ne)).trans I.obj,d,I.ne⟩ c)
theorem Wj{R:Result->S9->Prop}{vs:L9 V9}{b:L9 (Str×V9)}(X:K.In s.heap)(d:makesIn K C=true)
 (hi:findIn K (.ref C) "__init__"=some (some (.ref f))) (c:typeIn K (.ref f)=some (.type "function"))
 (h:codeAny (model prog w) (A.under (.builtin "type.__call__" ⟨.ref C::vs,b⟩)) (.call (.ref f) ⟨.ref (s.heap.objs.size+1)::vs,b⟩) (PySem.W.InitBack (s.heap.objs.size+1) R)
  {s with heap:=(s.heap.push emptyDict).push (instObj C s.heap.objs.size)}) :
 codeAny (model prog w) A (.call (.ref C) ⟨vs,b⟩) R s:=PySem.W.make_core (PySem.W.makes_of X d) (PySem.W.looks_findIn X hi) (λa=>PySem.W.bind_fn X a c) (.inl rfl) h
end
noncomputable def f9(f:Str)(v:V):L9 (Str×V)->L9 (Str×V)
 | []=>[(f,v)]
 | (g,x)::r=>if g=f then(g,v)::r else(g,x)::f9 f v r
theorem o3(f g:Str)(v:V):∀ fs:L9 (Str×V),(f9 f v fs).lookup g=if g=f then some v else fs.lookup g
 | []=>by
  show List.lookup g [(f,v)]=_
  ext
 | (k,x)::r=>by
  have ih:=o3 f g v r
  rw[show f9 f v _=(if k=f then(k,v)::r else(k,x)::f9 f v r)from rfl]
  ext
theorem sB(f:Str)(v:V):∀ fs:L9 (Str×V),f∈(f9 f v fs).map (·.1)/\∀ g,g∈fs.map (·.1)->g∈(f9 f v fs).map (·.1)
 | []=>⟨by simp[f9],λg h=>by simp_all⟩
 | (k,x)::r=>by
  have i1:=sB f v r
  rw[show f9 f v _=(if k=f then(k,v)::r else(k,x)::f9 f v r)from rfl]
  ext
theorem wA(f:Str)(v:V):∀ fs:L9 (Str×V),(f9 f v fs).length<=fs.length+1
 | []=>by simp[f9]
 | (k,x)::r=>by
  have ih:=wA f v r
  rw[show f9 f v _=(if k=f then(k,v)::r else(k,x)::f9 f v r)from rfl]
  ext
theorem gU.some_of{v:V}{o:O9 V9}(r:gU (some v) o):∃ u,o=some u/\aR v u:=by
 cases o with
 | none=>exact((r)).elim
 | some u=>exact⟨u,rfl,r⟩
theorem gU.none_of{o:O9 V9}(r:gU none o):o=none:=by
 cases o with
 | none=>rfl
 | some u=>exact((r)).elim
theorem Om{v:V}(r:aR v u):handedIn u=true:=by
 cases v with
 | fg=>cases((r));rfl
 | bl b=>cases((r));rfl
 | int i=>obtain⟨t,e⟩:=((r));cases e;rfl
 | str x=>obtain⟨t,e⟩:=((r));cases e;rfl
 | yh b=>obtain⟨t,e⟩:=((r));cases e;rfl
 | xl b=>obtain⟨t,e⟩:=((r));cases e;rfl
 | ref a=>cases((r));rfl
 | ty n=>cases((r));rfl
section
variable{P:P9}{w:W9}{H H':Hp}{h h':Hz}{a C dx:Az}{fs wc:L9 (Str×V)}
theorem uH(cj:eh P w H h)(e:H a=some (.ins C dx fs)):∃ mA,qx h a dx C mA/\(∀ f,gU (fs.lookup f) (mA f))/\PySem.Within mA (fs.map (·.1))/\fs.length<=1000/\H dx=some (.own a):=by
 obtain⟨d,z,b,c,mA,n⟩:=((cj a _ e))
 exact⟨mA,⟨c,n.1,b⟩,n.2.1,n.2.2,z,d⟩
end
structure ky(K:Frag)(C:Az):Prop where
 pg:plainGet K C Str.empty=true
 hd:hasDictIn K C=true
 po:plainOver K C=true
 sa:findIn K (.ref C) "__setattr__"=some (some (.builtin "object.__setattr__"))
theorem ky.get{K:Frag}{C:Az}(c:ky K C)(f:Str):plainGet K C f=true:=c.pg
def cQ(K:Frag)(C:Az)(f:Str):Prop:=findIn K (.ref C) f=some none
theorem cQ.za{f:Str}(n:cQ K C f):takerIn K C f=some none:=by
 unfold takerIn
 rw[(n)]
 rfl
structure Meth(K:Frag)(C:Az)(m:Str)(f:Az):Prop where
 at_:findIn K (.ref C) m=some (some (.ref f))
 fn:isFn K (.ref f)=true
 kp:keepIn K (.ref f)=true
section
variable{X:Cx}{av:L9 (Az×Obj)}{Z:St}{H:Hp}{s:S9}{a C dx:Az}{fs:L9 (Str×V)}{f:Str}{v:V}{A:U9}{E:V9->S9->Prop}
theorem X7{b:Bool}(I:Inv X av Z H s)(e:H a=some (.ins C dx fs))(c:ky X.K C)(n:cQ X.K C f)(l:fs.lookup f=some v)
  (h:∀ u s',Inv X av Z H s'->aR v u->Q u s'):wpAny (model X.prog X.w) A (getAttr (.ref a) f b) Q E s:=by
 obtain⟨mA,O⟩:=uH I.cj e
 obtain⟨u,d⟩:=gU.some_of (by rw[<-l];exact O.2.1 f)
 exact U0 I.ee O.1 (c.get f) c.hd n d.1 (Om d.2) (h u _ (I.tok _) d.2)
theorem X6{g:Az}{pl:Sem Bool}{Q:V9×L9 V9->S9->Prop}(I:Inv X av Z H s)(e:H a=some (.ins C dx fs))(c:ky X.K C)(k:Meth X.K C m g)(l:fs.lookup m=none)
  (h:Q (.ref g,[.ref a]) s):wpAny (model X.prog X.w) A (getMethod (.ref a) m pl) Q E s:=by
 obtain⟨mA,O⟩:=uH I.cj e
 exact Wk I.ee O.1 (c.get m) k.at_ k.fn (gU.none_of (by rw[<-l];exact O.2.1 m)) h
theorem X5{y:V}{Q:Unit->S9->Prop}(I:Inv X av Z H s)(e:H a=some (.ins C dx fs))(c:ky X.K C)(n:cQ X.K C f)(t:fs.length < 1000)(j:aR y u)
  (h:∀ s',Inv X av Z (upd H a (.ins C dx (f9 f y fs))) s'->Q () s'):wpAny (model X.prog X.w) A (setAttr (.ref a) f u) Q E s:=by
 obtain⟨mA,O,r,i,_,l⟩:=uH I.cj e
 refine UZ I.ee O c.sa c.po n.za c.hd i (by rw[AL,CS];ext) λh' d m=>h _ ?_
 refine I.write (by rw[e];exact True.intro) (.inr l) (λb q k z=>(m.2 b k).trans z) (let ⟨o,_,_,e',_⟩:=d.ns;⟨o,e'⟩) ?_
 refine⟨by rw[aE O.ne];ext,?_,O.ne,d.obj,_,d.ns,λg=>?_,λg p=>?_⟩
 .have:=wA f y fs;ext
 .rw[o3]
  by_cases q:g=f
  .rw[AI q,AI q];exact j
  simp_all
 .by_cases q:g=f
  .rw[q];exact(sB f y fs).1
  .refine (sB f y fs).2 g (i g λz=>p ?_)
   simp_all
theorem Inv.made(I:Inv X av Z H s):Inv X av Z (upd (upd H s.heap.objs.size (.own (s.heap.objs.size+1))) (s.heap.objs.size+1) (.ins C s.heap.objs.size []))
  {s with heap:=(s.heap.push emptyDict).push (instObj C s.heap.objs.size)}:=by
 have e2:=by
  have:=AN (s.heap.push emptyDict) (o:=instObj C s.heap.objs.size) rfl
  rwa [BX]at this
 refine(I.laid (o:=.own _) (t':=s.toks) (λb u q=>AB _ q) (AG _) ⟨_,(AN s.heap rfl)⟩).laid (λb u q=>AB _ q) (Nat.le_of_eq (BX _ _)) ?_
 refine⟨by rw[aE (A0 (DT _)),aI],CT _,(A0 (DT _)),e2,λ_=>none,(Heap.Ns1.of_empty (⟨emptyDict,#[],_,(AN s.heap rfl),rfl,(λe a=>absurd a (by simp)),λ_=>rfl⟩)).at λo q=>AB _ q,λ_=>True.intro,λy c=>absurd rfl c⟩
theorem MM{w:W9}{e:Ez}{f:Str}{pos:Pos}{s:S9}(hb:attributeBase e f env (eval e env)=eval e env)
  (h:wpAny (model prog w) A (eval e env) (λo s₁=>wpAny (model prog w) A (getAttr o f true) Q E s₁) E s):wpAny (model prog w) A (eval (.Attribute e f pos) env) Q E s:=
 Attribute_any_ h (by rw[arm_eval_Attribute,hb])
end
def JT(K:Frag)(ta:TE)(f:Str):TE:=λZ H Q=>ta Z H λx H1=>∃ a C dx fs v,x=.ref a/\H1 a=some (.ins C dx fs)/\ky K C/\cQ K C f/\fs.lookup f=some v/\Q v H1
def Hk(K:Frag)(ta tv:TE)(f:Str):TS:=λD Z H=>tv Z H λy H1=>ta Z H1 λx H2=>∃ a C dx fs,x=.ref a/\H2 a=some (.ins C dx fs)/\ky K C/\cQ K C f/\fs.length < 1000 /\
 D.nx Z (upd H2 a (.ins C dx (f9 f y fs)))
section
variable{X:Cx}{o e value:Ez}{f:Str}{pos pos' ql:Pos}{ta tv:TE}
theorem pA(j:PE X e ta)(hb:attributeBase e f X.env (eval e X.env)=eval e X.env):PE X (.Attribute e f pos) (JT X.K ta f):=by
 intro av s Z H Q I h
 refine MM hb (cz (j av s Z H _ I h) λu s1 b=>?_)
 obtain⟨x,H1,m,d,a,C,dx,fs,v,ex,g,c,n,l,q⟩:=b
 subst ex
 obtain rfl:=d
 exact X7 m g c n l λp o k i=>⟨v,H1,k,i,q⟩
theorem jS(d:PE X o ta)(t:PE X value tv)(e:swapsWith value (some (.Attribute o f pos')) pos.line X.env=pure false):PS X (.Assign [.Attribute o f pos'] value pos) (Hk X.K ta tv f):=by
 intro av s Z H D I h
 refine EX (cz (t av s Z H _ I h) λu s1 ⟨y,H1,g,p,q⟩=>cz (d av s1 Z H1 _ g q) λv z b=>?_) e
 obtain⟨x,H2,r,k,a,C,dx,fs,ex,m,c,n,l,i⟩:=b
 subst ex
 obtain rfl:=k
 exact X5 r m c n l p λw j=>⟨Z,_,j,i⟩
theorem Yi{pl:Sem Bool}{apos:Pos}{args:L9 Ez}(o:PE X e te)(I:Inv X av Z H s)
  (h:te Z H λx H1=>∃ a C dx fs g,x=.ref a/\H1 a=some (.ins C dx fs)/\ky X.K C/\Meth X.K C m g/\fs.lookup m=none /\
   ∀ s1,Inv X av Z H1 s1->wpAny (model X.prog X.w) X.A (callWith pos (.ref g) [.ref a] (backTo pos (starEach args X.env)) (backToKw pos (keywordEach [] X.env))) Q X.xe s1)
  (i:eval (.Call (.Attribute e m apos) args [] pos) X.env=(do
   let ov <-eval e X.env
   standAt apos.atName
   let (f,first) <-holding [ov] (getMethod ov m pl)
   callWith pos f first (backTo pos (starEach args X.env)) (backToKw pos (keywordEach [] X.env)))) :
  wpAny (model X.prog X.w) X.A (eval (.Call (.Attribute e m apos) args [] pos) X.env) Q X.xe s:=by
 refine GT (cz (o av s Z H _ I h) λu s1 b=>?_) i
 obtain⟨x,H1,d,j,a,C,dx,fs,g,ex,n,c,k,l,q⟩:=b
 subst ex
 obtain rfl:=j
 exact X6 d n c k l (q s1 d)
end
section
variable{X:Cx}{av:L9 (Az×Obj)}{Z:St}{H:Hp}{s:S9}{A:U9}{E:V9->S9->Prop}{Q:V9->S9->Prop}{c:V9}{b:Bool}
inductive j_(K:Frag)(H:Hp):V->V9->Prop where
 | fg:j_ K H .fg (.type "NoneType")
 | bl (x:Bool):j_ K H (.bl x) (.type "bool")
 | int (i:Int):j_ K H (.int i) (.type "int")
 | str (x:Str):j_ K H (.str x) (.type "str")
 | xl (x:UInt64):j_ K H (.xl x) (.type "float")
 | lst {a:Az} {xs:List V} (e:H a=some (.lst xs)):j_ K H (.ref a) (.type "list")
 | pd {a:Az} {o:Obj} {xs:List V} (e:H a=some (.pd o (.lst xs))):j_ K H (.ref a) (.type "list")
 | tup {a:Az} {xs:List V} (e:H a=some (.tup xs)):j_ K H (.ref a) (.type "tuple")
 | dK {a:Az} {bd:List (Key×V)} (e:H a=some (.dK bd)):j_ K H (.ref a) (.type "dict")
 | dT {a:Az} {bd:List (List Key×V)} (e:H a=some (.dT bd)):j_ K H (.ref a) (.type "dict")
 | ins {a C dx:Az} {fs:List (Str×V)} (e:H a=some (.ins C dx fs)) (cl:ky K C) (ha:findIn K (.ref C) "__class__"=some (some (.builtin "object.__class__")))
  (hn:specialIn K (.builtin "object.__class__") "__get__"=some (some (.builtin "getset_descriptor.__get__"))) (Jp:takesIn K (.builtin "object.__class__")=some true)
  (hm:PySem.W.mroIn K C (.type "object")=some true):j_ K H (.ref a) (.ref C)
theorem XB{x:V}{t:V9}(I:Inv X av Z H s)(d:aR x u)(ty:j_ X.K H x t)(e:kitOne X.K t c=some b)(h:∀ tk,Q (.bool b) {s with toks:=tk}) :
  wpAny (model X.prog X.w) A (call (.builtin "isinstance") [u,c]) Q E s:=by
 cases ty with
 | fg=>cases((d));exact B5 PySem.W.kitx_none I.ee True.intro e (λz=>nomatch z) h
 | bl y=>cases((d));exact B5 PySem.W.kitx_bool I.ee True.intro e (λz=>nomatch z) h
 | int i=>obtain⟨t,q⟩:=((d));cases q;exact B5 PySem.W.kitx_int I.ee True.intro e (λz=>nomatch z) h
 | str y=>obtain⟨t,q⟩:=((d));cases q;exact B5 PySem.W.kitx_str I.ee True.intro e (λz=>nomatch z) h
 | xl y=>obtain⟨t,q⟩:=((d));cases q;exact B5 PySem.W.kitx_float I.ee True.intro e (λz=>nomatch z) h
 | @lst a xs ea=>
  cases((d))
  obtain⟨_,_,n,h1⟩:=((I.cj a _ ea))
  exact B5 FK I.ee ⟨_,h1.2,rfl⟩ e (λz=>nomatch z) h
 | @pd a ob xs ea=>
  cases((d))
  obtain⟨_,_,_,n,h1⟩:=((I.cj a _ ea))
  exact B5 FK I.ee ⟨_,h1.2,rfl⟩ e (λz=>nomatch z) h
 | @tup a xs ea=>
  cases((d))
  obtain⟨_,_,p⟩:=((I.cj a _ ea))
  obtain⟨o,h1⟩:=p.2
  exact B5 kitx_tuple I.ee ⟨o,h1.1,h1.2.1.1⟩ e (λz=>nomatch z) h
 | @dK a bd ea=>
  cases(show u=Value.ref a from d)
  obtain⟨_,_,vs,_,p⟩:=((I.cj a _ ea))
  obtain⟨o,es,ep,h1⟩:=p
  exact B5 kitx_dict I.ee ⟨o,h1.1,h1.2.1.1⟩ e (λz=>nomatch z) h
 | @dT a bd ea=>
  cases(show u=Value.ref a from d)
  obtain⟨_,_,xs,_,o,es,ep,h1⟩:=((I.cj a _ ea))
  exact B5 kitx_dict I.ee ⟨o,h1.1,h1.2.1.1⟩ e (λz=>nomatch z) h
 | @ins a C dx fs ea cl ha hn Jp hm=>
  cases((d))
  obtain⟨mA,O⟩:=uH I.cj ea
  obtain⟨od,J⟩:=O.1.look
  exact B5 (PySem.W.kitx_own (cl.get _) cl.hd ha hn Jp hm) I.ee J.1 e (λz=>nomatch z) h
end
structure cw(k:Nat)(A:Around):Prop where
 hd:A.handled=none
 dp:A.depth+3 * k+5 < recursionLimit
 un:A.units+16 * k+200 < cLine
theorem cw.mono{A:U9}(r:cw k A)(h:j<=k):cw j A:=⟨r.hd,by have:=r.dp;ext,by have:=r.un;ext⟩
theorem cw.deeper{A:U9}(r:cw (k+1) A)(env:Env):cw k (A.deeper env):=
 ⟨r.hd,by have:=r.dp;show A.depth+1+3 * k+5 < _;ext,by have:=r.un;show A.units+3+16 * k+200 < _;ext⟩
theorem X4{A:U9}{a:L9 (Str×V9)}:(A.under (.builtin "type.__call__" ⟨.ref C::us,a⟩)).depth=A.depth+1:=by
 rfl
theorem X3{A:U9}{a:L9 (Str×V9)}:(A.under (.builtin "type.__call__" ⟨.ref C::us,a⟩)).units=A.units+1:=by
 rfl
theorem cw.make{A:U9}(r:cw (k+1) A)(C:Az)(us:L9 V9)(a:L9 (Str×V9)):cw k (A.under (.builtin "type.__call__" ⟨.ref C::us,a⟩)):=
 ⟨r.hd,by have:=r.dp;rw[X4];ext,by have:=r.un;rw[X3];ext⟩
theorem cw.depth{A:U9}(r:cw k A):A.depth < recursionLimit:=by have:=r.dp;ext
theorem cw.units{A:U9}(r:cw k A):A.units+64 < cLine:=by have:=r.un;ext
def dP:TA:=λ_ H Q=>Q [] H
def bR(ta:TE)(tr:TA):TA:=λZ H Q=>ta Z H λx H1=>tr Z H1 λxs H2=>Q (x::xs) H2
section
variable{X:Cx}{e:Ez}{es:L9 Ez}{te:TE}{t:TA}{pos:Pos}
theorem bI:PA X [] dP:=λ_ _ _ _ H Q I h=>Calls.spliced_nil ⟨[],H,I,.nil,h⟩
theorem aO(d:PE X e te)(hr:PA X es t)(f:autoParam (starEach (e::es) X.env=(false,eval e X.env)::starEach es X.env) z3):PA X (e::es) (bR te t):=by
 intro pos av s Z H Q I h
 rw[f]
 refine Calls.spliced_cons (cz (d av s Z H _ I h) λu s1 a=>?_)
 obtain⟨x,H1,g,r1,c⟩:=a
 exact cz (hr pos av s1 Z H1 _ g c) λus i xs=>by obtain⟨xs,H2,b⟩:=xs;exact⟨x::xs,H2,b.1,.cons r1 b.2.1,b.2.2⟩
def JS(t:TA):TE:=λZ H Q=>t Z H λxs H1=>xs.length<=sizeLine/\∀ p,H1 p=none->Q (.ref p) (upd H1 p (.tup xs))
def Ec(t:TA):TE:=λZ H Q=>t Z H λxs H1=>xs.length<=sizeLine/\∀ p,H1 p=none->Q (.ref p) (upd H1 p (.lst xs))
theorem LG{x1}(h:PA X es t):PE X (.Tuple es x1 pos) (JS t):=by
 intro av s Z H Q I c
 refine wpAny_Tuple_spliced (cz (h pos av s Z H _ I c) λus s1 ⟨xs,H1,a,r,z,q⟩=>⟨by rw[<-r.length];ext,?_⟩)
 refine⟨.ref s1.heap.objs.size,upd H1 s1.heap.objs.size _,a.laid (λb u e=>AB _ e) (AG _) ?_,rfl,q _ (a.cj.fresh (AG _))⟩
 exact⟨z,us,r,⟨_,AN _ rfl,⟨rfl,rfl⟩,_,rfl⟩⟩
theorem xZ(h:PA X es t):PE X (.List es pos) (Ec t):=by
 intro av s Z H Q I c
 refine wpAny_List_spliced (cz (h pos av s Z H _ I c) λus s1 ⟨xs,H1,a,r,z,q⟩=>⟨by rw[<-r.length];ext,?_⟩)
 refine⟨.ref s1.heap.objs.size,upd H1 s1.heap.objs.size _,a.laid (λb u e=>AB _ e) (AG _) ?_,rfl,q _ (a.cj.fresh (AG _))⟩
 exact⟨z,us,0,r,AN _ rfl⟩
end
abbrev Sp:=L9 V->Hp->VK->XK->Prop
abbrev nr:=L9 Env->Hp->S9->XK->V9->S9->Prop
structure kr(P:Program)(w:World)(K:Frag)(mg:Str->Option V9)(base:Heap)(A:Around)(outer:List Env)(s:S9)(H:Hp):Prop where
 frames:A.frames=some outer
 mod:Mod K mg base
 bs:∀ b o,base.get? b=some o->s.heap.get? b=some o/\H b=none
 qh:base.objs.size<=s.heap.objs.size
 g_:s.heap.FunFrames base outer
 ro:∀ b∈ph outer,H b=none
 cj:eh P w H s.heap
 bare:AllBare s.gens
def CE(outer:L9 Env)(P:P9)(w:W9)(H:Hp)(s:S9)(Q:VK)(u:V9)(s':S9):Prop:=
 ∃ v H',s'.os=s.os/\AllBare s'.gens/\Un (ph outer) [] H H' s.heap s'.heap/\eh P w H' s'.heap/\aR v u/\Q v H'
def CR(CX:nr)(outer:L9 Env)(P:P9)(w:W9)(H:Hp)(s:S9)(Q:VK)(E:XK)(r:Result)(s':S9):Prop:=
 match r with
 | .ok (.ret u)=>CE outer P w H s Q u s'
 | .ok _=>False
 | .error e=>CX outer H s E e s'
structure c5(P:Program)(w:World)(K:Frag)(mg:Str->Option V9)(base:Heap)(CX:nr)(k:Nat)(f:Az)(fd:FuncData)(ps:List Str)(sp:Sp):Prop where
 len:∀ vs H Q E,sp vs H Q E->vs.length=ps.length
 run:∀ (A:Around) (outer:List Env) (s:S9) (H:Hp) (args:Args) (us:List V9) (vs:List V) (Q:VK) (E:XK),cw k A->kr P w K mg base A outer s H->BindsTo s fd args (ps.zip us)->aX vs us->sp vs H Q E->
  codeAny (model P w) A (.call (.ref f) args) (CR CX outer P w H s Q E) s
theorem c5.imp{w:W9}{fd:FuncData}{sp a:Sp}(F:c5 P w K mg base CX k f fd ps sp)
  (h:∀ vs H Q E,a vs H Q E->sp vs H Q E):c5 P w K mg base CX k f fd ps a:=
 ⟨λvs H Q E q=>F.len vs H Q E (h _ _ _ _ q),λA outer s H args us vs Q E hr c b d e=>F.run A outer s H args us vs Q E hr c b d (h _ _ _ _ e)⟩
theorem kr.make{w:W9}{A:U9}(e:kr P w K mg base A outer s H)(C:Az)(us:L9 V9)(a:L9 (Str×V9)) :
 kr P w K mg base (A.under (.builtin "type.__call__" ⟨.ref C::us,a⟩)) outer s H:=⟨by first|exact e.frames|rfl,e.mod,e.bs,e.qh,e.g_,e.ro,e.cj,e.bare⟩
section
variable{X:Cx}{av:L9 (Az×Obj)}{Z:St}{H:Hp}{s s':S9}
theorem Inv.ue(I:Inv X av Z H s):kr X.prog X.w X.K X.mg X.base X.A X.stack s H:=
 ⟨I.ok.frames,I.ok.mod,I.bs,A6 I.ok.qh I.sz,I.stack,I.ly,I.cj,I.bare⟩
theorem Inv.after{Q:VK}(I:Inv X av Z H s)(h:CE X.stack X.prog X.w H s Q u s'):EP X av Z Q u s':=by
 obtain⟨v,H',os⟩:=h
 obtain⟨a,g⟩:=s'
 obtain rfl:=os.1
 exact⟨v,H',I.call os.2.2.1 os.2.2.2.1 os.2.1 (λb z=>absurd z (by simp)),os.2.2.2.2.1,os.2.2.2.2.2⟩
end
def uI(sp:Sp)(iw:L9 V)(E:XK)(t:TA):TE:=λZ H Q=>t Z H λvs H1=>sp (vs++iw) H1 Q E
def Kr(C:Az)(sp:Sp)(iw:L9 V)(E:XK)(t:TA):TE:=λZ H Q=>t Z H λvs H1=>∀ x dx,H1 x=none->H1 dx=none->dx≠x->
 sp (.ref x::(vs++iw)) (upd (upd H1 dx (.own x)) x (.ins C dx [])) (λv H2=>v=.fg/\Q (.ref x) H2) E
def cG(K:Frag)(fd:FuncData)(ps:L9 Str)(ds:L9 V9):Prop:=
 ∀ (s:S9) (us:L9 V9),K.In s.heap->(us++ds).length=ps.length->BindsTo s fd ⟨us,[]⟩ (ps.zip (us++ds))
theorem cG.all{fd:FuncData}(h:∀ us:L9 V9,us.length=ps.length->bindArgs fd ⟨us,[]⟩=pure (ps.zip us)):cG K fd ps []:=λs us _ a=>by
 rw[CO]at a ⊢
 exact .of_eq (h us a)
def fR(CX:nr)(X:Cx)(E:XK):Prop:=∀ (av:L9 (Az×Obj)) (Z:St) (H:Hp) (s:S9) (e:V9) (s':S9),Inv X av Z H s->CX X.stack H s E e s'->X.xe e s'
section
variable{X:Cx}{CX:nr}{k:Nat}{f C:Az}{fd:FuncData}{ps:L9 Str}{sp:Sp}{iw:L9 V}{ds:L9 V9}{E:XK}{x m:Str}{p pos apos:Pos}{e o:Ez}{es:L9 Ez}{ta:TE}{t:TA}
theorem sC{Q:VK}{vs:L9 V}(F:c5 X.prog X.w X.K X.mg X.base CX k f fd ps sp)(hr:cw k X.A)(hb:cG X.K fd ps ds)(a:aX iw ds)(hx:fR CX X E)
  (I:Inv X av Z H s) (r:aX vs us) (h:sp (vs++iw) H Q E):wpAny (model X.prog X.w) X.A (call (.ref f) us) (EP X av Z Q) X.xe s:=by
 refine DO (DF (F.run X.A X.stack s H _ _ _ Q E hr I.ue (hb s us I.ee (by rw[<-(r.append a).length];exact F.len _ _ _ _ h)) (r.append a) h) λr s' b=>?_)
 cases r with
 | error e=>exact hx av Z H s e s' I b
 | ok fl=>
  cases fl with
  | ret u=>exact I.after b
  | next=>assumption
  | brk=>assumption
  | cont=>assumption
theorem Ve(F:c5 X.prog X.w X.K X.mg X.base CX k f fd ps sp)(hr:cw k X.A)(j:Gl X x)(d:X.mg x=some (.ref f))(g:keepIn X.K (.ref f)=true)(hb:cG X.K fd ps ds)(i:aX iw ds)(hx:fR CX X E)
  (c:PA X (e::es) t) (a:autoParam ((x == ("__debug__":Str))=false) z5) (he:autoParam (starEach (e::es) X.env=(false,eval e X.env)::starEach es X.env) z3) (gk:autoParam ((backTo pos (starEach es X.env)).any (·.1)=false) z3) :
  PE X (.Call (.Name x p) (e::es) [] pos) (uI sp iw E t):=by
 intro av s Z H Q I h
 refine B2 (iC I j d ?_ a)
 refine B3 I.ok.mod.jy g (cz (c pos av s Z H _ I h) λus s1 ⟨vs,H1,b,r,q⟩=>⟨b.ee,?_⟩) he gk
 exact sC F hr hb i hx b r q
structure Mk(K:Frag)(C f:Az):Prop where
 makes:makesIn K C=true
 init:findIn K (.ref C) "__init__"=some (some (.ref f))
 fn:isFn K (.ref f)=true
 kp:keepIn K (.ref C)=true
theorem Wi{Q:VK}{vs:L9 V}(M:Mk X.K C f)(F:c5 X.prog X.w X.K X.mg X.base CX k f fd ps sp)(hr:cw (k+1) X.A)(hb:cG X.K fd ps ds)(m:aX iw ds)
  (hx:fR CX X E) (I:Inv X av Z H s) (r:aX vs us)
  (h:∀ x dx,H x=none->H dx=none->dx≠x->sp (.ref x::(vs++iw)) (upd (upd H dx (.own x)) x (.ins C dx [])) (λv H2=>v=.fg/\Q (.ref x) H2) E) :
  wpAny (model X.prog X.w) X.A (call (.ref C) us) (EP X av Z Q) X.xe s:=by
 have c:=h _ s.heap.objs.size (I.cj.fresh (DP _)) (I.cj.fresh (AG _)) (A0 (DT _))
 have b:=Inv.made (C:=C) I
 have r2:aX (V.ref _::(vs++iw)) (Value.ref (s.heap.objs.size+1)::(us++ds)):=.cons rfl (r.append m)
 have l:=by
  have e:=r2.length
  rw[F.len _ _ _ _ c]at e
  exact e.symm
 refine DO (Wj I.ee M.makes M.init (beq_iff_eq.mp M.fn) (DF (F.run _ X.stack _ _ _ _ _ _ E (hr.make C us [])
  (b.ue.make C us []) (hb _ _ b.ee l) r2 c) λr s' a=>?_))
 cases r with
 | error e=>exact hx av Z _ _ e s' b a
 | ok fl=>
  cases fl with
  | ret u=>
   obtain⟨v,H',d,g,j,i⟩:=b.after a
   subst j
   exact⟨g,⟨V.ref _,H',d,rfl,i⟩⟩
  | next=>assumption
  | brk=>assumption
  | cont=>assumption
theorem Vd(M:Mk X.K C f)(F:c5 X.prog X.w X.K X.mg X.base CX k f fd ps sp)(hr:cw (k+1) X.A)(i:Gl X x)(d:X.mg x=some (.ref C))(hb:cG X.K fd ps ds)(g:aX iw ds)(hx:fR CX X E)
  (c:PA X (e::es) t) (a:autoParam ((x == ("__debug__":Str))=false) z5) (he:autoParam (starEach (e::es) X.env=(false,eval e X.env)::starEach es X.env) z3) (gk:autoParam ((backTo pos (starEach es X.env)).any (·.1)=false) z3) :
  PE X (.Call (.Name x p) (e::es) [] pos) (Kr C sp iw E t):=by
 intro av s Z H Q I h
 refine B2 (iC I i d ?_ a)
 refine B3 I.ok.mod.jy M.kp (cz (c pos av s Z H _ I h) λus s1 ⟨vs,H1,b,r,q⟩=>⟨b.ee,?_⟩) he gk
 exact Wi M F hr hb g hx b r q
end
structure cb(N P:List Str)(sc:Scope):Prop where
 kind:sc.kind=.function
 co:sc.isCoroutine=false
 gen:sc.isGenerator=false
 nd:N.Nodup
 pre:N.take P.length=P
 par:∀ x∈P,sc.names.lookup x=some .local\/sc.names.lookup x=some .cell
 xg:∀ y∈sc.names,y.2≠.free
theorem Ol{a:Str->O9 NameKind}:∀ {binds:L9 (Str×V9)} {m:Str->O9 V9},(∀ v,(x,v)∉binds)->bindL a binds m x=m x
 | [],_,_=>rfl
 | (n,v)::r,m,h=>by
  unfold bindL
  rw[Ol λw hw=>h w (AU _ hw)]
  split
  .have:x≠n:=by rintro rfl;exact h v A5
   simp[this]
  rfl
theorem Oj:∀ {binds:L9 (Str×V9)} {m:Str->O9 V9},(∀ v,(x,v)∉binds)->bindC kindOf binds m x=m x
 | [],_,_=>rfl
 | (n,v)::r,m,h=>by
  unfold bindC
  rw[Oj λw a=>h w (AU _ a)]
  split
  · rfl
  ext
theorem sD:∀ {P:L9 Str} {vs:L9 V9} {i:Nat} {m:Str->O9 V9},P.Nodup->P[i]? = some x->vs[i]? = some v->kindOf x=some .local->
  bindL kindOf (P.zip vs) m x=some v
 | [],_,_,_,_,h,_,_=>by simp_all
 | _::_,[],_,_,_,_,h,_=>by simp_all
 | p::P,w::vs,0,m,nd,h1,h2,hk=>by
  simp at h1 h2;subst h1;subst h2
  show bindL kindOf ((p,w)::P.zip vs) m p=_
  unfold bindL
  rw[Ol λv a=>(BY.mp nd).1 (EI a).1,AI hk]
  simp
 | p::P,w::vs,i+1,m,nd,h1,h2,hk=>by
  unfold bindL
  exact sD (BY.mp nd).2 (by assumption) (by assumption) hk
theorem sE:∀ {P:L9 Str} {vs:L9 V9} {i:Nat} {m:Str->O9 V9},P.Nodup->P[i]? = some x->vs[i]? = some v->kindOf x≠some .local->
  bindC kindOf (P.zip vs) m x=some v
 | [],_,_,_,_,h,_,_=>by simp_all
 | _::_,[],_,_,_,_,h,_=>by simp_all
 | p::P,w::vs,0,m,nd,h1,h2,hk=>by
  simp at h1 h2;subst h1;subst h2
  show bindC kindOf ((p,w)::P.zip vs) m p=_
  unfold bindC
  rw[Oj λv a=>(BY.mp nd).1 (EI a).1,AM hk]
  simp
 | p::P,w::vs,i+1,m,nd,h1,h2,hk=>by
  unfold bindC
  exact sE (BY.mp nd).2 (by assumption) (by assumption) hk
noncomputable def start(N:L9 Str)(vs:L9 V):St:=vs.map some++replicate (N.length - vs.length) none
noncomputable def cR(CX:nr)(P:P9)(w:W9)(K:Frag)(mg:Str->O9 V9)(base:Hz)(N:L9 Str)(qual:Str)(scope:Scope)(f:Az)(cd:V9)(A:U9)(outer:L9 Env)(s:S9)(H:Hp)(E:XK):Cx where
 prog:=P
 w:=w
 K:=K
 mg:=mg
 base:=base
 A:=A.deeper (envOfC qual scope s.heap.objs.size f cd)
 N:=N
 s₀:=s
 H₀:=H
 env:=envOfC qual scope s.heap.objs.size f cd
 outer:=outer
 stack:=envOfC qual scope s.heap.objs.size f cd::outer
 ex:=[]
 calm:=true
 fn:=λ_=>true
 pn:=[]
 xe:=λe s'=>wpAny (model P w) (A.deeper (envOfC qual scope s.heap.objs.size f cd)) (leaving (envOfC qual scope s.heap.objs.size f cd) e) (λ_ rj=>CX outer H s E e rj) (λe' rj=>CX outer H s E e' rj) s'
theorem m8{a:Scope}{n:Nat}(h:a.names.lookup x=some .cell):∃ c,(cellsFrom n a.names []).lookup x=some c:=by
 exact FX.mp (ER a.names n [] (.inl h))
theorem Oi{w:W9}{A:U9}{s1:S9}{E:XK}{vs:L9 V}
  (S:cb N ps scope) (t:A.handled=none) (e0:kr P w K mg base A outer s H) (C:vs.length=ps.length) (r:aX vs us)
  (x:InCallC s s.heap.objs.size (bindL (envOfC qual scope s.heap.objs.size f cd).kindOf (ps.zip us) λ_=>none) (cellsFrom (s.heap.objs.size+1) scope.names []) (bindC (envOfC qual scope s.heap.objs.size f cd).kindOf (ps.zip us) λ_=>none) s1) :
  Inv (cR CX P w K mg base N qual scope f cd A outer s H E) [] (start N vs) H s1:=by
 have n:ps.length<=N.length:=by have:=ES length S.pre;ext
 obtain⟨h1,B,rfl,m⟩:=x.done
 have a:∀ b:Az,b∉(cR CX P w K mg base N qual scope f cd A outer s H E).ex:=λb z=>absurd (show b∈([])from z) (by simp)
 refine⟨⟨e0.mod,S.kind,rfl,rfl,AG _,λy z c h1 h2=>?_,λy d=>?_,λy c _ h=>?_,λ_=>t,Around.frames_deeper e0.frames,.inr ⟨rfl,rfl⟩,λb z=>absurd z (a b),e0.bs,e0.qh,λb _ _=>a b,λb z=>absurd z (a b),e0.g_,e0.ro⟩,
  rfl,e0.bare,Un.kept m,⟨_,x.toInCall.ns,λi y v h1 h2 D=>?_⟩,λy c h=>⟨_,x.cell y c h⟩,e0.cj.fresh (AG _),λy c h=>?_,λp g=>absurd (show p∈([])from g) (by simp),e0.cj.kept m,?_⟩
 .exact name_of_addr x.apart (BE h1) (BE h2)
 .rcases d with d|d
  .exact m8 d
  .exact absurd rfl (S.xg _ (BE d))
 .exact B6 (x.above y c (BE h))
 .have hi:i < vs.length:=by
   unfold start at h2
   by_cases hi:i < vs.length
   .omega
   .rw[CL (by simp_all)]at h2
    rw[DY]at h2
    simp_all
  have o:vs[i]? = some v:=by
   unfold start at h2
   rw[A8 (by simp_all)]at h2
   simp_all
  obtain⟨u,l⟩:=r.get o
  have g:ps[i]? = some y:=by
   rw[<-S.pre,FY (by ext)];exact h1
  have j:ps.Nodup:=by rw[<-S.pre];exact S.nd.sublist (List.take_sublist _ _)
  refine⟨u,l.2,?_⟩
  rcases S.par y (AD g)with k|k
  .exact .inl ⟨k,sD j g l.1 k⟩
  .obtain ⟨c,e⟩:=m8 k
   refine .inr ⟨.inl k,c,e,?_⟩
   have q:=x.cell y c e
   rw[sE j g l.1 (by show scope.names.lookup y≠_;simp_all)]at q
   ext
 .exact e0.cj.fresh (B6 (x.above y c (BE h)))
 .unfold start
  show _=N.length
  ext
theorem Fc{w:W9}{name:Str}{params:Arguments}{B kV a G:V9}{z:O9 Az}
  {l:Array (O9 V9)}  {sp:Sp} (L:K.lookup f=some ⟨G,od,.func (fnOf name qual params body scope B kV doc pm z a ct),l⟩) (m:codeIn K a qual=true) (S:cb N ps scope)
  (len:∀ vs H Q E,sp vs H Q E->vs.length=ps.length)
  (d:∀ (A:U9) (outer:L9 Env) (s:S9) (H:Hp) (vs:L9 V) (Q:VK) (E:XK),cw k (A.deeper (envOfC qual scope s.heap.objs.size f a))->sp vs H Q E->
   ∃ t,ix (cR CX P w K mg base N qual scope f a A outer s H E) body t/\t {nx:=λ_ H'=>Q .fg H',rt:=Q} (start N vs) H) :
  c5 P w K mg base CX (k+1) f (fnOf name qual params body scope B kV doc pm z a ct) ps sp:=by
 refine⟨len,λA outer s H args us vs Q E hr e0 I r h=>?_⟩
 have KX:=e0.mod.jy.keeps λb o e=>(e0.bs b o e).1
 have c:∀ y∈ps.zip us,scope.names.lookup y.1=some .local\/(scope.names.lookup y.1=some .cell/\((cellsFrom (s.heap.objs.size+1) scope.names []).lookup y.1).isSome=true):=λn D=>by
  rcases S.par n.1 (EI D).1 with q|q
  .exact .inl q
  .exact .inr ⟨q,ER _ _ _ (.inl q)⟩
 refine EW hr.depth (KX _ _ L) rfl S.co S.gen rfl (codeRec_of KX m) (I _ _ _ _ ?_)
 refine FG S.kind c λenv C s1 x=>?_
 subst C
 refine⟨(e0.mod.nolimit.keeps λb o e=>(e0.bs b o e).1).keeps x.toInCall.keep,codeAny_func ?_⟩
 obtain⟨t,p⟩:=d A outer s H vs Q E (hr.deeper _) h
 refine BI (p.1 [] s1 _ H _ (Oi S hr.hd e0 (len _ _ _ _ h) r x) p.2) (λF s' g=>?_) λe s' g=>g
 have i:∀ {j:St} {H':Hp} {v:V} {u:V9},Inv (cR CX P w K mg base N qual scope f a A outer s H E) [] j H' s'->aR v u->Q v H'->CE outer P w H s Q u s':=
  λ{j H' v u} J rv q=>⟨v,H',J.os,J.bare,J.base,J.cj,rv,q⟩
 cases F with
 | ret u=>
  obtain⟨v,j,H',J⟩:=g
  exact i J.1 J.2.1 J.2.2
 | next=>
  obtain⟨j,H',J⟩:=g
  exact i (v:=V.fg) J.1 rfl J.2
 | brk=>
  obtain⟨_,_,q⟩:=g
  simp_all
 | cont=>
  obtain⟨_,_,q⟩:=g
  simp_all
section
variable{X:Cx}{x:Str}{p pos:Pos}{e:Ez}{es:L9 Ez}{t:TA}{id T:String}{r:L9 V->Hp->VK->Prop}
def rg(r:L9 V->Hp->VK->Prop)(t:TA):TE:=λZ H Q=>t Z H λvs H1=>r vs H1 Q
theorem dG(i:gV X (.builtin id) r)(f:Gl X x)(c:X.mg x=none)(d:bootBuiltins x=some (.builtin id))(b:PA X (e::es) t)(g:autoParam (x≠"__name__") z5)(vr:autoParam ((x == ("__debug__":Str))=false) z5)
  (he:autoParam (starEach (e::es) X.env=(false,eval e X.env)::starEach es X.env) z3) (gk:autoParam ((backTo pos (starEach es X.env)).any (·.1)=false) z3):PE X (.Call (.Name x p) (e::es) [] pos) (rg r t):=by
 intro av s Z H Q I h
 refine B2 (m7 I f c d ?_ g vr)
 exact PyProof.Rows.callWith_builtin1 (cz (b pos av s Z H _ I h) λus s1 vs=>by obtain⟨vs,H1,a⟩:=vs;exact i av s1 Z H1 vs us Q a.1 a.2.1 a.2.2) he gk
theorem kD(f:gV X (.type T) r)(j:Gl X x)(a:X.mg x=none)(i:bootBuiltins x=some (.type T))(g:PA X (e::es) t)(c:autoParam (x≠"__name__") z5)(vr:autoParam ((x == ("__debug__":Str))=false) z5)
  (he:autoParam (starEach (e::es) X.env=(false,eval e X.env)::starEach es X.env) z3) (gk:autoParam ((backTo pos (starEach es X.env)).any (·.1)=false) z3):PE X (.Call (.Name x p) (e::es) [] pos) (rg r t):=by
 intro av s Z H Q I h
 refine B2 (m7 I j a i ?_ c vr)
 exact CW (cz (g pos av s Z H _ I h) λus s1 ⟨vs,H1,b,r1,d⟩=>f av s1 Z H1 vs us Q b r1 d) he gk
end
end _a
open _a
variable{g:Str}{m:Nat}{items:Array V9}{e:V9}
namespace _b
variable{lo hi:O9 Int}
section
open PySem.SeqAt
open PySem.AutoSeq1 (wpAny_loadPart')
open PySem.MeetsSeq PySem.MeetsSeq2 PySem.MeetsSeq3
end
section
variable{prog:P9}{w:W9}{A:U9}{E:V9->S9->Prop}{s:S9}
theorem Vc{t:Az}{vs ws:L9 V9}(m:IsTup s.heap t vs.toArray)(hb:IsTup s.heap b ws.toArray)(q:vs≠[])
  (h1:ws=[]->Q (.ref t) s) (h2:ws≠[]->Q (.ref s.heap.objs.size) {s with heap:=s.heap.push {cls:=.type "tuple",data:=.seq (vs++ws).toArray}})
  (hsz:vs.length+ws.length<=sizeLine):wpAny (model prog w) A (binaryOp .Add (.ref t) (.ref b)) Q E s:=by
 obtain⟨⟨cls,dd,data,sl⟩,f,o,n,p⟩:=id m
 obtain⟨⟨k,d,j,c⟩,a,h,l,i⟩:=id hb
 subst o p h i
 have e:vs.toArray++ws.toArray=(vs++ws).toArray:=by simp
 by_cases g:ws=[]
 .exact concat_meets ⟨_,f,rfl⟩ ⟨_,a,rfl⟩ noFill_tuple_add seq_tuple_add GR GG (FZ _ _)
   (tuple_addW1 t b vs.toArray ws.toArray n l dd d sl c (by simp_all) (by simp[g])) ⟨f,a,h1 g⟩
 .refine concat_meets ⟨_,f,rfl⟩ ⟨_,a,rfl⟩ noFill_tuple_add seq_tuple_add GR GG (FZ _ _)
   (tuple_addW2 t b vs.toArray ws.toArray n l dd d sl c (by simp_all) (by simp_all) (by ext)) ⟨f,a,?_⟩
  rw[e]
  exact h2 g
noncomputable def fo(n d:Nat):O9 Int->Nat
 | none=>d
 | some v=>if v < 0 then(v+(n:Int)).toNat else min v.toNat n
theorem wL(n d:Nat):fo n d none=d:=rfl
theorem zM(n d k:Nat):fo n d (some (k:Int))=min k n:=by
 rfl
theorem ML(v:Int)(n d:Nat):(if v < 0 then max (v+(n:Int)) 0 else min v (n:Int))=((fo n d (some v):Nat):Int):=by
 show(if v < 0 then max _ 0 else min v n)=(((if v < 0 then(v+n).toNat else min v.toNat n)))
 ext
theorem X2(lo hi:O9 Int)(n:Nat):Builtin.Slice.sliceAdjust lo hi 1 (n:Int)=(((fo n 0 lo:Nat):Int),((fo n n hi:Nat):Int)):=by
 refine Prod.ext ?_ ?_
 .cases lo with
  | none=>rfl
  | some v=>exact ML v n 0
 .cases hi with
  | none=>rfl
  | some v=>exact ML v n n
theorem X1(i j:Nat):Builtin.Slice.slicePlaces (i:Int) (j:Int) 1=j - i:=by
 unfold Builtin.Slice.slicePlaces
 ext
theorem x6{o:O9 Int}{Q:O9 Int->S9->Prop}(p:IsPart v o)(h:Q o s):wpAny (model prog w) A (Builtin.Slice.slicePartIndex v) Q E s:=by
 cases p with
 | none=>exact slicePart_none h
 | int i t=>exact slicePart_int h
theorem wM{sl:Az}{c b:V9}{Q:Int×Int×Nat->S9->Prop}(d:s.heap.IsSliceOf sl c b .none)(pl:IsPart c lo)(e:IsPart b hi)
  (h:Q (((fo n 0 lo:Nat):Int),1,fo n n hi - fo n 0 lo) s):wpAny (model prog w) A (Builtin.Slice.sliceApplied (.ref sl) (pure (n:Int))) Q E s:=by
 obtain⟨os,a⟩:=id d
 refine AA (AA (B0 a.1 a.2.2 (x:=c) rfl (AA (B0 a.1 a.2.2 (x:=b) rfl (AA (B0 a.1 a.2.2 rfl (AC ?_)))))))
 refine AA (slicePart_none ?_)
 refine AA (x6 pl (AA (x6 e (AA (AC ?_)))))
 show wpAny _ _ (match Builtin.Slice.sliceAdjust lo hi 1 n with|(lo,hi)=>pure (lo,(1:Int),Builtin.Slice.slicePlaces lo hi 1)) _ _ s
 rw[X2 lo hi n]
 show wpAny _ _ (pure _) _ _ s
 rw[X1]
 exact AC h
theorem Wh(xs:Array V9)(i k:Nat):((range k).filterMap λ(m:Nat)=>xs[((i:Int)+(m:Int) * 1).toNat]?).toArray=((xs.toList.drop i).take k).toArray:=by
 have e:(λ(m:Nat)=>xs[(i+(m:Int) * 1).toNat]?)=λm=>xs[i+m]?:=by
  ext
 rw[e]
 have:=pick_run xs i k
 have e2:((λx=>xs[x]?)∘λx=>i+x)=λm=>xs[i+m]?:=rfl
 simp_all
theorem vN{t sl:Az}{g:V9}(c:IsTup s.heap t items)(f:s.heap.IsSliceOf sl g e .none)(pl:IsPart g lo)(i:IsPart e hi)
  (hw:¬ (fo items.size 0 lo=0/\fo items.size items.size hi=items.size))
  (h:Q (.ref s.heap.objs.size) {s with heap:=s.heap.push {cls:=.type "tuple",data:=.seq ((items.toList.drop (fo items.size 0 lo)).take (fo items.size items.size hi - fo items.size 0 lo)).toArray}})
  (hsz:items.size<=sizeLine):wpAny (model prog w) A (getItem (.ref t) (.ref sl)) Q E s:=by
 have a:sizeOk (.seq ((items.toList.drop (fo items.size 0 lo)).take (fo items.size items.size hi - fo items.size 0 lo)).toArray):=by
  show((items.toList.drop _).take _).toArray.size<=sizeLine
  rw[CH,BQ,CF,EG]
  ext
 obtain⟨os,b⟩:=id f
 unfold getItem
 try with_reducible refine CA ?_
 refine AA (wpAny_sequenceKey c.typeIs (by rfl) ?_)
 refine AA (CI c.typeIs DX
  (C3 DX c.typeIs entry_tuple_getitem ?_ (args_tuple_getitem _ _)))
 show wpAny _ _ (Builtin.Tuple.tupleItemsOf _ >>= _) _ _ s
 refine AA (tupleItemsOf_ c ?_)
 refine AA (wpAny_typeOf (⟨os,b.1,b.2.1⟩) ?_)
 refine AA (wM f pl i ?_)
 have d:¬ ((((fo items.size 0 lo):Int) == 0 && (1:Int) == 1 && (fo items.size items.size hi - fo items.size 0 lo) == items.size)=true):=by
  simp_all
 show wpAny _ _ (if (((fo items.size 0 lo):Int) == 0 && 1 == 1 && (fo items.size items.size hi - fo items.size 0 lo) == items.size)=true then _ else _) _ _ s
 rw[AM d,Wh]
 first
  | rfl
  | exact AA (DN (AA (AC (AC ⟨_,rfl,AC h⟩))) a)
  | rfl
  | rfl
end
end _b
variable{p:Az}
namespace _a
abbrev TO:=St->Hp->(O9 Int->Hp->Prop)->Prop
def PO(X:Cx)(e:O9 Ez)(t:TO):Prop:=
 ∀ (av:L9 (Az×Obj)) (s:S9) (Z:St) (H:Hp) (Q:O9 Int->Hp->Prop),Inv X av Z H s->t Z H Q->
  wpAny (model X.prog X.w) X.A (evalPart e X.env) (λu s'=>∃ o H',Inv X av Z H' s'/\IsPart u o/\Q o H') X.xe s
def Vb:TO:=λ_ H Q=>Q none H
def P4(t:TE):TO:=λZ H Q=>t Z H λx H1=>∃ i,x=.int i/\Q (some i) H1
section
variable{X:Cx}{e:Ez}{te:TE}{lo hi:O9 Ez}{tl th:TO}{pos p2:Pos}
theorem Va:PO X none Vb:=by
 intro av s Z H Q I h
 exact AC ⟨none,H,I,.none,h⟩
theorem U_(h:PE X e te):PO X (some e) (P4 te):=by
 intro av s Z H Q I b
 refine cz (h av s Z H _ I b) λu s1 a=>?_
 obtain⟨x,H1,d,r1,c⟩:=a
 obtain⟨i,rfl,q⟩:=c
 obtain⟨t,rfl⟩:=r1
 exact⟨some i,H1,d,.int i t,q⟩
def Bl(X:Cx)(r:V->O9 Int->O9 Int->Hp->VK->Prop):Prop:=
 ∀ (av:L9 (Az×Obj)) (s:S9) (Z:St) (H:Hp) (x:V) (v vl vu:V9) (lo hi:O9 Int) (sl:Az) (Q:VK),Inv X av Z H s->aR x v->s.heap.IsSliceOf sl vl vu .none->IsPart vl lo->IsPart vu hi->r x lo hi H Q->
  ∃ T id,typeLookup (.type T) "__getitem__"=pure (some (.builtin id))/\s.TypeIs v T/\wpAny (model X.prog X.w) X.A (getItem v (.ref sl)) (EP X av Z Q) X.xe s
def Ji(r:V->O9 Int->O9 Int->Hp->VK->Prop)(te:TE)(tl th:TO):TE:=λZ H Q=>te Z H λx H1=>tl Z H1 λl H2=>th Z H2 λu H3=>r x l u H3 Q
theorem Wg{r:V->O9 Int->O9 Int->Hp->VK->Prop}(hr:Bl X r)(n:PE X e te)(p:PO X lo tl)(o:PO X hi th):PE X (.Subscript e (.Slice lo hi none p2) pos) (Ji r te tl th):=by
 intro av s Z H Q I h
 refine Subscript_ (cz (n av s Z H _ I h) λv s1 a=>?_)
 obtain⟨x,H1,t,r1,j⟩:=a
 refine wpAny_Slice (cz (p av s1 Z H1 _ t j) λg A ⟨l,H2,z,m,w⟩=>cz (o av A Z H2 _ z w) λf d a=>?_)
 obtain⟨u,H3,y,i,k⟩:=a
 refine AC ?_
 obtain⟨T,id,c⟩:=hr av {d with heap:=d.heap.push {cls:=.type "slice",data:=.fields #[g,f,.none]}} Z H3 x v g f l u d.heap.objs.size Q (y.kept λb B q=>AB _ q) r1 (Heap.IsSliceOf.new ..) m i k
 exact tail_any c.2.1 c.1 c.2.2 (by rfl)
noncomputable def zN(xs:L9 V)(lo hi:O9 Int):L9 V:=(xs.drop (_b.fo xs.length 0 lo)).take (_b.fo xs.length xs.length hi - _b.fo xs.length 0 lo)
theorem wC(xs:L9 V)(lo hi:O9 Int):(zN xs lo hi).length<=xs.length:=by
 unfold zN
 rw[BQ,CF]
 ext
def YT(K:Frag):V->O9 Int->O9 Int->Hp->VK->Prop:=λx lo hi H Q=>∃ a xs,x=.ref a/\fq K H a xs /\
 ¬ (_b.fo xs.length 0 lo=0/\_b.fo xs.length xs.length hi=xs.length)/\∀ p,H p=none->Q (.ref p) (upd H p (.tup (zN xs lo hi)))
theorem RV:Bl X (YT X.K):=by
 intro av s Z H x v p o lo hi sl Q I l k g f h
 obtain⟨a,xs,rfl,j,m,q⟩:=h
 cases l
 obtain⟨d,r,e,i⟩:=I.tuple j
 have c:d.toArray.size=xs.length:=r.length.symm
 refine⟨"tuple",_,DX.lookup,e.typeIs,?_⟩
 refine _b.vN e k g f (by rw[c];ext) ?_ (by rw[c];ext)
 rw[c]
 refine⟨.ref s.heap.objs.size,_,I.laid (λb n q=>AB _ q) (AG _) ?_,rfl,q _ (I.cj.fresh (AG _))⟩
 exact⟨A6 (wC xs lo hi) i,_,(r.drop _).take _,lU.new _ _⟩
def PZ(K:Frag):R2:=λx y H Q=>∃ a b xs ys,x=.ref a/\y=.ref b/\fq K H a xs/\fq K H b ys/\xs≠[]/\xs.length+ys.length<=sizeLine /\
 (ys=[]->Q (.ref a) H)/\(ys≠[]->∀ p,H p=none->Q (.ref p) (upd H p (.tup (xs++ys))))
theorem aX.n_{xs:L9 V}(r:aX xs us):us=[]↔xs=[]:=by
 cases r with
 | nil=>simp
 | cons _ _=>simp
theorem U8:e_ X (binaryOp .Add) (PZ X.K):=by
 intro av s Z H x y v u Q I i j h
 obtain⟨a,b,xs,ys,rfl,rfl,e,k,f,l,c⟩:=h
 cases i
 cases j
 obtain⟨g,r1⟩:=I.tuple e
 obtain⟨d,r2⟩:=I.tuple k
 refine _b.Vc r1.2.1 r2.2.1 (λz=>f (r1.1.n_.mp z)) (λz=>⟨.ref a,H,I,rfl,c.1 (r2.1.n_.mp z)⟩) (λz=>?_) (by rw[<-r1.1.length,<-r2.1.length];ext)
 refine⟨.ref s.heap.objs.size,_,I.laid (λb m q=>AB _ q) (AG _) ?_,rfl,c.2 (λw=>z (r2.1.n_.mpr w)) _ (I.cj.fresh (AG _))⟩
 exact⟨by simp_all,_,r1.1.append r2.1,lU.new _ _⟩
end
noncomputable def ni(n:Nat)(i:Int):O9 Nat:=if 0<=i then(if i < n then some i.toNat else none)else if -(n:Int)<=i then some (i+n).toNat else none
noncomputable def j1(xs:L9 α)(i:Int):O9 α:=(ni xs.length i).bind λj=>xs[j]?
theorem zO{i:Int}(h:ni n i=some j):seqIndex? i n=some j/\j < n /\ -(n:Int)<=i/\i < n:=by
 unfold ni at h
 by_cases a:0<=i
 .rw[AI a]at h
  by_cases h1:i < n
  .rw[AI h1]at h
   have e:=CB h
   exact⟨by rw[seqIndex_of a h1,e],by ext,by ext,h1⟩
  simp_all
 .rw[AM a]at h
  by_cases h1 : -n<=i
  .rw[AI h1]at h
   have e:=CB h
   exact⟨by rw[seqIndex_neg (by ext) h1,e],by ext,h1,by ext⟩
  simp_all
theorem zP{xs:L9 α}{i:Int}{v:α}(h:j1 xs i=some v):∃ j,seqIndex? i xs.length=some j/\xs[j]? = some v/\j < xs.length /\ -(xs.length:Int)<=i/\i < xs.length:=by
 unfold j1 at h
 cases e:ni xs.length i with
 | none=>simp_all
 | some j=>
  rw[e]at h
  have h1:=zO e
  exact⟨j,h1.1,h,h1.2.1,h1.2.2.1,h1.2.2.2⟩
theorem cM{xs:L9 α}{j:Nat}{v:α}(h:xs[j]? = some v):j1 xs (j:Int)=some v:=by
 have a:=(AH.mp h).1
 have e:ni xs.length j=some j:=by
  unfold ni
  simp_all
 unfold j1;rw[e];exact h
theorem Wf(xs:L9 α)(v:α):j1 (xs++[v]) (-1)=some v:=by
 have a:(xs++[v]).length=xs.length+1:=by simp
 have e:ni (xs++[v]).length (-1)=some xs.length:=by
  unfold ni
  ext
 unfold j1
 simp_all
def MK(b:Ez):Prop:=∀ o i,subscripted b false o i=operate [o,i] (getItem o i)
def uv(X:Cx)(r:R2):Prop:=
 ∀ (value slice:Ez) (av:L9 (Az×Obj)) (s:S9) (Z:St) (H:Hp) (x y:V) (v u:V9) (Q:VK),Inv X av Z H s->aR x v->aR y u->r x y H Q->
  subscripted slice false v u=operate [v,u] (getItem v u)->wpAny (model X.prog X.w) X.A (subscriptTail value slice v u) (EP X av Z Q) X.xe s
def Fj(X:Cx)(id:String)(r:V->L9 V->Hp->VK->Prop):Prop:=
 ∀ (av:L9 (Az×Obj)) (s:S9) (Z:St) (H:Hp) (x:V) (xs:L9 V) (v:V9) (us:L9 V9) (Q:VK),Inv X av Z H s->aR x v->aX xs us->r x xs H Q->
  wpAny (model X.prog X.w) X.A (call (.builtin id) (v::us)) (EP X av Z Q) X.xe s
section
variable{X:Cx}{a b:Ez}{ta tb:TE}{pos:Pos}
theorem uv.or{r e:R2}(h:uv X r)(h':uv X e):uv X (λx y H Q=>r x y H Q\/e x y H Q):=by
 intro value a av s Z H x y v u Q I b c q d
 rcases q with q|q
 · exact h value a av s Z H x y v u Q I b c q d
 · exact h' value a av s Z H x y v u Q I b c q d
theorem Kq{r:R2}(hr:uv X r)(e:PE X a ta)(hb:PE X b tb)(g:MK b):PE X (.Subscript a b pos) (vk r ta tb):=by
 intro av s Z H Q I h
 exact Subscript_ (Hn e hb I h λv u i x y H2 f c d q=>hr a b av i Z H2 x y v u Q f c d q (g _ _))
def JR(K:Frag):R2:=λx y H Q=>∃ p xs i v,x=.ref p/\y=.int i/\d_ K H p xs/\j1 xs i=some v/\Q v H
def JQ(K:Frag):R2:=λx y H Q=>∃ p xs i v,x=.ref p/\y=.int i/\fq K H p xs/\j1 xs i=some v/\Q v H
def JP:R2:=λx y H Q=>∃ z i c,x=.str z/\y=.int i/\z.length<=sizeLine/\j1 z.cps.toList i=some c/\Q (.str ⟨#[c]⟩) H
theorem MJ:uv X (JR X.K):=by
 intro value e av s Z H x y v u Q I m q h g
 obtain⟨p,xs,i,z,rfl,rfl,b⟩:=h
 cases m
 obtain⟨t,rfl⟩:=q
 obtain⟨d,r,c,A⟩:=I.list b.1
 obtain⟨j,h1,h2,C,o,n⟩:=zP b.2.1
 obtain⟨w,a⟩:=r.get h2
 have l:=r.length
 have B:=xY
 by_cases k:0<=i
 .have f:=by
   rw[seqIndex_of k n]at h1
   exact CB h1
  exact item_listR c.isList k (by ext) (by rw[f];simpa using a.1) (⟨z,H,I,a.2,b.2.2⟩) g
 .have f:(i+d.toArray.size).toNat=j:=by
   rw[seqIndex_neg (by ext) o]at h1
   rw[CH,<-l]
   exact CB h1
  exact subscriptTail_builtinR c.isList.typeIs slot_list_getitem.lookup
   (wpAny_getItem_list_neg c.isList (by ext) (by simp_all) (by ext) (by rw[f];simpa using a.1) ⟨rfl,(⟨z,H,I,a.2,b.2.2⟩)⟩) g
theorem LF:uv X (JQ X.K):=by
 intro value b av s Z H x y v u Q I g k h e
 obtain⟨p,xs,i,z,rfl,rfl,a⟩:=h
 cases g
 obtain⟨t,rfl⟩:=k
 obtain⟨f,r,c,l⟩:=I.tuple a.1
 obtain⟨j,h1,h2,n⟩:=zP a.2.1
 obtain⟨w,d⟩:=r.get h2
 have m:=xY
 exact subscriptTail_builtinR c.typeIs slot_tuple_getitem.lookup
  (getItem_tuple c (by ext) (by ext) (by rw[CH,<-r.length];ext) (by simpa using d.1) ⟨rfl,(⟨z,H,I,d.2,a.2.2⟩)⟩) e
theorem LD:uv X JP:=by
 intro value a av s Z H x y v u Q I f l h d
 obtain⟨z,i,c,rfl,rfl,m,b⟩:=h
 obtain⟨t,rfl⟩:=f
 obtain⟨o,rfl⟩:=l
 obtain⟨j,h1,h2,p,k,g⟩:=zP b.1
 have e:z.cps.toList.length=z.length:=by rfl
 rw[e]at h1 k g
 have n:=xY
 exact tail_any (typeIs_str s z t) slot_str_getitem.lookup (getItem_str (by
  ext) (by rw[h1];simpa using h2) ⟨.str _,H,I.tok _,⟨_,rfl⟩,b.2⟩) d
def Jn(K:Frag):R2:=λx y H Q=>JR K x y H Q\/JQ K x y H Q\/JP x y H Q
theorem RU:uv X (Jn X.K):=MJ.or (LF.or LD)
theorem X0(a:L9 V9)(n j:Nat)(u:V9):Obj.mapSeq (·.setIfInBounds j u) {cls:=.type "list",data:=.seq a.toArray n}={cls:=.type "list",data:=.seq (a.set j u).toArray n}:=by
 simp[Obj.mapSeq]
theorem Inv.lst{av:L9 (Az×Obj)}{Z:St}{H:Hp}{s:S9}{p:Az}{xs:L9 V}(I:Inv X av Z H s)(h:H p=some (.lst xs)) :
  ∃ (d7:L9 V9) (n:Nat),aX xs d7/\s.heap.get? p=some {cls:=.type "list",data:=.seq d7.toArray n}/\xs.length<=sizeLine:=by
 obtain⟨z,d7,n,r⟩:=I.cj p _ h
 exact⟨d7,n,r.1,r.2,z⟩
theorem Inv.xh{Z:St}{H:Hp}{xs ys:L9 V}{c a:L9 V9}{d:Nat}{f:Obj->Obj}(I:Inv X av Z H s)(h:H p=some (.lst xs))
  (g:s.heap.get? p=some {cls:=.type "list",data:=.seq c.toArray n}) (hf:f {cls:=.type "list",data:=.seq c.toArray n}={cls:=.type "list",data:=.seq a.toArray d}) (r:aX ys a) (hz:ys.length<=sizeLine) (t:Nat) :
  Inv X av Z (upd H p (.lst ys)) {s with heap:=s.heap.update p f,toks:=t}:=by
 have e:(s.heap.update p f).get? p=some {cls:=.type "list",data:=.seq a.toArray d}:=by
  rw[BK f g (by rw[hf]<;>rfl),hf]
 refine I.write (by rw[h];trivial) (.inl rfl) (λb u i q=>(BM _ _ (BD i)).trans q) ⟨_,e⟩ ?_
 exact⟨hz,a,d,r,e⟩
def Kp:V->V->V->Hp->(Hp->Prop)->Prop:=λo i v H Q=>∃ p xs k j,o=.ref p/\i=.int k/\H p=some (.lst xs)/\ni xs.length k=some j/\Q (upd H p (.lst (xs.set j v)))
theorem We:Hs X Kp:=by
 intro av s Z H o i v z B u Q I w g q h
 obtain⟨p,xs,k,j,rfl,rfl,b⟩:=h
 cases w
 obtain⟨t,rfl⟩:=g
 obtain⟨a,n,r,d,y⟩:=I.lst b.1
 obtain⟨h1,h2,x,m⟩:=zO b.2.1
 have l:=r.length
 have A:=xY
 have e:=
  I.xh b.1 d (X0 a n j u) (r.set q j) (by rw[BJ];ext) s.toks
 by_cases f:0<=k
 .have c:=by
   rw[seqIndex_of f m]at h1
   exact CB h1
  exact PySem.W.ki_setAt d f (by ext) (by simp_all) (by rw[c];exact⟨_,e,b.2.2⟩)
 .have c:(k+a.toArray.size).toNat=j:=by
   rw[seqIndex_neg (by ext) x]at h1
   rw[CH,<-l]
   exact CB h1
  exact PySem.W.ki_setBack d (by ext) (by simp_all) (by ext) (by rw[c];exact⟨_,e,b.2.2⟩)
theorem Yt(lo hi:O9 Int)(n:Nat):(sliceBounds lo hi none n).1=((_b.fo n 0 lo:Nat):Int)/\(sliceBounds lo hi none n).2.1=((_b.fo n n hi:Nat):Int)/\(sliceBounds lo hi none n).2.2=1:=by
 refine⟨?_,?_,rfl⟩
 .cases lo with
  | none=>rfl
  | some i=>
   simp[sliceBounds,_b.fo]
   by_cases h:i < 0
   · simp only [h, CG] <;> ext
   · simp only [h, DU] <;> ext
 .cases hi with
  | none=>rfl
  | some i=>
   simp[sliceBounds,_b.fo]
   by_cases h:i < 0
   · simp only [h, CG] <;> ext
   · simp only [h, DU] <;> ext
theorem Yx(a:L9 V9)(lo hi:O9 Int):slicePick a.toArray lo hi none=((a.drop (_b.fo a.length 0 lo)).take (_b.fo a.length a.length hi - _b.fo a.length 0 lo)).toArray:=by
 have h1:=Yt lo hi a.toArray.size
 unfold slicePick
 rw[h1.1,h1.2.1,h1.2.2]
 simp only[sliceRange_one,pick_run]<;>rfl
def YS(K:Frag):V->O9 Int->O9 Int->Hp->VK->Prop:=λx lo hi H Q=>∃ a xs,x=.ref a/\d_ K H a xs/\∀ p,H p=none->Q (.ref p) (upd H p (.lst (zN xs lo hi)))
theorem U7:Bl X (YS X.K):=by
 intro av s Z H x v m k lo hi sl Q I d i f e h
 obtain⟨a,xs,rfl,g,q⟩:=h
 cases d
 obtain⟨j,r⟩:=I.list g
 have c:=r.1.length
 refine⟨"list",_,slot_list_getitem.lookup,r.2.1.isList.typeIs,?_⟩
 refine wpAny_getItem_list_slice r.2.1.isList i f e .none (by simp) ?_ (by simp_all)
 rw[Yx,<-c]
 refine⟨.ref s.heap.objs.size,_,I.laid (λb l q=>AB _ q) (AG _) ?_,rfl,q _ (I.cj.fresh (AG _))⟩
 exact⟨A6 (wC xs lo hi) r.2.2,_,0,(r.1.drop _).take _,AN _ rfl⟩
theorem hZ:gV X (.type "tuple") (λxs H Q=>∃ p ys,xs=[.ref p]/\((d_ X.K H p ys/\∀ l,H l=none->Q (.ref l) (upd H l (.tup ys)))\/(fq X.K H p ys/\Q (.ref p) H))):=by
 intro av s Z H xs us Q I r h
 obtain⟨p,ys,rfl,h⟩:=h
 obtain⟨u,rfl,j⟩:=n5 r
 cases j
 rcases h with ⟨d,q⟩|⟨d,q⟩
 .obtain ⟨c,a⟩:=I.list d
  have f:=a.1.length
  refine call_tuple_list a.2.1.isList (λh' i=>?_) (by simp_all)
  have g:=I.kept (t':=s.toks) i
  exact⟨.ref h'.objs.size,_,(g.laid (t':=s.toks) (λb o e=>AB _ e) (AG _) (show cI X.prog X.w _ _ _ (.tup ys)from⟨a.2.2,c,a.1,lU.new _ _⟩)),rfl,q _ (g.cj.fresh (AG _))⟩
 .obtain ⟨c,a⟩:=I.tuple d
  exact call_tuple_same a.2.1 ⟨.ref p,H,I,rfl,q⟩
def Jg(K:Frag)(T:String)(x:V)(H:Hp):Prop:=match x with
 | .str _=>T="str"
 | .int _=>T="int"
 | .ref p=>(T="list"/\∃ xs,d_ K H p xs)\/(T="tuple"/\∃ o,K.lookup p=some o/\o.cls=.type "tuple"/\o.dict=none) \/
  (T="dict"/\((∃ bd,H p=some (.dK bd))\/∃ bd,H p=some (.dT bd)))\/(T="set"/\∃ S n,H p=some (.set S n))
 | _=>False
theorem LC{Z:St}{H:Hp}{T:String}{x:V}(I:Inv X av Z H s)(r:aR x v)(ty:Jg X.K T x H) :
  s.TypeIs v T/\∀ a,v=.ref a->∃ ob,s.heap.get? a=some ob/\ob.dict=none:=by
 cases x with
 | str z=>
  obtain⟨t,rfl⟩:=r
  cases((ty))
  exact⟨typeIs_str s z t,λ_ e=>nomatch e⟩
 | int i=>
  obtain⟨t,rfl⟩:=r
  cases((ty))
  exact⟨typeIs_int s i t,λ_ e=>nomatch e⟩
 | ref p=>
  cases r
  rcases ty with ⟨rfl,xs,g⟩|⟨rfl,o,b,f,j⟩|⟨rfl,b⟩|⟨rfl,S,n,b⟩
  .obtain ⟨h,d⟩:=I.list g
   refine⟨d.2.1.isList.typeIs,λa e=>?_⟩
   cases e
   obtain⟨o,n,e⟩:=d.2.1
   exact⟨o,e.1,e.2.2.1⟩
  .refine ⟨⟨o,I.ee p o b,f⟩,λa e=>?_⟩
   cases e
   exact⟨o,I.ee _ o b,j⟩
  .have z:∃ o,s.heap.get? p=some o/\o.ExactDict:=by
    rcases b with ⟨c,b⟩|⟨c,b⟩
    .obtain ⟨_,_,_,_,o,_,_,e⟩:=I.cj p _ b
     exact⟨o,e.1,e.2.1⟩
    .obtain ⟨_,_,_,_,o,_,_,e⟩:=I.cj p _ b
     exact⟨o,e.1,e.2.1⟩
   obtain⟨o,e,ex⟩:=z
   refine⟨⟨o,e,ex.1⟩,λa e2=>?_⟩
   cases e2
   exact⟨o,e,ex.2.1⟩
  .obtain ⟨o,_,_,_,e⟩:=I.cj p _ b
   refine⟨⟨o,e.1,e.2.1.1⟩,λa e2=>?_⟩
   cases e2
   exact⟨o,e.1,e.2.1.2.1⟩
 | _=>exact False.elim ty
def x_(K:Frag)(T:String)(r:V->L9 V->Hp->VK->Prop)(to:TE)(t:TA):TE:=λZ H Q=>to Z H λx H1=>Jg K T x H1/\t Z H1 λxs H2=>r x xs H2 Q
variable{o e:Ez}{es:L9 Ez}{to:TE}{t:TA}{name:Str}{apos d9:Pos}{T id:String}{r:V->L9 V->Hp->VK->Prop}
theorem yA(p:PlainAttrs T)(slot:Slot T name id)(c:typeOf (.builtin id)=pure (.type "method_descriptor"))(j:Fj X id r)(l:PE X o to)(m:PA X (e::es) t)
  (a:autoParam (attributeBase o name X.env (eval o X.env)=eval o X.env) z3)
  (Gu:autoParam (((backTo d9 (starEach (e::es) X.env)).all (λx=>!x.1) && (backToKw d9 (keywordEach [] X.env)).all (λx=>x.1.isSome)
   && decide ((e::es).length+([]:L9 Keyword).length+(if ([]:L9 Keyword).isEmpty then 0 else 1) < 30))=true) z3)
  (zx:autoParam ((apos.endLine == d9.line)=true) z3) (hs:autoParam (starEach (e::es) X.env=(false,eval e X.env)::starEach es X.env) z3) (Gq:autoParam ((backTo d9 (starEach es X.env)).any (·.1)=false) z3) :
  PE X (.Call (.Attribute o name apos) (e::es) [] d9) (x_ X.K T r to t):=by
 intro av s Z H Q I h
 refine wpAny_Call_method_late a Gu zx rfl (cz (l av s Z H _ I h) λv s1 b=>?_)
 obtain⟨x,H1,f,r1,i,k⟩:=b
 refine⟨T,id,p,slot,c,(LC f r1 i).1,(LC f r1 i).2,?_⟩
 have g:=m d9 av s1 Z H1 _ f k
 rw[hs]at g ⊢
 refine Calls.callWith_builtin (by assumption) (Calls.evalArgs_plain ?_)
 exact cz g λus n vs=>by obtain⟨vs,H2,d⟩:=vs;exact j av n Z H2 x vs v us Q d.1 r1 d.2.1 d.2.2
end
def Y6(X:Cx)(id:String)(r:V->L9 V->Hp->VK->Prop):Prop:=
 ∀ (av:L9 (Az×Obj)) (s:S9) (Z:St) (H:Hp) (x:V) (xs:L9 V) (v:V9) (us:L9 V9) (Q:VK),Inv X av Z H s->aR x v->aX xs us->r x xs H Q->
  wpAny (model X.prog X.w) X.A (call (.builtin id) (v::us)) (EP X av Z Q) X.xe s
theorem aX.one:∀ {x:V} {us:L9 V9},aX [x] us->∃ u,us=[u]/\aR x u
 | _,_,.cons r .nil=>⟨_,rfl,r⟩
section
variable{X:Cx}{av:L9 (Az×Obj)}{Z:St}{H:Hp}{s:S9}{l b:Az}{xs ys zs:L9 V}
theorem Inv.Gg{b a:L9 V9}{f:Array V9->Array V9}(I:Inv X av Z H s)(d:H l=some (.lst xs))
  (e:s.heap.get? l=some {cls:=.type "list",data:=.seq b.toArray n}) (hf:f b.toArray=a.toArray) (hv:aX ys a) (hz:ys.length<=sizeLine) :
  Inv X av Z (upd H l (.lst ys)) {s with heap:=s.heap.update l (Obj.mapSeq f),toks:=t'}:=by
 have q:=PySem.IsL.update e f
 rw[hf]at q
 refine I.write (by rw[d];exact trivial) (.inl rfl) (λh u g c=>(BM s.heap _ (BD g)).trans c) ⟨_,q⟩ ?_
 exact⟨hz,a,_,hv,q⟩
theorem Inv.xj{a:L9 V9}(I:Inv X av Z H s)(b:aX ys a)(c:ys.length<=sizeLine) :
  Inv X av Z (upd H s.heap.objs.size (.lst ys)) {s with heap:=s.heap.push {cls:=.type "list",data:=.seq a.toArray},toks:=t'}:=
 I.laid (λ_ _ q=>AB _ q) (AG _) ⟨c,a,0,b,AN _ rfl⟩
theorem Inv.fresh(I:Inv X av Z H s):H s.heap.objs.size=none:=I.cj.fresh (AG _)
theorem Inv.xi(I:Inv X av Z H s)(a:H l=some (.lst xs)):xs.length<=sizeLine/\∃ (d7:L9 V9) (n:Nat),aX xs d7/\xs.length=d7.length/\s.heap.get? l=some {cls:=.type "list",data:=.seq d7.toArray n}:=by
 obtain⟨z,d7,n,r⟩:=I.cj l _ a
 exact⟨z,d7,n,r.1,r.1.length,r.2⟩
end
section
variable{X:Cx}
def zQ:V->L9 V->Hp->VK->Prop:=λx vs H Q=>∃ l xs y,x=.ref l/\vs=[y]/\H l=some (.lst xs)/\xs.length < sizeLine/\Q .fg (upd H l (.lst (xs++[y])))
theorem Oh:Y6 X "list.append" zQ:=by
 intro av s Z H x vs v us Q I c d h
 obtain⟨l,xs,y,rfl,rfl,b,f,q⟩:=h
 cases c
 obtain⟨u,rfl,e⟩:=d.one
 obtain⟨z,a,n,r⟩:=I.xi b
 refine FR F.slot_list_append ⟨_,r.2.2,rfl⟩ F.entry_list_append (F.args_list_append_2 _ _) (PySem.list_append l a.toArray n u (by simp_all)) ⟨r.2.2,?_⟩
 refine⟨.fg,_,I.Gg b r.2.2 (by simp) (r.1.append (.cons e .nil)) ?_,rfl,q⟩
 ext
def JO:R2:=λx y H Q=>∃ l b xs zs,x=.ref l/\y=.ref b/\H l=some (.lst xs)/\H b=some (.lst zs)/\xs.length+zs.length<=sizeLine/\∀ p,H p=none->Q (.ref p) (upd H p (.lst (xs++zs)))
theorem RT:e_ X (binaryOp .Add) JO:=by
 intro av s Z H x y v u Q I f i h
 obtain⟨l,b,xs,zs,rfl,rfl,k,j,m,q⟩:=h
 cases f
 cases i
 obtain⟨z,c,n,r,o,e⟩:=I.xi k
 obtain⟨t,a,p,r2,d,e2⟩:=I.xi j
 refine PySem.P.add_list e e2 ?_ (by ext)
 have g:c.toArray++a.toArray=(c++a).toArray:=by simp
 rw[g]
 exact⟨.ref _,_,I.xj (r.append r2) (by rw[AY];ext),rfl,q _ I.fresh⟩
theorem U6(xs:L9 α)(k:Nat):(replicate k xs).flatten.length=k * xs.length:=by
 simp
end
end _a
variable{q:P9}
namespace _c
open PySem.W PySem.Calls
theorem yB{P:Params}{h:Hz}:∀ (ns:L9 Int) (vs:L9 V9),WellAll P h vs (ns.map WData.int)->IntsAre vs ns:=by
 intro ns
 induction ns with
 | nil=>
  intro vs w
  cases w
  exact .nil
 | cons n ns ih=>
  intro vs w
  cases w with
  | cons a b=>
   cases a
   exact .cons _ _ (ih _ b)
theorem Xo{l:OpenLaw}(i:l.most=some n){P:Params}{h:Hz}{args:L9 WData}{c:L9 V9}
  (b:l.row.toRowW.claim.pre args=true) (g:WellAll P h c args) :
  ∃ a vs ns,c=[Value.ref a]/\args=[WData.list (ns.map WData.int)]/\h.get? a=some {cls:=.type "list",data:=.seq vs.toArray}/\IntsAre vs ns/\ns.length<=n:=by
 obtain⟨d,r,rfl,h1,h2⟩:=hasAllW_cons ((pre_splitW b).1)
 obtain rfl:=hasAllW_nil h2
 obtain⟨xs,rfl,j⟩:=hasW_list h1
 obtain⟨ns,rfl⟩:=items_int j
 have e:ns.length<=n:=by
  have f:=by
   have f:=(holds_andW ((pre_splitW b).2)).1
   rw[i]at f
   ext
  have k:=condW_of f (w_not (w_lt w_lit (w_len_list (w_arg rfl))))
  simp_all
 cases g with
 | cons w1 w2=>
  cases w2
  cases w1 with
  | list ho Gy=>exact⟨_,_,ns,rfl,rfl,ho,yB ns _ Gy,e⟩
theorem Xn(l:OpenLaw)(args:L9 WData):l.row.toRowW.claim.post args (.bool true) args=true:=
 postW_of
  (by rfl)
  ((w_eq_bool (w_res rfl) w_lit)) rfl
theorem pz{l:OpenLaw}{c:L9 Str}{k:(Str->O9 V9)->Hz->Prop}{t:W9->Hz->Prop}{d:DefRec}
  (B:l.most=some n) (j:d.params.defaults=[])
  (call:∀ (w:W9) (s₀ s₁:S9) (mg mb:Str->O9 V9) (fa:Az) (o:Obj) (pm cd doc:V9) (a:Az) (vs:L9 V9) (ns:L9 Int),
   Ground q c [] k w s₀ mg mb s₁.heap->t w s₁.heap->
   s₁.heap.get? fa=some o->o.data=.func (docDef d.name d.params d.body d.scope pm cd doc)->s₁.heap.CodeRec cd d.name->mg d.name=some (.ref fa)->
   s₁.heap.get? a=some {cls:=.type "list",data:=.seq vs.toArray}->IntsAre vs ns->ns.length<=n->s₁.gens = #[]->
   codeAny (model l.prog w) callerA (.call (.ref fa) ⟨[.ref a],[]⟩) (λr s'=>r=.ok (.ret (.bool true))/\OldK s₁.heap s'.heap/\s'.os=s₁.os/\AllBare s'.gens) s₁) :
  WalkO q c k t l.row.toRowW d [] (λf vs=>PySem.call f vs):=by
 intro w s₀ s₁ mg mb G Yq fa o pm cd doc E kV C v g s h z args p D e m y i x
 obtain rfl:=Dflts.none s j
 obtain rfl:=Dflts.noKw s
 obtain⟨a,vs,ns,rfl,rfl,b⟩:=Xo B e i
 refine enter_call (DF (call w s₀ s₁ mg mb fa o pm cd doc a vs ns G Yq C (fd_plain v) g h b.1 b.2.1 b.2.2 z) λr s' u=>?_)
 obtain⟨rfl,h2⟩:=u
 exact⟨.inl ⟨.bool true,.bool true,[],rfl,λ_=>rfl,.bool true,Xn l _,λ_=>⟨List.Pairwise.nil,λ_ A=>(nomatch A)⟩⟩,h2.1,h2.2.1,h2.2.2⟩
section
variable{prog:P9}{w:W9}{A:U9}{E:V9->S9->Prop}{s:S9}{K:Frag}
end
end _c
variable{st:Stmt}{outer:Str->O9 NameKind}{l:Az}{js:L9 (O9 Nat)}{cl:L9 (Str×Az)}
namespace _a
variable{H H1:Hp}{elt tg:Ez}{ifs:L9 Ez}
theorem sG:∀ {vs:L9 V9} {ns:L9 Int},IntsAre vs ns->aX (ns.map V.int) vs
 | _,_,.nil=>.nil
 | _,_,.cons n t h=>.cons ⟨t,rfl⟩ (sG h)
abbrev hI{h:Hz}(_:K.In h):Frag:=K
noncomputable def aS(s:Stmt)(j:Nat):Stmt:=match s with
 | .ClassDef _ _ _ body _ _ _ _ _ _ _=>body.getD j (.Pass ⟨0,0,0,0⟩)
 | _=>.Pass ⟨0,0,0,0⟩
noncomputable def bT(s:Stmt):Arguments:=match s with
 | .FunctionDef _ a _ _ _ _ _ _ _ _=>a
 | _=>{posonlyargs:=[],args:=[],vararg:=none,kwonlyargs:=[],kw_defaults:=[],kwarg:=none,defaults:=[]}
noncomputable def aT(s:Stmt):L9 Stmt:=match s with
 | .FunctionDef _ _ b _ _ _ _ _ _ _=>b
 | _=>[]
noncomputable def aD(s:Stmt):Scope:=match s with
 | .FunctionDef _ _ _ _ _ _ sc _ _ _=>sc
 | _=>{kind:=.function,names:=[],isGenerator:=false,isCoroutine:=false}
abbrev mw:nr:=λ_ _ _ _ _ _=>False
abbrev E0:XK:=λ_ _ _=>False
theorem Fb{X:Cx}:fR mw X E0:=λ_ _ _ _ _ _ _ h=>h.elim
structure jt(K:Frag)(x qual:Str)(st:Stmt)(f:Az)(fd:FuncData):Prop where
 ex:∃ (oc:V9) (od:Option Az) (kV doc pm:V9) (an:Option Az) (c_ ct:V9) (zk:Array (Option V9)),
  fd=fnOf x qual (bT st) (aT st) (aD st) .none kV doc pm an c_ ct/\K.lookup f=some ⟨oc,od,.func fd,zk⟩/\codeIn K c_ qual=true
 kp:keepIn K (.ref f)=true
section
variable{P:P9}{w:W9}{K:Frag}{mg:Str->O9 V9}{base:Hz}
theorem jt.ok{fd:FuncData}{sp:Sp}(F:jt K x qual st f fd)(S:cb N ps (aD st))(len:∀ vs H Q E,sp vs H Q E->vs.length=ps.length)
  (a:∀ (c_:V9) (A:U9) (outer:L9 Env) (s:S9) (H:Hp) (vs:L9 V) (Q:VK) (E:XK),cw k (A.deeper (envOfC qual (aD st) s.heap.objs.size f c_))->sp vs H Q E->
   ∃ t,ix (cR mw P w K mg base N qual (aD st) f c_ A outer s H E).oD (aT st) t/\t {nx:=λ_ H'=>Q .fg H',rt:=Q} (start N vs) H):c5 P w K mg base mw (k+1) f fd ps sp:=by
 obtain⟨e,od,kV,doc,pm,g,c_,ct,d,rfl,c⟩:=F.ex
 refine Fc c.1 c.2 S len λA outer s H vs Q E hr b=>?_
 obtain⟨t,h⟩:=a c_ A outer s H vs Q E hr b
 exact⟨t,h.1.oD,h.2⟩
theorem jt.binds{fd:FuncData}{ps:L9 Str}(F:jt K x qual st f fd)
  (h:∀ (kV doc pm:V9) (an:O9 Az) (c_ ct:V9) (us:L9 V9),us.length=ps.length->bindArgs (fnOf x qual (bT st) (aT st) (aD st) .none kV doc pm an c_ ct) ⟨us,[]⟩=pure (ps.zip us)):cG K fd ps []:=by
 obtain⟨c,od,kV,doc,pm,an,c_,ct,a,rfl,b⟩:=F.ex
 exact .all (h kV doc pm an c_ ct)
theorem jT{st:Stmt}{d:O9 Az}{b:Array (O9 V9)}{kV a:V9}(l:K.lookup f=some ⟨e,od,.func (fnOf x qual (bT st) (aT st) (aD st) .none kV doc pm d a ct),b⟩)
 (c:codeIn K a qual=true) (k:keepIn K (.ref f)=true):jt K x qual st f (fnOf x qual (bT st) (aT st) (aD st) .none kV doc pm d a ct):=⟨⟨e,od,kV,doc,pm,d,a,ct,b,rfl,l,c⟩,k⟩
end
section
variable{X:Cx}
theorem pv(i:Nat){pos:Pos}(a:autoParam (X.N[i]? = some x) z3)(hv:Ff X.env.scope x:=by first|exact Or.inl rfl|exact Or.inr (Or.inl rfl)|exact Or.inr (Or.inr rfl))(hd:autoParam ((x == ("__debug__":Str))=false) z5)
 (Gx:autoParam ((x == ("__classdict__":Str))=false) z5):PE X (.Name x pos) (bU i):=Sd a hv hd Gx
end
theorem Bd{A B:Prop}(h:B):if false=true then A else B:=by
 assumption
theorem Bc{A B:Prop}(h:A):if true=true then A else B:=by
 assumption
def aH(H H':Hp):Prop:=∀ b o,H b=some o->H' b=some o
theorem aH.trans{H2:Hp}(a:aH H H1)(b:aH H1 H2):aH H H2:=λc o h=>b c o (a c o h)
theorem aH.free{H':Hp}(e:aH H H')(h:H' l=Option.none):H l=Option.none:=by
 cases q:H l with
 | none=>rfl
 | some o=>
  rw[e l o q]at h
  ext
theorem aH.seq{H':Hp}{xs:L9 V}(e:aH H H')(h:d_ K H a xs):d_ K H' a xs:=by
 rcases h with (h|⟨o,h⟩)|h
 · exact .inl (.inl (e _ _ h))
 · exact .inl (.inr ⟨o, e _ _ h⟩)
 · exact .inr h
theorem Yd:∀ (names:L9 (Str×NameKind)) (b0:L9 (Str×Az)),(∀ x∈names,x.2=.free->∃ c,env.cells.lookup x.1=some c)->
  (∀ x c,b0.lookup x=some c->env.cells.lookup x=some c)->
  ∃ cl,(forIn names b0 λx r=>(if (x.2 == NameKind.free)=true then(do let a <-cellOf env x.1;pure (ForInStep.yield ((x.1,a)::r)))else pure (ForInStep.yield r)):Sem (L9 (Str×Az)))=pure cl /\
   (∀ x c,cl.lookup x=some c->env.cells.lookup x=some c)/\(∀ x∈names,x.2=.free->∃ c,cl.lookup x.1=some c)/\∀ x c,b0.lookup x=some c->∃ c',cl.lookup x=some c':=by
 intro names
 induction names with
 | nil=>intro b0 _ h;exact⟨b0,rfl,h,λx j=>absurd j (by simp),λx c e=>⟨c,e⟩⟩
 | cons x r ih=>
  intro b0 f h
  obtain⟨n,k⟩:=x
  by_cases g:k=.free
  .subst g
   obtain⟨c,i⟩:=f _ A5 rfl
   obtain⟨cl,e1,e2,o,m⟩:=ih _ (λy b=>f y (AU _ b)) (λy d e=>by
    rw[BR]at e
    cases q:y == n with
    | true=>rw[q]at e;cases e;have:=eq_of_beq q;subst this;ext
    | false=>rw[q]at e;exact h y d e)
   refine⟨cl,?_,e2,λy b l=>?_,λy d e=>?_⟩
   .rw[D4]
    simp only[DV,CG]
    unfold cellOf
    simp only[i,pure_bind]
    exact e1
   .rcases AQ.mp b with z|z
    · simp_all
    · ext
   .by_cases q:y=n
    · simp_all
    · exact m y d (by rw [BR, C7 q]; exact e)
  .simp_all
theorem yC(a:∀ x∈scope.names,x.2=.free->∃ c,env.cells.lookup x.1=some c) :
  ∃ cl,closureFor scope env=pure cl/\(∀ x c,cl.lookup x=some c->env.cells.lookup x=some c)/\∀ x∈scope.names,x.2=.free->∃ c,cl.lookup x.1=some c:=by
 obtain⟨cl,e1,e2⟩:=Yd scope.names [] a (λx c e=>by simp_all)
 refine⟨cl,?_,e2.1,e2.2.1⟩
 unfold closureFor
 ext
theorem gJ{env:Env}:∀ {names:L9 (Str×NameKind)} {x:Str} {k:NameKind},
  (names.map λ(n,k)=>if (k == NameKind.free && env.scope.kind == .function && env.kindOf n == some .cell)then(n,NameKind.cell)else(n,k)).lookup x=some k->
  k=.cell\/k=.free->(∀ y∈names,y.2≠.cell)->(x,NameKind.free)∈names
 | [],_,_,h,_,_=>by simp_all
 | (n,k0)::r,x,k,h,hk,hc=>by
  have ih:=@gJ env r x k
  ext
noncomputable def dB(X:Cx)(N:L9 Str)(scope:Scope)(cl:L9 (Str×Az))(C:Az)(s:S9)(H:Hp)(fp:L9 Az):Cx where
 prog:=X.prog
 w:=X.w
 K:=X.K
 mg:=X.mg
 base:=X.base
 A:=X.A
 N:=N
 s₀:=s
 H₀:=H
 env:=compEnvC scope cl C X.env
 outer:=X.stack
 stack:=X.stack
 ex:=fp
 calm:=X.calm
 fn:=λ_=>false
 pn:=[]
 xe:=λ_ _=>False
inductive jd(X:Cx)(scope:Scope):List Str->List (Option Nat)->Prop
 | nil:jd X scope [] []
 | own {x:Str} {N:List Str} {js:List (Option Nat)} (t:jd X scope N js):jd X scope (x::N) (none::js)
 | uj {x:Str} {j:Nat} {N:List Str} {js:List (Option Nat)} (h1:X.N[j]? = some x) (h2:X.env.kindOf x=some .cell\/X.env.kindOf x=some .free)
  (h3:(relabel scope X.env).names.lookup x=some .cell\/(relabel scope X.env).names.lookup x=some .free) (t:jd X scope N js):jd X scope (x::N) (some j::js)
theorem jd.len{X:Cx}(c:jd X scope N js):js.length=N.length:=by
 induction c with
 | nil=>rfl
 | own _ ih=>simp[ih]
 | uj _ _ _ _ ih=>simp[ih]
theorem jd.get{X:Cx}{scope:Scope}{N:L9 Str}{js:L9 (O9 Nat)}(c:jd X scope N js):∀ {i j:Nat} {x:Str},js[i]? = some (some j)->N[i]? = some x->
  X.N[j]? = some x/\(X.env.kindOf x=some .cell\/X.env.kindOf x=some .free)/\((relabel scope X.env).names.lookup x=some .cell\/(relabel scope X.env).names.lookup x=some .free):=by
 induction c with
 | nil=>intro i j x h;simp_all
 | own _ ih=>
  intro i j x h1 h2
  cases i with
  | zero=>simp_all
  | succ i=>exact ih (by assumption) (by assumption)
 | uj a b d _ ih=>
  intro i j x h1 h2
  cases i with
  | zero=>
   simp at h1 h2
   subst h1 h2
   exact⟨a,b,d⟩
  | succ i=>exact ih (by assumption) (by assumption)
noncomputable def k9(js:L9 (O9 Nat))(Z:St):St:=js.map λo=>o.bind λj=>(Z[j]?).join
def dZ(Z Z':St):Prop:=Z'.length=Z.length/\∀ (i:Nat) v,Z[i]? = some (some v)->Z'[i]? = some (some v)
theorem dZ.refl(Z:St):dZ Z Z:=⟨rfl,λ_ _ h=>h⟩
theorem dZ.trans{a b c:St}(h:dZ a b)(k:dZ b c):dZ a c:=⟨k.1.trans h.1,λi v e=>k.2 i v (h.2 i v e)⟩
section
variable{X:Cx}
def r0(X:Cx)(ifs:L9 Ez)(t:TT):Prop:=
 ∀ (av:L9 (Az×Obj)) (s:S9) (Z:St) (H:Hp) (Q:Bool->Hp->Prop),Inv X av Z H s->t Z H Q->
  wpAny (model X.prog X.w) X.A (forIn ifs true λc r=>if r=true then do let ok <-isTrue c X.env (eval c X.env);pure (ForInStep.yield ok)else pure (ForInStep.yield r)) (TP X av Z Q) X.xe s
def Ef:TT:=λ_ H Q=>Q true H
theorem lA:r0 X [] Ef:=by
 intro av s Z H Q I h
 exact AC ⟨H,I,h⟩
end
def uJ(X:Cx)(N:L9 Str)(scope:Scope)(js:L9 (O9 Nat))(tg elt:Ez)(ifs:L9 Ez)(Z:St)(x:V)(H:Hp)(R:O9 V->Hp->Prop):Prop:=
 ∀ (cl:L9 (Str×Az)) (C:Az) (s:S9) (H0:Hp) (fp:L9 Az),∃ (g:TG) (tt:TT) (te:TE),PG (dB X N scope cl C s H0 fp) tg g/\r0 (dB X N scope cl C s H0 fp) ifs tt/\PE (dB X N scope cl C s H0 fp) elt te /\
  ∀ Z0,dZ (k9 js Z) Z0->g x Z0 H λZ2 H2=>dZ (k9 js Z) Z2/\tt Z2 H2 λb H3=>if b=true then te Z2 H3 λy H4=>R (some y) H4 else R none H3
def uh(X:Cx)(N:L9 Str)(scope:Scope)(js:L9 (O9 Nat))(tg elt:Ez)(ifs:L9 Ez)(Z:St)(Q:VK)(J:It)(H1:Hp):Prop:=∃ (n:Nat) (W:Nat->L9 V->Hp->Prop),n<=sizeLine/\W 0 [] H1 /\
 ∀ i ys H,W i ys H->ys.length<=i/\((J.stop i H/\∀ p,H p=none->Q (.ref p) (upd H p (.lst ys)))\/(J.go i H/\i < n/\∃ R:O9 V->Hp->Prop,(∀ y H2,R (some y) H2->W (i+1) (ys++[y]) H2)/\(∀ H2,R none H2->W (i+1) ys H2) /\
  ∀ x H',J.oz i H x H'->uJ X N scope js tg elt ifs Z x H' R))
def qG(X:Cx)(N:L9 Str)(scope:Scope)(js:L9 (O9 Nat))(tg elt:Ez)(ifs:L9 Ez)(wi:TI):TE:=λZ H Q=>wi Z H (uh X N scope js tg elt ifs Z Q)
section
variable{prog:P9}{w:W9}{A:U9}{R:Result->S9->Prop}{s:S9}
theorem Ys{a l:Ez}{pos:Pos}{it g:V9}(I:Nat->S9->Prop)
  (e:∀ n s,I n s->wpAny (model prog w) A (pyNext it) (λr s1=>match r with
   | none=>R (.ok .next) s1
   | some v=>wpAny (model prog w) A (letOwnedTupleGo a it v) (λ_ Jl=>wpAny (model prog w) A (assign a env v) (λ_ s2=>
    wpAny (model prog w) A (forIn ifs true λc r=>if r=true then do let ok <-isTrue c env (eval c env);pure (ForInStep.yield ok)else pure (ForInStep.yield r)) (λok s3=>
     if ok=true then wpAny (model prog w) A (eval elt env) (λx s4=>
      wpAny (model prog w) A (call (.builtin "list.append") [g,x]) (λ_ s5=>∃ m,m < n/\I m s5) (λ_ _=>False) s4) (λ_ _=>False) s3
     else ∃ m,m < n/\I m s3) (λ_ _=>False) s2) (λ_ _=>False) Jl) (λ_ _=>False) s1) (λ_ _=>False) s)
  (n:Nat) (h:I n s) :
  codeAny (model prog w) A (.compLoop (.ListComp elt [⟨a,l,ifs,0⟩] scope pos) 0 it g env) R s:=by
 refine codeAny_loop rfl I (λn s z=>?_) n h
 refine wpAny_noted ?_
 rw[compTurn_list]
 refine AA (CZ (AA (BI (e n s z) (λr u b=>?_) λ_ _ h'=>h'.elim)))
 cases r with
 | none=>exact AC b
 | some v=>
  refine AA (BI b (λ_ Jl o=>?_) λ_ _ f=>f.elim)
  refine AA (BI o (λ_ p i=>AA (BI i (λok y d=>?_) λ_ _ h'=>h'.elim)) λ_ _ h'=>h'.elim)
  cases ok with
  | false=>exact AC ⟨rfl,d⟩
  | true=>
   exact AA (AA (BI d (λx q k=>AA (BI k (λ_ t j=>AC (AC ⟨rfl,j⟩)) λ_ _ h'=>h'.elim)) λ_ _ h'=>h'.elim))
end
theorem eh.rf{w:W9}{h:Hz}{o:HO}(x:eh P w H h)(d:H a=none)(new:cI P w (upd H a o) h a o):eh P w (upd H a o) h:=λb u e=>by
 by_cases f:b=a
 .subst f;rw[aI]at e;ext
 .rw[aE f]at e
  exact(x b u e).d6 (λc v _ q=>q) (λc q=>by rw[aE (aW q d)];ext) (λc xs q=>by rw[aE (aW q d)];ext) λc xs q=>by rw[aE (aW q d)];ext
section
variable{X:Cx}{av:L9 (Az×Obj)}{Z:St}
structure CompEnd(X:Cx)(av:List (Az×Obj))(Z:St)(D C:Az)(ys:List V)(H':Hp)(s':S9):Prop where
 inv:Inv X av Z (upd H' D (.lst ys)) s'
 ns:∃ m,s'.heap.Ns C m
 fp:iW X av (upd H' D (.lst ys)) C
 nD:H' D=none
theorem CompEnd.gone{D:Az}{ys:L9 V}{H':Hp}{a:Hz}{d:St}(I:Inv X av d H s')(c:iW X av H C)(f:Heap.SameBut C s'.heap a):Inv X av d H {s' with heap:=a}:=
 I.turned (λb o g e=>(f.2 b g).trans e) c.1 c.2.1 c.2.2.2.1 c.2.2.2.2.1 c.2.2.2.2.2
theorem Yr{w:W9}{A:U9}{a:Nat}{x:V9}(e:s.heap.get? l=some {cls:=.type "list",dict:=none,data:=.seq items a})(hz:items.size<=sizeLine)
  (hQ:∀ OM h',h'.get? l=some {cls:=.type "list",dict:=none,data:=.seq (items.push x) OM}->Heap.SameBut l s.heap h'->Q .none {s with heap:=h'}) :
  wpAny (model prog w) A (call (.builtin "list.append") [.ref l,x]) Q E s:=by
 refine FR F.slot_list_append ⟨_,e,rfl⟩ F.entry_list_append (F.args_list_append_2 _ _) (PySem.list_append l items a x (by ext)) ⟨e,?_⟩
 exact hQ _ _ (BK _ e rfl) (CY ..)
theorem yD{ac:Ez}{pos:Pos}{B:L9 Az}{tn:Nat->Hz->Prop}{J:It}{H2:Hp}
  {RR:V9->Az->Result->S9->Prop} {Q:VK} (hc:X.calm=true) (aa:jd X scope N js) (M:scope.kind=.function) (h:∀ y∈scope.names,y.2≠.cell)
  (d:∀ x c,cl.lookup x=some c->X.env.cells.lookup x=some c) (ag:∀ x∈scope.names,x.2=.free->∃ c,cl.lookup x.1=some c)
  (I:Inv X av Z H2 s) (T:Turn X.prog X.w X.K tg J B it tn) (st2:tn 0 s.heap) (S:∀ b∈B,iW X av H2 b) (n:Nat) (W:Nat->L9 V->Hp->Prop) (hn:n<=sizeLine) (w0:W 0 [] H2)
  (O:∀ i ys H,W i ys H->ys.length<=i/\((J.stop i H/\∀ p,H p=none->Q (.ref p) (upd H p (.lst ys)))\/(J.go i H/\i < n/\∃ R:O9 V->Hp->Prop,(∀ y H2,R (some y) H2->W (i+1) (ys++[y]) H2)/\(∀ H2,R none H2->W (i+1) ys H2) /\
   ∀ x H',J.oz i H x H'->uJ X N scope js tg elt ifs Z x H' R)))
  (bj:∀ D C ys H' s',CompEnd X av Z D C ys H' s'->Q (.ref D) (upd H' D (.lst ys))->RR (.ref D) C (.ok .next) s') :
  wpAny (model X.prog X.w) X.A (newList []) (λb0 s3=>wpAny (model X.prog X.w) X.A (newFunctionEnv scope X.env.globals cl [] X.env.qual none .none (some X.env)) (λAi s4=>
   codeAny (model X.prog X.w) X.A (.compStart (.ListComp elt [⟨tg,ac,ifs,0⟩] scope pos) 0 (.ref it) b0 {Ai with scope:=relabel scope X.env}) (RR b0 Ai.locals) s4) E s3) E s:=by
 refine DN (wpAny_newFunctionEnv h (by simp) (λh₁ F l=>?_) M)
 generalize ak:s.heap.push {cls:=.type "list",dict:=none,data:=.seq _}=Hh at F l ⊢
 have hC:Hh.objs.size=s.heap.objs.size+1:=by rw[<-ak,BX]
 have Y:s.heap.objs.size≠Hh.objs.size:=by simp_all
 have G:s.heap.objs.size<=Hh.objs.size:=by simp_all
 have P:=λb o e=>l.extBut b o (by rw[hC];exact A0 (Nat.lt_succ_of_lt (AE e))) (AB _ (ak▸AB _ e))
 have al:=l.extBut _ _ Y (AB _ (ak▸AN _ rfl))
 have ax:=T.keep _ _ _ st2 λb a o e=>P b o e
 have af:∀ b∈B,b < s.heap.objs.size:=λb a=>by
  obtain⟨o,e⟩:=T.obj _ _ st2 b a
  exact AE e.1
 have am:∀ b∈ph X.stack,b < s.heap.objs.size:=λb a=>by
  rcases AQ.mp (I.l0 b a)with z|z
  .rw[z];exact I.lt
  .refine Nat.lt_of_not_le λbv=>I.zl bv z
 have au:∀ b∈B,b≠Hh.objs.size:=λb a z=>B4 _ (AX (af b a) (z▸G))
 generalize hD:s.heap.objs.size=D at *
 generalize bx:Hh.objs.size=C at *
 let X':=dB X N scope cl C s H2 B
 have bc:X'.Ok:=by
  refine⟨I.ok.mod,M,I.ok.glob,I.ok.blt,by show s.heap.objs.size<=C;rw[hD];exact G,λx y c e1 e2=>I.ok.inj x y c (d x c e1) (d y c e2),λx hx=>?_,λx c z=>absurd (show false=true from z) Bool.false_ne_true,I.ok.hd,I.ok.frames,.inl rfl,λb a=>?_,
   I.bs,A6 I.ok.qh I.sz,λb o e a=>?_,λb a z=>?_,I.stack,I.ly⟩
  .have hm:(x,NameKind.free)∈scope.names:=by
    rcases hx with z|z
    .exact gJ (env:=X.env) z (.inl rfl) h
    .exact gJ (env:=X.env) z (.inr rfl) h
   exact ag _ hm rfl
  .exact ⟨au b a,λx c e=>(S b a).2.2.2.2.1 x c (d x c e)⟩
  .rcases (S b a).2.2.2.1 with z|z
   .exact I.ok.n3 b o e z
   .exact absurd (AE (I.ok.bs b o e).1) (GX.mpr z)
  .rcases AQ.mp (I.l0 b z)with q|q
   .exact (S b a).2.1 q
   .exact (S b a).2.2.1 q
 have az:(k9 js Z).length=N.length:=by unfold k9;rw[AL,aa.len]
 have L:H2 D=none:=I.cj.fresh (by rw[hD];exact AG _)
 have q_:D∉B:=λz=>B4 _ (af D z)
 have I0:∀ tk,Inv X' [] (k9 js Z) H2 {s with heap:=h₁,toks:=tk}:=λtk=>by
  refine⟨bc,rfl,I.bare,Un.kept P,⟨_,F,λi x v e1 e2 e3=>?_⟩,λx c e=>?_,(I.cj.fresh (by rw[hD];exact G)),λx c e=>I.ek x c (d x c e),λp t=>absurd t (by show ¬ p∈([]++[]:L9 (Az×Obj));simp),I.cj.kept P,az⟩
  .unfold k9 at e2
   rw[AZ]at e2
   cases q:js[i]? with
   | none=>rw[q]at e2;cases e2
   | some o=>
    rw[q]at e2
    cases o with
    | none=>cases e2
    | some j=>
     have U:(Z[j]?).join=some v:=CB e2
     obtain⟨c1,c2⟩:=aa.get q e1
     have e4:Z[j]? = some (some v):=by
      cases z:Z[j]? with
      | none=>rw[z]at U;cases U
      | some u=>rw[z]at U;have:u=some v:=U;rw[this]
     obtain⟨m,hm⟩:=I.loc
     have bu:Ff X.env.scope x:=by
      rcases c2.1 with z|z
      · exact .inr (.inl z)
      · exact .inr (.inr z)
     obtain⟨u,r⟩:=hm.2 j x v c1 e4 bu
     refine⟨u,r.1,.inr ⟨c2.2,?_⟩⟩
     have lc:∃ c,X.env.cells.lookup x=some c/\s.heap.IsCell c (some u):=by
      rcases r.2 with ⟨k,_⟩|⟨_,z⟩
      · rcases c2.1 with z | z <;> (rw [k]at z; cases z)
      · exact z
     obtain⟨c,e5,o,ho⟩:=lc
     have br:(x,NameKind.free)∈scope.names:=by
      rcases c2.2 with z|z
      · exact gJ (env := X.env) z (.inl rfl) h
      · exact gJ (env := X.env) z (.inr rfl) h
     obtain⟨c',e6⟩:=ag _ br rfl
     have e7:=d _ _ e6
     rw[e5]at e7;cases e7
     exact⟨c,e6,o,P c o ho.1,ho.2⟩
  .obtain ⟨v,o,ho⟩:=I.cell x c (d x c e)
   exact⟨v,o,P c o ho.1,ho.2⟩
 have ad:∀ {H':Hp} {pl:L9 (Az×Obj)},(∀ b∈B,H' b=none)->(∀ b∈B,∀ p∈pl,p.1≠b)->∀ b∈B,iW X' pl H' b:=λ{H' pl} hn gk b a=>by
  refine⟨hn b a,au b a,bc.pj b a,.inl a,λx c e=>(S b a).2.2.2.2.1 x c (d x c e),λp t=>gk b a p ?_⟩
  have bw:p∈[]++pl:=t
  simpa using bw
 let LI:Nat->S9->Prop:=λk s'=>∃ i ys d7 nn Z' H',k=n+1 - i/\i<=n/\W i ys H'/\tn i s'.heap/\(∀ b∈B,H' b=none)/\aX ys d7/\dZ (k9 js Z) Z' /\
  Inv X' [(D,{cls:=.type "list",dict:=none,data:=.seq d7.toArray nn})] Z' H' s'
 have ae:∀ tk,codeAny (model X.prog X.w) X.A (.compLoop (.ListComp elt [⟨tg,ac,ifs,0⟩] scope pos) 0 (.ref it) (.ref D) (compEnvC scope cl C X.env)) (RR (.ref D) C) {s with heap:=h₁,toks:=tk}:=by
  intro tk
  refine Ys LI ?_ (n+1) ⟨0,[],[],0,k9 js Z,H2,rfl,CT _,w0,ax,λb a=>(S b a).1,.nil,dZ.refl _,?_⟩
  .rintro k s3 ⟨i,ys,d7,nn,Z3,H3,rfl,Jr,w3,ze,Dd,r3,ks,I3⟩
   have ay:=ad (pl:=[(D,{cls:=.type "list",dict:=none,data:=.seq d7.toArray nn})]) Dd (λb a p t z=>by
    rw[AS.mp t]at z
    exact q_ ((show D=b from z)▸a))
   rcases(O i ys H3 w3).2 with ⟨stop,q⟩|⟨go,ba,RW,bh,bg,step⟩
   .refine cz (T.done X' rfl rfl rfl hc i _ s3 Z3 H3 _ I3 ay ze stop) λr s4 f=>?_
    obtain⟨hr,I4⟩:=f
    subst hr
    show RR (.ref D) C (.ok .next) s4
    have pe:=I4.pin (D,{cls:=.type "list",dict:=none,data:=.seq d7.toArray nn}) (by show _∈[]++_;simp)
    refine bj D C ys H3 s4 ?_ (q D pe.2.1)
    have ah:∀ b u,H2 b=some u->b≠D:=λb u e z=>by rw[z,L]at e;cases e
    have bo:Un (ph X.stack) B H2 (upd H3 D (.lst ys)) s.heap s4.heap:=by
     have ub:=I4.base
     refine⟨ub.keep,ub.slot,λb o e aj hx=>?_,ub.there,λb xs e=>?_,λb o u e=>?_,λb ps e=>?_⟩
     .rw[aE (λz=>by have:=AE e;rw[hD,z]at this;exact B4 _ this)]
      exact ub.free b o e aj hx
     .rw[aE (ah b _ e)];exact ub.ib b xs e
     .rw[aE (ah b _ e)];exact ub.hB b o u e
     .rw[aE (ah b _ e)];exact ub.gx b ps e
    refine⟨I.uk I4.os bo (eh.rf I4.cj pe.2.1 ⟨A6 (O i ys H3 w3).1 (A6 Jr hn),d7,nn,r3,pe.1⟩) I4.bare λb a=>⟨(S b a).2.2.2.1,(S b a).2.1,(S b a).2.2.2.2.1,(S b a).2.2.2.2.2⟩,?_,?_,pe.2.1⟩
    .obtain ⟨m,hm⟩:=I4.loc
     exact⟨m,hm.1⟩
    .refine I.me (by rw[hD];exact G) ?_
     rw[aE (BD Y)]
     exact I4.free
   .refine cz (T.item X' rfl rfl rfl hc i _ s3 Z3 H3 _ I3 ay ze go) λr s4 f=>?_
    obtain⟨u,hr,h4⟩:=f
    subst hr
    show wpAny _ _ (letOwnedTupleGo tg (.ref it) u) _ _ s4
    refine cz h4 λ_ s5 f=>?_
    obtain⟨x,H5,I5,r5,y5,ai,bi⟩:=f
    obtain⟨g,tt,te,hg⟩:=step x H5 y5 cl C s H2 B
    have ao:=ad (pl:=[(D,{cls:=.type "list",dict:=none,data:=.seq d7.toArray nn})]) bi (λb a p t z=>by
     rw[AS.mp t]at z
     exact q_ ((show D=b from z)▸a))
    refine cz (hg.1 _ s5 Z3 H5 x u _ (I5.pinned ao (T.obj _ _ ai)) r5 (hg.2.2.2 Z3 ks)) λ_ s6 f=>?_
    obtain⟨Z6,H6,I6,be,q6⟩:=f
    refine cz (hg.2.1 _ s6 Z6 H6 _ I6 q6) λb s7 f=>?_
    obtain⟨H7,I7,q7⟩:=f
    have bf:∀ {s':S9} {H':Hp} {Z':St},Inv X' ([(D,{cls:=.type "list",dict:=none,data:=.seq d7.toArray nn})]++xX B s5.heap) Z' H' s'->tn (i+1) s'.heap/\(∀ b∈B,H' b=none):=λ{s' H' Z'} I'=>by
     refine⟨T.keep _ _ _ ai λb a o e=>(I'.pin (b,o) (BW _ (BW _ (mM a e)))).1,λb a=>?_⟩
     obtain⟨o,e⟩:=T.obj _ _ ai b a
     exact(I'.pin (b,o) (BW _ (BW _ (mM a e.1)))).2.1
    cases b with
    | false=>
     rw[AM Bool.false_ne_true]at q7 ⊢
     obtain⟨a1,a2⟩:=bf I7
     exact⟨n+1 - (i+1),by ext,i+1,ys,d7,nn,Z6,H7,rfl,ba,bg _ q7,a1,a2,r3,be,I7.hR⟩
    | true=>
     rw[AI rfl]at q7 ⊢
     refine cz (hg.2.2.1 _ s7 Z6 H7 _ I7 q7) λyv s8 f=>?_
     obtain⟨y,H8,I8,r8,q8⟩:=f
     obtain⟨a1,a2⟩:=bf I8
     have OA:=I8.hR
     obtain⟨pe,pn,p1,p2,p3⟩:=OA.pin (D,{cls:=.type "list",dict:=none,data:=.seq d7.toArray nn}) (by show _∈[]++_;simp)
     have bz:s8.heap.IsList D d7.toArray:=PySem.IsL.isList pe
     have bp:d7.length<=sizeLine:=by rw[<-r3.length];exact A6 (O i ys H3 w3).1 (A6 Jr hn)
     refine Yr pe (by simpa using bp) λaj h9 e9 aq=>?_
     have I9:Inv X' [] Z6 H8 {s8 with heap:=h9,toks:=s8.toks}:=by
      refine Inv.turned (av:=[]) (it:=D) (t':=s8.toks) (OA.ez (pins':=[]) λp t=>absurd t (by simp)) (λb o a e=>(aq.2 b a).trans e) pn Y (.inr (by show s.heap.objs.size<=D;rw[hD];exact AG _)) (λx c e z=>?_) λp t=>absurd t (by show ¬ p∈([]++[]:L9 (Az×Obj));simp)
      obtain⟨v,o,ho,hd⟩:=I.cell x c (d x c e)
      have:=AE ho
      rw[hD,z]at this
      exact B4 _ this
     refine⟨n+1 - (i+1),by ext,i+1,ys++[y],d7++[yv],aj,Z6,H8,rfl,ba,bh _ _ q8,?_,a2,aX.append r3 (.cons r8 .nil),be,?_⟩
     .exact T.keep _ _ _ a1 λb a o e=>(aq.2 b (λz=>q_ (z▸a))).trans e
     .refine I9.ez λp t=>?_
      obtain rfl:=AS.mp t
      exact⟨by simpa using e9,pn,p1,p2,by simp⟩
  .refine (I0 tk).ez λp t=>?_
   obtain rfl:=AS.mp t
   exact⟨al,L,Y,(λz=>B4 _ (am D z)),by simp⟩
 exact codeAny_compStart_list (ae _) (T.self X.A 0 _ _ _ ax (ae _))
noncomputable def dH(names:L9 (Str×NameKind))(outer:Str->O9 NameKind):Bool:=
 names.all (λy=>y.2 != .cell) && names.all (λy=>y.2 != .local || names.lookup y.1 == some .local) && names.all (λy=>y.2 != .free || outer y.1 == some .cell || outer y.1 == some .free)
theorem dH.cell{names:L9 (Str×NameKind)}(h:dH names outer=true):∀ y∈names,y.2≠.cell:=λy a=>by
 unfold dH at h
 ext
theorem dH.names{names:L9 (Str×NameKind)}(h:dH names outer=true):∀ y∈names,y.2=.local->names.lookup y.1=some .local:=λy a e=>by
 unfold dH at h
 ext
theorem dH.free{names:L9 (Str×NameKind)}(h:dH names outer=true):∀ y∈names,y.2=.free->outer y.1=some .cell\/outer y.1=some .free:=λy a e=>by
 unfold dH at h
 ext
theorem uK{N:L9 Str}{js:L9 (O9 Nat)}{b:Ez}{pos:Pos}{g:TI}(i:X.calm=true)(c:jd X scope N js)(cj:dH scope.names X.env.kindOf=true)
  (hi:PI X tg b g) (a:autoParam (scope.kind=.function) z3) (hs:∀ x,foldedSetIterable b X.env x=pure x:=by intro _;rfl) :
  PE X (.ListComp elt [⟨tg,b,ifs,0⟩] scope pos) (qG X N scope js tg elt ifs g):=by
 intro av s Z H Q I h
 obtain⟨cl,e1⟩:=yC λx k j=>I.ok.has _ (dH.free cj x k j)
 refine F7 rfl hs e1.1 a (dH.names cj) (cz (hi av s Z H _ I h) λv s1 h1=>cz h1 λl u h2=>?_)
 obtain⟨it,fp,t,J,H2,rfl,p,T,st2,r,n,W,f⟩:=h2
 refine yD i c a (dH.cell cj) e1.2.1 e1.2.2 p T st2 r n W f.1 f.2.1 f.2.2 ?_
 intro D C ys H' s' d q
 obtain⟨m,o⟩:=d.ns
 exact⟨m,o,λh' e=>⟨.ref D,_,CompEnd.gone (D:=D) (ys:=ys) (H':=H') d.inv d.fp e,rfl,q⟩⟩
theorem yE{i:Nat}{b:Ez}{pos d:Pos}{w:TI}(B:X.N.Nodup)(u:X.N[i]? = some x)(hx:Loc X.env.scope x)
  (l:swapsWith (.ListComp elt [⟨tg,b,ifs,0⟩] scope pos) (some (.Name x pos')) d.line X.env=pure true) (G:X.calm=true) (g:jd X scope N js) (cj:dH scope.names X.env.kindOf=true)
  (hi:PI X tg b w) (c:autoParam (scope.kind=.function) z3) (o:X.fn x=true\/X.env.scope.names.lookup x=some .local:=by exact .inl rfl) (hs:∀ x,foldedSetIterable b X.env x=pure x:=by intro _;rfl) :
  PS X (.Assign [.Name x pos'] (.ListComp elt [⟨tg,b,ifs,0⟩] scope pos) d) (jR (qG X N scope js tg elt ifs w) (fQ i)):=by
 intro av s Z H D I h
 obtain⟨cl,e1⟩:=yC λx hx o=>I.ok.has _ (dH.free cj x hx o)
 rw[exec_Assign_Name_used _ _ _ _ l]
 refine AA (CZ (AA ?_))
 refine AA (BI (F7 rfl hs e1.1 c (dH.names cj)
  (cz (hi av s Z H _ I h) λv s1 h1=>cz h1 λA R h2=>?_)) (λ_ s' y=>AC (AC y)) λ_ _ e=>e)
 obtain⟨it,fp,S,J,H2,rfl,F,T,st2,P,n,W,t⟩:=h2
 refine yD (Q:=λv H'=>D.nx (Z.set i (some v)) H') G g c (dH.cell cj) e1.2.1 e1.2.2 F T st2 P n W t.1 t.2.1 t.2.2 ?_
 intro L C ys H' s' j q
 refine wpAny_assign_Name (Ot (v:=.ref L) j.inv B u hx rfl (λM p O=>?_) o)
 obtain⟨a,f⟩:=O
 have k:C≠a:=by
  rcases f.2 with z|z
  · rw [z]; exact j.fp.2.1
  · exact λE => j.fp.2.2.2.2.1 x a z E.symm
 obtain⟨m,K⟩:=j.ns
 exact⟨m,K.sameBut f.1 k,λh' r=>⟨_,_,CompEnd.gone (D:=L) (ys:=ys) (H':=H') p j.fp r,q⟩⟩
end
noncomputable def HX(W:Nat->L9 V->Hp->Prop)(i:Nat)(ys:L9 V):O9 V->Hp->Prop
 | some y,H=>W (i+1) (ys++[y]) H
 | none,H=>W (i+1) ys H
theorem zR{X:Cx}{J:It}{Z:St}{Q:VK}(W:Nat->L9 V->Hp->Prop)(g:n<=sizeLine)(d:W 0 [] H1)
  (f:∀ i ys H,i<=n->W i ys H->ys.length<=i) (c:∀ i ys H,i < n->W i ys H->J.go i H) (b:∀ ys H,W n ys H->J.stop n H)
  (step:∀ i x ys H H',i < n->W i ys H->J.oz i H x H'->uJ X N scope js tg elt ifs Z x H' (HX W i ys))
  (done:∀ ys H,W n ys H->∀ p,H p=none->Q (.ref p) (upd H p (.lst ys))) :
  uh X N scope js tg elt ifs Z Q J H1:=by
 refine⟨n,λi ys H=>i<=n/\W i ys H,g,⟨CT _,d⟩,?_⟩
 rintro i ys H ⟨hi,w⟩
 refine⟨f i ys H hi w,?_⟩
 by_cases a:i < n
 .exact .inr ⟨c i ys H a w,a,HX W i ys,λy H2 q=>⟨a,q⟩,λH2 q=>⟨a,q⟩,λx H' y=>step i x ys H H' a w y⟩
 .have e:i=n:=by ext
  subst e
  exact .inl ⟨b ys H w,done ys H w⟩
theorem Xm{X:Cx}{Z:St}{Q:VK}{xs:L9 V}(W:Nat->L9 V->Hp->Prop)(d:xs.length<=sizeLine)(c:W 0 [] H1)
  (b:∀ i ys H,i<=xs.length->W i ys H->ys.length<=i/\d_ K H a xs)
  (step:∀ i x ys H,xs[i]? = some x->W i ys H->uJ X N scope js tg elt ifs Z x H (HX W i ys))
  (done:∀ ys H,W xs.length ys H->∀ p,H p=none->Q (.ref p) (upd H p (.lst ys))) :
  uh X N scope js tg elt ifs Z Q (Br K a) H1:=
 zR W d c (λi ys H h w=>(b i ys H h w).1) (λi ys H h w=>⟨xs,xs[i],(b i ys H (B6 h) w).2,by simp⟩) (λys H w=>⟨xs,(b _ ys H (AG _) w).2,AG _⟩)
  (λi x ys H H' h w y=>by
   obtain⟨e,y⟩:=y
   subst e
   exact step i x ys _ (y xs (b i ys _ (B6 h) w).2) w) done
mutual
inductive b5(K:Frag)(H:Hp):V->Dz->Prop
 | fg:b5 K H .fg .none
 | bl (b:Bool):b5 K H (.bl b) (.bool b)
 | int (i:Int):b5 K H (.int i) (.int i)
 | str (x:Str):b5 K H (.str x) (.str x)
 | lst {a:Az} {xs:List V} {ds:List Dz}:d_ K H a xs->a_ K H xs ds->b5 K H (.ref a) (.list ds)
 | tup {a:Az} {xs:List V} {ds:List Dz}:fq K H a xs->a_ K H xs ds->b5 K H (.ref a) (.tuple ds)
 | pl {a:Az} {ns:List Int}:H a=some (.lst (ns.map V.int))->b5 K H (.ref a) (.dict [(.list (ns.map .int),.none)])
inductive a_(K:Frag)(H:Hp):List V->List Dz->Prop
 | nil:a_ K H [] []
 | cons {x:V} {d:Dz} {xs:List V} {ds:List Dz}:b5 K H x d->a_ K H xs ds->a_ K H (x::xs) (d::ds)
end
section
variable{X:Cx}{av:L9 (Az×Obj)}{Z:St}{H:Hp}{s:S9}
mutual
theorem b5.reads(I:Inv X av Z H s):∀ {x:V} {d:Dz} {u:V9},b5 X.K H x d->d.canLay0=true->aR x u->∃ as,Reads s.heap u d as
 | _,_,_,.fg,_,r=>by cases r;exact⟨_,.none⟩
 | _,_,_,.bl b,_,r=>by cases r;exact⟨_,.bool b⟩
 | _,_,_,.int i,_,r=>by obtain⟨t,rfl⟩:=r;exact⟨_,.int i t⟩
 | _,_,_,.str x,_,r=>by obtain⟨t,rfl⟩:=r;exact⟨_,.str x t⟩
 | _,_,_,.pl _,y,_=>by cases y
 | _,_,_,.lst h ds,y,r=>by
  cases r
  obtain⟨a,f,⟨o,e,c,n,d⟩,g⟩:∃ a:L9 V9,aX _ a/\s.heap.IsList _ a.toArray/\_:=by
   obtain⟨a,f,p,g⟩:=I.list h
   exact⟨a,f,p.isList,g⟩
  obtain⟨as,q⟩:=a_.reads I ds y f
  exact⟨_,.list e c d (by simpa using q)⟩
 | _,_,_,.tup h ds,y,r=>by
  cases r
  obtain⟨a,f,p,g⟩:=I.tuple h
  obtain⟨o,e,c,n,d⟩:=p
  obtain⟨as,q⟩:=a_.reads I ds y f
  exact⟨_,.tuple e c d (by simpa using q)⟩
theorem a_.reads(I:Inv X av Z H s):∀ {xs:L9 V} {ds:L9 Dz} {us:L9 V9},a_ X.K H xs ds->PyData.canLayAll0 ds=true->aX xs us->∃ as,ReadsAll s.heap us ds as
 | _,_,_,.nil,_,r=>by cases r;exact⟨_,.nil⟩
 | _,_,_,.cons (d:=d0) (ds:=O0) h t,y,r=>by
  have a:(d0.canLay0 && PyData.canLayAll0 O0)=true:=y
  rw[BA]at a
  cases r with
  | cons r1 r2=>
   obtain⟨as,q⟩:=b5.reads I h a.1 r1
   obtain⟨bs,b⟩:=a_.reads I t a.2 r2
   exact⟨_,.cons q b⟩
end
theorem mT{d:Dz}(h:shaped d=true):d.canLay0=true:=by
 have h':(d.canLay0 && decide _)=true:=h
 ext
theorem RS(f:X.A.units+64 < cLine):e_ X (compareOp .Eq) (λx y H Q=>∃ d e,b5 X.K H x d/\b5 X.K H y e/\shaped d=true/\shaped e=true/\Q (.bl (PyData.eqv d e)) H):=by
 intro av s Z H x y u v Q I b c h
 obtain⟨d,e,a⟩:=h
 obtain⟨g,r1⟩:=a.1.reads I (mT a.2.2.1) b
 obtain⟨bs,r2⟩:=a.2.1.reads I (mT a.2.2.2.1) c
 exact eq_dataH r1 r2 a.2.2.1 a.2.2.2.1 f ⟨.bl _,H,I,rfl,a.2.2.2.2⟩
theorem RQ(f:X.A.units+64 < cLine):e_ X (compareOp .NotEq) (λx y H Q=>∃ d e,b5 X.K H x d/\b5 X.K H y e/\shaped d=true/\shaped e=true/\Q (.bl (!PyData.eqv d e)) H):=by
 intro av s Z H x y u v Q I b c h
 obtain⟨d,e,a⟩:=h
 obtain⟨g,r1⟩:=a.1.reads I (mT a.2.2.1) b
 obtain⟨bs,r2⟩:=a.2.1.reads I (mT a.2.2.2.1) c
 exact ne_dataH r1 r2 a.2.2.1 a.2.2.2.1 f ⟨.bl _,H,I,rfl,a.2.2.2.2⟩
end
theorem d_.same{K:Frag}{H H':Hp}{a:Az}{xs:L9 V}(e:aH H H')(h:d_ K H a xs):d_ K H' a xs:=aH.seq e h
theorem fq.same{K:Frag}{H H':Hp}{a:Az}{xs:L9 V}(e:aH H H')(h:fq K H a xs):fq K H' a xs:=by
 rcases h with (h|⟨o,h⟩)|h
 · exact .inl (.inl (e _ _ h))
 · exact .inl (.inr ⟨o, e _ _ h⟩)
 · exact .inr h
theorem b5.same{K:Frag}{H H':Hp}(e:aH H H'){x:V}{d:Dz}(h:b5 K H x d):b5 K H' x d:=
 b5.rec (motive_1:=λx d _=>b5 K H' x d) (motive_2:=λxs ds _=>a_ K H' xs ds) .fg .bl .int .str (λh _ q=>.lst (h.same e) q) (λh _ q=>.tup (h.same e) q) (λh=>.pl (e _ _ h)) .nil (λ_ _ p q=>.cons p q) h
theorem a_.same{K:Frag}{H H':Hp}(e:aH H H'){xs:L9 V}{ds:L9 Dz}(h:a_ K H xs ds):a_ K H' xs ds:=
 a_.rec (motive_1:=λx d _=>b5 K H' x d) (motive_2:=λxs ds _=>a_ K H' xs ds) .fg .bl .int .str (λh _ q=>.lst (h.same e) q) (λh _ q=>.tup (h.same e) q) (λh=>.pl (e _ _ h)) .nil (λ_ _ p q=>.cons p q) h
theorem aH.upd{H:Hp}{a:Az}{o:HO}(h:H a=none):aH H (upd H a o):=λb u e=>by rw[aE (aW e h)];ext
theorem a_.length{K:Frag}{H:Hp}:∀ {xs:L9 V} {ds:L9 Dz},a_ K H xs ds->xs.length=ds.length
 | _,_,.nil=>rfl
 | _,_,.cons _ t=>by simp[a_.length t]
theorem a_.append{K:Frag}{H:Hp}:∀ {xs ys:L9 V} {ds es:L9 Dz},a_ K H xs ds->a_ K H ys es->a_ K H (xs++ys) (ds++es)
 | _,_,_,_,.nil,h=>h
 | _,_,_,_,.cons a t,h=>.cons a (a_.append t h)
theorem a_.get{K:Frag}{H:Hp}:∀ {xs:L9 V} {ds:L9 Dz} {i:Nat} {x:V},a_ K H xs ds->xs[i]? = some x->∃ d,ds[i]? = some d/\b5 K H x d
 | _,_,_,_,.nil,e=>by simp_all
 | _,_,0,_,.cons a t,e=>by simp_all
 | _,_,i+1,x,.cons a t,e=>by
  have d:=a_.get t (by assumption)
  simp_all
theorem a_.get'{K:Frag}{H:Hp}:∀ {xs:L9 V} {ds:L9 Dz} {i:Nat} {d:Dz},a_ K H xs ds->ds[i]? = some d->∃ x,xs[i]? = some x/\b5 K H x d
 | _,_,_,_,.nil,e=>by simp_all
 | _,_,0,_,.cons a t,e=>by simp_all
 | _,_,i+1,x,.cons a t,e=>by
  have d:=a_.get' t (by assumption)
  simp_all
theorem a_.drop{K:Frag}{H:Hp}:∀ {xs:L9 V} {ds:L9 Dz} (n:Nat),a_ K H xs ds->a_ K H (xs.drop n) (ds.drop n)
 | _,_,0,h=>h
 | _,_,_+1,.nil=>.nil
 | _,_,n+1,.cons _ t=>a_.drop n t
theorem a_.take{K:Frag}{H:Hp}:∀ {xs:L9 V} {ds:L9 Dz} (n:Nat),a_ K H xs ds->a_ K H (xs.take n) (ds.take n)
 | _,_,0,_=>.nil
 | _,_,_+1,.nil=>.nil
 | _,_,n+1,.cons a t=>.cons a (a_.take n t)
def Jd(K:Frag)(a:Az):It:=
 ⟨λi H=>∃ xs x,d_ K H a xs/\xs[i]? = some x,λi H x H'=>∃ p v,H p=none/\x=.ref p/\H'=upd H p (.tup [.int i,v])/\∀ xs,d_ K H a xs->xs[i]? = some v,λi H=>∃ xs,d_ K H a xs/\xs.length<=i⟩
theorem Xl{P:P9}{w:W9}{K:Frag}{es:L9 Ez}{k1}{ql:Pos}(a e it:Az)(A:e≠it):Turn P w K (.Tuple es k1 ql) (Jd K a) [e,it] e (λi h=>(∃ old,IsEnum h e it i old)/\h.IsListIter it a i) where
 mem:=by simp
 obj:=λi h st b C=>by
  obtain⟨⟨old,s1⟩,o,e2,c,d⟩:=st
  ext
 keep:=λi h h' st k=>by
  obtain⟨⟨old,s1⟩,l⟩:=st
  exact⟨⟨old,k e (by simp) _ s1⟩,l.at λo q=>k it (by simp) o q⟩
 item:=by
  intro X Q U T f i av s Z H E I G st hg
  subst Q U T
  obtain⟨⟨old,s1⟩,l⟩:=st
  obtain⟨xs,x,F,L⟩:=hg
  obtain⟨Y,O,p,hz⟩:=I.list F
  obtain⟨u,hu,ru⟩:=O.get L
  obtain⟨f0,f1,f2,f3,f4,f5⟩:=G e (by simp)
  obtain⟨V,M,g2,g3,g4,g5⟩:=G it (by simp)
  refine wpAny_pyNext_enum_item s1 l p.isList (x:=u) (by simpa using hu) A λh' so si st aa kp=>?_
  refine⟨_,rfl,FH so λh2 se S=>?_⟩
  have y:s.heap.objs.size≠e:=CK (AE s1)
  have J:h2.get? s.heap.objs.size=some {cls:=.type "tuple",data:=.seq #[.int i s.toks,u]}:=(S.2 _ y).trans st
  have N:H s.heap.objs.size=none:=I.cj.fresh (AG _)
  have g:∀ b o,b≠e->b≠it->s.heap.get? b=some o->h2.get? b=some o:=λb o h1 W q=>(S.2 b h1).trans (kp b o h1 W q)
  have t:eh X.prog X.w H h2:=λb D q=>by
   refine(I.cj b D q).d6 (λc v f q'=>g c v ?_ ?_ q') (λ_ q=>q) (λ_ _ q=>q) λ_ _ q=>q
   .grind
   .grind
  have B:eh X.prog X.w (upd H s.heap.objs.size (.tup [.int i,x])) h2:=eh.rf t N ⟨by show 2<=sizeLine;decide,[.int i s.toks,u],.cons ⟨_,rfl⟩ (.cons ru .nil),⟨_,J,⟨rfl,rfl⟩,_,rfl⟩⟩
  have j:∀ b D,H b=some D->b≠s.heap.objs.size:=λb D q=>aW q N
  have I2:Inv X av Z (upd H s.heap.objs.size (.tup [.int i,x])) {s with heap:=h2,gens:=s.gens,drawn:=s.drawn,toks:=s.toks+1}:=by
   refine I.step (ch:=[e,it]) (λb C=>?_) (λb o _ _ f q _=>g b o (λz=>f (by simp[z])) (λz=>f (by simp[z])) q) (λb o _ _ f q _=>⟨o.slots,g b o (λz=>f (by simp[z])) (λz=>f (by simp[z])) q⟩)
    (λb o _ q n=>by rw[aE (A0 (AE q))];exact n) (λb o f q=>⟨o,g b o (λz=>f (by simp[z])) (λz=>f (by simp[z])) q⟩) (λb ys q=>by rw[aE (j b _ q)];exact q) (λb o D q=>by rw[aE (j b _ q)];exact q)
    (λb ps q=>by rw[aE (j b _ q)];exact q) (λm hm=>?_) B I.bare
   .grind
   .obtain ⟨o,R,ep,ho,r⟩:=hm
    exact⟨o,R,ep,g _ o (BD f1) (BD M) ho,r⟩
  refine⟨.ref s.heap.objs.size,_,I2,rfl,⟨_,x,N,rfl,rfl,λys hy=>by rw[I.l5 hy F];exact L⟩,⟨⟨u,by simpa using se⟩,si.at λo q=>(S.2 it A.symm).trans q⟩,λb C=>?_⟩
  rcases AQ.mp C with z|z
  .subst z;rw[aE (BD y)];exact f0
  .obtain rfl:b=it:=by simpa using z
   obtain⟨o,q,_⟩:=l
   rw[aE (A0 (AE q))];exact V
 done:=by
  intro X Q U T f i av s Z H E I G st hg
  subst Q U T
  obtain⟨⟨old,s1⟩,l⟩:=st
  obtain⟨xs,F,L⟩:=hg
  obtain⟨Y,O,p,hz⟩:=I.list F
  obtain⟨V,M,g2,g3,g4,g5⟩:=G it (by simp)
  have hl:=O.length
  exact wpAny_pyNext_enum_end (I.ok.hd f) s1 l p.isList (by simp;ext) λh' eb=>⟨rfl,I.turned (t':=s.toks) (λb o C q=>eb b o C q) V M g3 g4 g5⟩
 self:=λ_ _ _ _ _ st h=>EO st.1.choose_spec h
def Ko(K:Frag)(ta:TA):TI:=λZ H R=>ta Z H λvs H1=>∃ a,vs=[.ref a]/\(∃ xs,d_ K H1 a xs)/\R (Jd K a) H1
theorem U5{X:Cx}{es:L9 Ez}{k1}{ql:Pos}{a:Ez}{ta:TA}{p pos:Pos}(o:Gl X "enumerate")(t:X.mg "enumerate"=none)(k:PA X [a] ta)(l:autoParam (starEach [a] X.env=[(false,eval a X.env)]) z3) :
  PI X (.Tuple es k1 ql) (.Call (.Name "enumerate" p) [a] [] pos) (Ko X.K ta):=by
 intro av s Z H R I h
 refine Call_ (m7 I o t FA (CW (cz (k pos av s Z H _ I h) λus s1 d=>?_) l rfl))
 obtain⟨vs,H1,c,r1,i⟩:=d
 obtain⟨j,e,⟨xs,m⟩,q⟩:=i
 subst e
 obtain⟨u,rfl,x⟩:=n5 r1
 cases x
 obtain⟨n,v⟩:=c.list m
 refine call_enumerate_list v.2.1.isList λh' f w g r=>?_
 refine EO f ?_
 refine⟨s1.heap.objs.size+1,[s1.heap.objs.size+1,s1.heap.objs.size],_,_,H1,rfl,(c.kept r),Xl j _ _ (CK (DT _)),⟨⟨_,f⟩,w⟩,λb y=>?_,q⟩
 rcases AQ.mp y with z|z
 .subst z
  exact c.me (DP _) (c.cj.fresh (DP _))
 .obtain rfl:=by simpa using z
  exact c.me (AG _) (c.cj.fresh (AG _))
end _a
variable{outer:L9 Env}{l:L9 (Int×Int)}{rest:L9 V9}{fI:Az}
namespace _d
open PySem.W
section
variable{prog:P9}{w:W9}{A:U9}{E:V9->S9->Prop}{h:Hz}{g:Array GenState}{d:Drawn}{t:Nat}{os:OsState}{K:Frag}
variable{nm q:Str}{C N:Az}{bs bm Dj:L9 V9}{ud:Bool}{sn:L9 Str}{sub:L9 V9}{ab:Bool}{col:O9 Bool}{dd:O9 Az}{k0 k1 k2 k3 k5:O9 V9}{B newId oi:String}
structure sj(B:String)(bm:List V9):Prop where
 hasB:bm.contains (.type B)=true
 hasBase:bm.contains (.type "BaseException")=true
 noAttr:bm.contains (.type "AttributeError")=false
 noName:bm.contains (.type "NameError")=false
theorem Yc(F:ExcBaseFacts B newId oi Dj)(T:sj B bm){M:Model}{Q:Unit->S9->Prop}(b:h.get? C=some (excClassObj nm q C N bs bm ud sn sub ab col dd k0 k1 k2 k3 k5 newId))
  (e:Q () ⟨h,g,d,t,os⟩):wpAny M A (checkBuiltinCall newId ⟨.ref C::rest,[]⟩) Q E ⟨h,g,d,t,os⟩:=by
 have a:(Value.ref C::bm).contains (.type B)=true:=by rw[DG,T.hasB,GA]
 have c:=F.noStar
 simp only[checkBuiltinCall,F.newKind,F.newSplit,F.newRow]
 repeat (first|refine D6 b ?_|(refine DC b ?_;rw[a])|refine wpAny_staticBase_exc b ?_|refine wpAny_madeBy_exc b ?_|simp only[bne_self_eq_false,CC,DU]|wp_step)
 exact e
theorem Wd(F:ExcBaseFacts B newId oi Dj)(T:sj B bm){R:Result->S9->Prop}(e:h.get? C=some (excClassObj nm q C N bs bm ud sn sub ab col dd k0 k1 k2 k3 k5 newId))
  (j:R (.ok (.ret (.ref (h.objs.size+1)))) ⟨(h.push {cls:=.type "tuple",data:=.seq rest.toArray}).push
   {cls:=.ref C,data:=.fields #[.ref h.objs.size,.none,.none,.none,.bool false,.none]},g,d,t,os⟩) (Jq:rest.length<=sizeLine) :
  codeAny (model prog w) A (.builtin newId ⟨.ref C::rest,[]⟩) R ⟨h,g,d,t,os⟩:=by
 have f:=F.ends
 have c:(Value.ref C::bm).contains (.type B)=true:=by rw[DG,T.hasB,GA]
 have a:(Value.ref C::bm).contains (.type "AttributeError")=false:=by rw[DG,T.noAttr];rfl
 have b:(Value.ref C::bm).contains (.type "NameError")=false:=by rw[DG,T.noName];rfl
 refine codeAny_builtinAt F.entry ?_
 unfold Builtin.«BaseException.__new__»
 refine PySem.wpAt_bind ?_
 show PySem.wpAt _ _ _ (stack >>= _) _ _ _
 refine PySem.wpAt_bind (PySem.wpAt_stack λp i=>wpAt_of_wpAny ?_)
 wp_walk
 refine wpAt_of_wpAny ?_
 rw[F.owner]
 repeat (first|with_reducible refine wpAny_madeHere_exc F.canon e ?_|with_reducible refine D6 e ?_|(with_reducible refine DC e ?_;first|rw[c]|rw[a]|rw[b])|wp_step)
 show R _ _
 rw[BX]
 exact j
theorem Yp(F:ExcBaseFacts B newId oi Dj)(T:sj B bm)(X:K.In h){Q:Fin->S9->Prop}
  (i:h.get? C=some (excClassObj nm q C N bs bm ud sn sub ab col dd k0 k1 k2 k3 k5 newId)) (hi:findIn K (.ref C) "__init__"=some (some (.ref fI))) (k:typeIn K (.ref fI)=some (.type "function"))
  (l:∀ h' e,Heap.MadeExcOf h h' e (.ref C) rest->h.objs.size<=e->
   wpAny (model prog w) A (call (.ref fI) (.ref e::rest)) (λr s'=>r=.none/\Q (.done (.ret (.ref e))) s') E ⟨h',g,d,t,os⟩) (c:rest.length<=sizeLine) :
  wpAny (model prog w) A (Builtin.«type.__call__» ⟨.ref C::rest,[]⟩) Q E ⟨h,g,d,t,os⟩:=by
 repeat (first|rfl|with_reducible refine wpAny_madeBy_exc i ?_|wp_step)
 refine codeAny_call_builtin_code (Code.quiet_builtin _ F.quiet) (Yc F T i ?_)
 refine Wd F T i ?_ c
 have f:∀ b o,h.get? b=some o->((h.push {cls:=.type "tuple",data:=.seq rest.toArray}).push {cls:=.ref C,data:=.fields #[.ref h.objs.size,.none,.none,.none,.bool false,.none]}).get? b=some o:=λb o e=>AB _ (AB _ e)
 have a:((h.push {cls:=.type "tuple",data:=.seq rest.toArray}).push
   {cls:=.ref C,data:=.fields #[.ref h.objs.size,.none,.none,.none,.bool false,.none]}).get? (h.objs.size+1)=some
   {cls:=.ref C,data:=.fields #[.ref h.objs.size,.none,.none,.none,.bool false,.none]}:=by heap_get
 have j:(Value.ref C::bm).contains (.ref C)=true:=by simp
 unfold isInstance
 repeat (first|with_reducible refine D6 a ?_|(with_reducible refine DC (f _ _ i) ?_;rw[j])|wp_step)
 show wpAny _ _ (typeLookup (.ref C) _) _ _ _
 refine(looks_findIn (M:=model prog w) (X.keeps f) hi).at ?_
 refine CA (AA ?_)
 refine(bind_fn (M:=model prog w) (X.keeps f) _ k).at ?_
 refine AA (BI (l _ (h.objs.size+1) ⟨f,EY (DP _),h.objs.size,a,EY (AG _),?_⟩ (DP _)) (λr s' hr=>?_) λ_ _ x=>x)
 .exact AB _ (Heap.get?_push_at rfl rfl)
 .wp_walk
  exact hr.2
theorem NN(F:ExcBaseFacts B newId oi Dj)(T:sj B bm)(X:K.In h)
  (c:h.get? C=some (excClassObj nm q C N bs bm ud sn sub ab col dd k0 k1 k2 k3 k5 newId)) (hi:findIn K (.ref C) "__init__"=some (some (.ref fI))) (i:typeIn K (.ref fI)=some (.type "function"))
  (j:∀ h' e,Heap.MadeExcOf h h' e (.ref C) rest->h.objs.size<=e->
   wpAny (model prog w) (A.under (.builtin "type.__call__" ⟨.ref C::rest,[]⟩)) (call (.ref fI) (.ref e::rest)) (λr s'=>r=.none/\Q (.ref e) s') E ⟨h',g,d,t,os⟩) (a:rest.length<=sizeLine) :
  wpAny (model prog w) A (call (.ref C) rest) Q E ⟨h,g,d,t,os⟩:=by
 have k:=tc_lookup
 have l:=tc_bind (.ref C)
 refine DO (codeAny_of_tree ?_)
 repeat (any_goals (first|rfl|rfl|wp_step))
 refine⟨rfl,?_⟩
 refine codeAny_call_builtin_at (Code.quiet_builtin _ (by decide +kernel)) entry_typeCall (wpAny_check_type_call_sub c (Yp F T X c hi i (λh' e f b=>?_) a))
 exact j h' e f b
theorem qH{M:Model}{x:Sem V9}{Q:Flow->S9->Prop}(T:sj B bm)(c:A.handled=none)
  (hx:wpAny M A x (λv s₁=>∃ e od vs,v=.ref e/\s₁.heap.get? C=some (excClassObj nm q C N bs bm ud sn sub ab col dd k0 k1 k2 k3 k5 newId) /\
   s₁.heap.get? e=some {cls:=.ref C,dict:=od,data:=.fields vs}/\vs[1]? = some .none/\E (.ref e) s₁) E s) :
  wpAny M A (raiseStmt env (some x) none) Q E s:=by
 have b:(Value.ref C::bm).contains (.type "BaseException")=true:=by rw[DG,T.hasBase,GA]
 refine AA (BI hx (λv s₁ a=>?_) λ_ _ x=>x)
 obtain⟨e,od,vs,rfl,f,d,h1⟩:=a
 repeat (first|rfl|rfl|(with_reducible refine DC f ?_;rw[b])|(with_reducible refine B0 d rfl h1.1 ?_)|wp_step)
 exact wpAny_raiseNew_none c h1.2
end
end _d
variable{b:Bool}{o:O9 Obj}{W:Az}{r:V9}
namespace _d
open PySem.W PySem.Builtin PySem.Builtin.ObjectAttr
abbrev kM:L9 V9:=[.type "ValueError",.type "Exception",.type "BaseException",.type "object"]
structure dy(K:Frag)(W C:Az):Prop where
 lk:∃ nm q N bs sn sub ab col dd k0 k1 k2 k3 k5,K.lookup C=some (excClassObj nm q C N bs (.ref W::kM) true sn sub ab col dd k0 k1 k2 k3 k5 "ValueError.__new__")
 sa:findIn K (.ref C) "__setattr__"=some (some (.builtin "object.__setattr__"))
 ga:findIn K (.ref C) "__getattribute__"=some (some (.builtin "BaseException.__getattribute__"))
 gh:findIn K (.ref C) "__getattr__"=some none
 cl:findIn K (.ref C) "__class__"=some (some (.builtin "object.__class__"))
 Zc:specialIn K (.builtin "object.__class__") "__get__"=some (some (.builtin "getset_descriptor.__get__"))
 Zb:takesIn K (.builtin "object.__class__")=some true
 kp:keepIn K (.ref C)=true
theorem wN(W:Az):sj "ValueError" (.ref W::kM):=⟨by rfl,by rfl,by rfl,by rfl⟩
theorem passes(self:V9)(C W:Az):refuseLoop self "__setattr__" (.ref C::.ref W::kM)=pure ():=by
 rw[refuseLoop_ref,refuseLoop_ref]
 exact PySem.F.store_ValueError.passes self
theorem dy.cls(c:dy K W C):∃ cd:ClassData,clsIn K C=some cd/\cd.hasDict=true/\cd.mro=.ref C::.ref W::kM:=by
 obtain⟨nm,q,N,bs,sn,sub,ab,col,dd,k0,k1,k2,k3,k5,e⟩:=c.lk
 exact⟨_,by unfold clsIn;rw[e],rfl,rfl⟩
theorem dy.mro(c:dy K W C)(b:V9):mroIn K C b=some ((Value.ref C::.ref W::kM).contains b):=by
 obtain⟨cd,h1⟩:=c.cls
 unfold mroIn
 ext
section
variable{prog:P9}{w:W9}{A:U9}{E:V9->S9->Prop}{s:S9}{K:Frag}{W C x:Az}{name:Str}{v:V9}{vs:Array V9}
theorem MI{b:Tok}{R:Result->S9->Prop}(X:K.In s.heap)(c:dy K W C)(i:findIn K (.ref C) name=some none)(I:InstAt s.heap x ⟨.ref C,od,.fields vs,#[]⟩ C o)
  (h:wpAny (model prog w) A.in1 (storeInOwnDict (.ref x) (.ref C) (.str name b) name v false)
   (λfin s'=>match fin with | .done f=>R (.ok f) s' | .again c'=>c'.quiet=true/\codeAny (model prog w) A c' R s') (λe s'=>R (.error e) s') s) :
  codeAny (model prog w) A (.call (.builtin "object.__setattr__") ⟨[.ref x,.str name b,v],[]⟩) R s:=by
 have a:=PySem.F.store_object
 obtain⟨cd,d⟩:=c.cls
 refine EZ a.slot.plain a.entry (@check_slot _ _ _ s "object.__setattr__" "object" "__setattr__" _ _ [] _ a.kind a.split (I.type.andThen (looks_mroIn X (by rw[c.mro];rfl))) (a.args _ _ v) ?_)
 have g:Looks (model prog w) s.heap (mroOf (.ref C)) cd.mro:=(looks_clsIn X d.1).andThen .now
 rw[osa_eq,refuse_eq]
 refine AA (AA (I.type.here (AA (g.here ?_))))
 rw[d.2.2,passes]
 exact AC (AA (I.type.here (AA ((looks_findIn X i).here (AA (AC h))))))
theorem Xk{Q:Unit->S9->Prop}(X:K.In s.heap)(c:dy K W C)(n:findIn K (.ref C) name=some none)(hx:s.heap.get? x=some ⟨.ref C,none,.fields vs,#[]⟩)
  (h:∀ h' Fv,h'.get? x=some ⟨.ref C,some s.heap.objs.size,.fields vs,#[]⟩->h'.Ns1 s.heap.objs.size (λy=>if y=name then some v else none)->(∀ b o,b≠x->s.heap.get? b=some o->h'.get? b=some o)->Q () {s with heap:=h',toks:=Fv}) :
  wpAny (model prog w) A (setAttr (.ref x) name v) Q E s:=by
 have I:InstAt s.heap x _ C none:=⟨hx,rfl,rfl,trivial⟩
 refine set_plain X I c.sa (MI X c n I ?_)
 obtain⟨cd,g⟩:=c.cls
 show wpAny _ _ (ownDictForStores _ >>= _) _ _ _
 refine AA ?_
 refine AA (E8 hx (AA ((looks_clsIn X g.1).at ?_)))
 rw[g.2.1]
 refine AA (wpAny_alloc' ?_)
 refine AA (wpAny_update' (AB _ hx) ?_)
 refine AC ?_
 refine AA (AC (AA (wpAny_nsSet1 (Heap.Ns1.of_empty (⟨_,#[],_,((Heap.get?_update_ne _ _ _ _ (A0 (AE hx)).symm).trans (Heap.get?_push_at rfl rfl)),rfl,λe m=>absurd m (by simp),λ_=>rfl⟩)) λh' d i=>?_)))
 obtain⟨p,l,k,a⟩:=d.count (Within.cons name v Within.nil)
 refine AA (FV a.1 (by rw[a.2.1];exact FW (A6 a.2.2 (by simp))) ?_)
 refine AC (h h' _ ?_ d λb o f j=>?_)
 .exact (i.2 x (A0 (AE hx))).trans (BK _ (AB _ hx) rfl)
 .exact (i.2 b (A0 (AE j))).trans ((Heap.get?_update_ne _ _ _ _ f).trans (AB _ j))
theorem Wb{Q:Unit->S9->Prop}{ns:L9 Str}(X:K.In s.heap)(c:dy K W C)(j:findIn K (.ref C) name=some none)(hx:s.heap.get? x=some ⟨.ref C,some dx,.fields vs,#[]⟩)
  (l:dx≠x) (d:s.heap.Ns1 dx mA) (hw:Within mA ns) (hsz:ns.length<=sizeLine)
  (h:∀ h' Fv,h'.Ns1 dx (λy=>if y=name then some v else mA y)->Heap.SameBut dx s.heap h'->Q () {s with heap:=h',toks:=Fv}) :
  wpAny (model prog w) A (setAttr (.ref x) name v) Q E s:=by
 obtain⟨od,e⟩:=_a.lX d
 have I:InstAt s.heap x _ C (some od):=⟨hx,rfl,rfl,e.1⟩
 refine set_plain X I c.sa (MI X c j I ?_)
 obtain⟨cd,f⟩:=c.cls
 show wpAny _ _ (ownDictForStores _ >>= _) _ _ _
 refine AA ?_
 refine AA (E8 hx (AA ((looks_clsIn X f.1).at ?_)))
 rw[f.2.1]
 refine AC ?_
 refine AA (AC (AA (wpAny_nsSet1 d λh' b k=>?_)))
 obtain⟨m,i,g,a⟩:=b.count (Within.cons name v hw)
 refine AA (FV a.1 (by rw[a.2.1];exact FW (A6 a.2.2 (by ext))) ?_)
 exact AC (h h' _ b k)
theorem Xj{b:Tok}{Q:Fin->S9->Prop}(X:K.In s.heap)(I:InstAt s.heap x ⟨.ref C,od,.fields vs,#[]⟩ C o)(a:findObj K C o name=some (.value r))(c:Q (.done (.ret r)) s) :
  wpAny (model prog w) A (Builtin.«object.__getattribute__» ⟨[.ref x,.str name b],[]⟩) Q E s:=by
 refine AA (AC (AA (AC ?_)))
 exact AA ((I.type ).at (AA ((looks_find X I a).at (AC c))))
theorem RP{h:Tok}{a:Bool}(X:K.In s.heap)(c:dy K W C)(I:InstAt s.heap x ⟨.ref C,od,.fields vs,#[]⟩ C o)(g:findObj K C o name=some (.value r))(f:handedIn r=true)(i:Q r s) :
  wpAny (model prog w) A (getAttrBy (.ref x) (.str name h) b a) Q E s:=by
 have e:=I.type (M:=model prog w)
 refine CA (AA (e.at (AA ((looks_findIn X c.ga).at ?_))))
 refine AA ?_
 refine(looks_findIn X c.gh).at (AA (ED (CA ?_)))
 have d:(a && onTheHeap (Value.builtin "BaseException.__getattribute__"))=false:=by cases a<;>rfl
 unfold callGetattribute
 rw[d]
 refine DO (EZ FJ.ga.plain GU (@check_slot _ _ _ _ "BaseException.__getattribute__" "BaseException" "__getattribute__" _ _ [] _ (by rfl) (by rfl) (e.andThen (looks_mroIn X (by rw[c.mro];rfl))) (PySem.F.args_bexc_ga _ _) ?_))
 refine Xj X I g ?_
 show wpAny _ _ (handedOut r) _ _ _
 rw[handedOut_of f]
 exact AC i
theorem UN{a:Bool}(X:K.In s.heap)(c:dy K W C)(I:InstAt s.heap x ⟨.ref C,od,.fields vs,#[]⟩ C o)(b:findObj K C o name=some (.value r))(d:handedIn r=true)(e:Q r {s with toks:=s.toks+1}) :
 wpAny (model prog w) A (getAttr (.ref x) name a) Q E s:=AA (wpAny_mkText (RP X c I b d e))
theorem Xi{Q:O9 V9->S9->Prop}(X:K.In s.heap)(c:dy K W C)(I:InstAt s.heap x ⟨.ref C,od,.fields vs,#[]⟩ C o)(h:Q (some (.ref C)) {s with toks:=s.toks+1}) :
  wpAny (model prog w) A (getAttr? (.ref x) "__class__") Q E s:=by
 obtain⟨e,g,d,t,os⟩:=s
 obtain⟨cd,b⟩:=c.cls
 have a:=I.type (M:=model prog w)
 have f:findObj K C o "__class__"=some (.bind (.builtin "getset_descriptor.__get__") (.builtin "object.__class__")):=by
  unfold findObj
  rw[b.1,c.cl]
  rfl
 refine AA (wpAny_mkText ?_)
 refine AA (ED ?_)
 refine CA (AA (a.at (AA ((looks_findIn X c.ga).at ?_))))
 refine AA ?_
 refine(looks_findIn X c.gh).at (AA (ED (CA ?_)))
 unfold callGetattribute
 unfold boundAndCalled
 refine DO (EZ FJ.ga.plain GU (@check_slot _ _ _ _ "BaseException.__getattribute__" "BaseException" "__getattribute__" _ _ [] _ (by rfl) (by rfl) (a.andThen (looks_mroIn X (by rw[c.mro];rfl))) (PySem.F.args_bexc_ga _ (.str "__class__" t)) ?_))
 refine AA (AC (AA (AC ?_)))
 refine AA (a.at (AA ((looks_find (M:=model prog w) X I f).at ?_)))
 show wpAny _ _ (holding [.builtin "object.__class__"] (call (.builtin "getset_descriptor.__get__") [.builtin "object.__class__",.ref x,.ref C]) >>= ret) _ _ _
 refine AA (CA (DO (class_get (s:=⟨e,g,d,t+1,os⟩) X I (by rw[c.mro];simp[kM]) ?_)))
 refine AC ?_
 show wpAny _ _ (handedOut (.ref C)) _ _ _
 exact AC (AC h)
theorem wO{o:O9 Obj}(c:dy K W C):KitX K (.ref x) (.ref C) (λh=>InstAt h x ⟨.ref C,od,.fields vs,#[]⟩ C o) where
 ty:=λ_ _ _ I=>I.type
 it:=λ_ _ X _=>by
  obtain⟨nm,q,N,bs,sn,sub,ab,col,dd,k0,k1,k2,k3,k5,e⟩:=c.lk
  intro j g i s' k q
  unfold isType loadHead
  exact AA (E8 (k _ _ (X _ _ e)) (AC q))
 ne:=λh d dd f n sl X a=>by
  obtain⟨nm,q,N,bs,sn,sub,ab,col,dd,k0,k1,k2,k3,k5,e⟩:=c.lk
  refine FM.mpr λq=>?_
  have b:C=d:=Value.ref.inj (beq_iff_eq.mp q)
  subst b
  have z:=(X _ _ e).symm.trans a
  ext
 ca:=λX I k=>Xi X c I k
theorem yF{o:O9 Obj}{a:V9}(X:K.In s.heap)(c:dy K W C)(I:InstAt s.heap x ⟨.ref C,od,.fields vs,#[]⟩ C o)(e:kitOne K (.ref C) a=some b)(h:∀ tk,Q (.bool b) {s with toks:=tk}) :
 wpAny (model prog w) A (call (.builtin "isinstance") [.ref x,a]) Q E s:=kia_one (wO c) X I e (λz=>nomatch z) h
end
end _d
variable{o:Obj}{Q:Unit->S9->Prop}{e:Az}{r:Str}{fr:O9 Az}
namespace _d
open PySem.W
def wP(h:Hz)(vs:Array V9)(e:Az)(T:O9 Az):Prop:=
 match T with
 | none=>vs[1]? = some .none
 | some t=>vs[1]? = some (.ref t)/\t≠e/\∃ oT ts x,h.get? t=some oT/\oT.data=.fields ts/\ts[3]? = some x
section
variable{M:Model}{A:U9}{E:V9->S9->Prop}{s:S9}
structure Bo(FL:List Az)(e:Az)(T:Option Az)(C:Az)(od:Option Az)(h h':Heap)(T':Option Az):Prop where
 keep:∀ b o,b∉FL->b≠e->(∀ t,T=some t->b≠t)->h.get? b=some o->h'.get? b=some o
 slot:∀ b o,b∈FL->h.get? b=some o->∃ sl,h'.get? b=some {o with slots:=sl}
 exc:∃ vs,h'.get? e=some ⟨.ref C,od,.fields vs,#[]⟩/\wP h' vs e T'
 new:(∃ t,T'=some t/\h.objs.size<=t)\/(T'=T/\T≠none)
 there:∀ t o,T=some t->h.get? t=some o->∃ o',h'.get? t=some o'
theorem Wa{base:Hz}{L:Az}{T:O9 Az}
  (K:A.frames=some (env::outer)) (U:s.heap.FunFrames base (env::outer)) (V:env.frame=some L) (H:s.heap.get? e=some ⟨.ref C,od,.fields vs,#[]⟩) (I:wP s.heap vs e T)
  (h:∀ h' T',T'≠none->Bo ((env::outer).filterMap (·.frame)) e T C od s.heap h' T'->Q () {s with heap:=h'}) :
  wpAny M A (noteFrame (.ref e) env) Q E s:=by
 have ac:∀ b∈(env::outer).filterMap _,∃ o,s.heap.get? b=some o/\∀ vs,o.data≠.fields vs:=λb i=>(U.mem i).2
 have D:e∉(env::outer).filterMap (·.frame):=λhm=>by
  ext
 have F:1 < vs.size:=by
  unfold wP at I
  ext
 have make:∀ v f g,v.FunFrames base (env::outer)->v.objs.size=s.heap.objs.size->v.get? e=some ⟨.ref C,od,.fields vs,#[]⟩->
   (∀ b o,(∀ t,T=some t->b≠t)->s.heap.get? b=some o->v.get? b=some o)->(∀ t o,T=some t->s.heap.get? t=some o->∃ o',v.get? t=some o'/\t∉(env::outer).filterMap (·.frame)/\t≠e)->
   wpAny M A (do let a <-frameOf env;let n <-entryPlaceOf L g;let b <-EntryCells.newEntry f a .none (rawInt L) .none n;setField (.ref e) 1 b) Q E {s with heap:=v}:=by
  intro v f g R J O W tp
  refine AA (wpAny_frameOf_fun K R V λc d=>?_)
  refine AA (wpAny_entryPlaceOf λn w=>?_)
  refine AA (DN ?_ (w.sizeOk5 _ _ _ _ _))
  have j:=(d.2.1 e D).trans O
  have k:=AB {cls:=.type "traceback",dict:=none,data:=.fields ([f,.ref L,.none,rawInt L,.none]++(if n.isEmpty then replicate 6 Value.none else n)).toArray} j
  refine DR k rfl F ?_
  have u:=(BM (c.push {cls:=.type "traceback",dict:=none,data:=.fields ([f,.ref L,.none,rawInt L,.none]++(if n.isEmpty then replicate 6 Value.none else n)).toArray})
   (Obj.mapFields (·.setIfInBounds 1 (Value.ref c.objs.size))) (BD (CK (AE j)))).trans (AN c rfl)
  have m:∀ b o,b≠e->c.get? b=some o->
    ((c.push {cls:=.type "traceback",dict:=none,data:=.fields ([f,.ref L,.none,rawInt L,.none]++(if n.isEmpty then replicate 6 Value.none else n)).toArray}).update e (Obj.mapFields (·.setIfInBounds 1 (Value.ref c.objs.size)))).get? b=some o:=
   λb o r i=>by
    rw[BM _ _ (BD r)]
    exact AB _ i
  refine h _ (some c.objs.size) (by simp) ⟨λb o i r p q=>?_,λb o i q=>?_,⟨vs.setIfInBounds 1 (.ref c.objs.size),?_,?_⟩,.inl ⟨_,rfl,by rw[d.1,J];exact AG _⟩,λt o e1 e2=>?_⟩
  .exact m b o r ((d.2.1 b i).trans (W b o p q))
  .have p:∀ t,T=some t->b≠t:=λt e1 z=>by
    ext
   have sl:=d.2.2 b o (W b o p q)
   ext
  .exact (BK (Obj.mapFields (·.setIfInBounds 1 (Value.ref c.objs.size))) k rfl)
  .refine ⟨by simp[F],(CK (AE j)),_,_,rawInt L,u,rfl,by first|(simp;done)|(rcases w with rfl|⟨_,_,_,_,_,_,_,rfl⟩<;>simp)⟩
  .obtain ⟨o',P⟩:=tp t o e1 e2
   exact⟨o',m t o' P.2.2 ((d.2.1 t P.2.1).trans P.1)⟩
 unfold noteFrame
 simp only[V]
 cases T with
 | none=>
  refine AA (B0 H rfl I ?_)
  simp_all
 | some t=>
  obtain⟨B,y,oT,X,x,G,l,N⟩:=I
  have ad:t∉(env::outer).filterMap (·.frame):=λhm=>by
   ext
  refine AA (B0 H rfl B ?_)
  rw[AI (show(Value.ref t != Value.none)=true from by simp)]
  refine AA (B0 G l N ?_)
  by_cases S:(x == rawInt L)=true
  .rw[AI S]
   refine AC (h s.heap (some t) (by simp) ⟨λb o _ _ _ q=>q,λb o _ q=>⟨o.slots,q⟩,⟨vs,H,B,y,oT,X,x,G,l,N⟩,.inr ⟨rfl,by simp⟩,λZ o e1 q=>⟨o,q⟩⟩)
  .rw[AM S]
   refine AA (DR G l (EE.mp N).1 ?_)
   have Y:=BK (Obj.mapFields (·.setIfInBounds 3 Value.none)) G (D8 (C4 l _))
   refine make (s.heap.update t (Obj.mapFields (·.setIfInBounds 3 Value.none))) _ _ (U.of_keeps λb o i aa=>⟨o,((λb i=>BM _ _ (BD i)) b λq=>?_).trans i,rfl⟩) (CY ..).1 (((λb i=>BM _ _ (BD i)) e (BD y)).trans H) (λb o i q=>((λb i=>BM _ _ (BD i)) b (i t rfl)).trans q) (λZ o e1 q=>?_)
   .grind
   .grind
theorem Yb{t:Az}(f:s.heap.get? e=some ⟨.ref C,od,.fields vs,#[]⟩)(d:wP s.heap vs e (some t))
  (h:∀ h',Heap.SameBut t s.heap h'->wP h' vs e (some t)->Q () {s with heap:=h'}):wpAny M A (setFlight (.ref e) fr) Q E s:=by
 obtain⟨b,c,oT,g,x,a⟩:=d
 refine AA (B0 f rfl b ?_)
 refine DR a.1 a.2.1 ((EE.mp a.2.2).1) (h _ (CY ..) ⟨b,c,_,_,_,BK _ a.1 (D8 (C4 a.2.1 _)),C4 a.2.1 _,Array.getElem?_setIfInBounds_self_of_lt ((EE.mp a.2.2).1)⟩)
end
end _d
variable{ev:V9}
namespace _a
def uy(e C:Az)(od:O9 Az):HO:=.ext λh=>∃ vs,h.get? e=some ⟨.ref C,od,.fields vs,#[]⟩/\vs[1]? = some .none
def mv(e C:Az)(od:O9 Az):HO:=.ext λh=>∃ vs,h.get? e=some ⟨.ref C,od,.fields vs,#[]⟩
section
variable{P:P9}{w:W9}{H:Hp}{h:Hz}{e C:Az}{od:O9 Az}
theorem Iv(a:h.get? e=some ⟨.ref C,od,.fields vs,#[]⟩)(b:vs[1]? = some .none):cI P w H h e (uy e C od):=
 ⟨⟨vs,a,b⟩,⟨_,a⟩,λh1 h2 vs k=>by obtain⟨vs,a⟩:=vs;exact⟨vs,k _ a.1,a.2⟩⟩
theorem pB(a:h.get? e=some ⟨.ref C,od,.fields vs,#[]⟩):cI P w H h e (mv e C od):=
 ⟨⟨vs,a⟩,⟨_,a⟩,λh1 h2 vs k=>by obtain⟨vs,a⟩:=vs;exact⟨vs,k _ a⟩⟩
theorem yG(ok:eh P w H h)(q:H e=some (uy e C od)):∃ vs,h.get? e=some ⟨.ref C,od,.fields vs,#[]⟩/\vs[1]? = some .none:=(ok e _ q).1
theorem pC(ok:eh P w H h)(q:H e=some (mv e C od)):∃ vs,h.get? e=some ⟨.ref C,od,.fields vs,#[]⟩:=(ok e _ q).1
end
structure mn(X:Cx)(H:Hp)(h:Heap)(e C:Az)(od:Option Az)(wy:Bool):Prop where
 tr:H e=some (mv e C od)
 tb:∃ vs T,h.get? e=some ⟨.ref C,od,.fields vs,#[]⟩/\_d.wP h vs e T/\(∀ t,T=some t->H t=none/\X.s₀.heap.objs.size<=t/\∀ p∈X.pn,p.1≠t)/\(wy=true->T≠none)
def vi(X:Cx)(E:XK)(ev:V9)(s':S9):Prop:=∃ e C od Z H',ev=.ref e/\Inv X [] Z H' s'/\mn X H' s'.heap e C od false/\E (.ref C) (some e) H'
abbrev Cx.mf(X:Cx)(E:XK):Cx:=X.gw (vi X E)
def yH(X:Cx):Prop:=X.stack=X.env::X.outer/\X.env.frame=some X.env.locals
section
variable{X:Cx}{Z:St}{H:Hp}{s:S9}{e C:Az}{od:O9 Az}{b:Bool}
theorem wQ(I:Inv X [] Z H s){t:Az}{oT:Obj}{d:Array V9}(e:s.heap.get? t=some oT)(f:oT.data=.fields d):t≠X.env.locals/\(∀ x c,X.env.cells.lookup x=some c->c≠t):=by
 refine⟨λz=>?_,λx c q z=>?_⟩
 .obtain ⟨m,⟨o,es,ep,a,b,_⟩,_⟩:=I.loc
  ext
 .obtain ⟨v,o,a⟩:=I.cell x c q
  ext
theorem qI{O:V9->S9->Prop}(R:yH X)(I:Inv X [] Z H s)(f:mn X H s.heap e C od b)(h:∀ s',Inv X [] Z H s'->mn X H s'.heap e C od true->Q () s') :
  wpAny (model X.prog X.w) X.A (noteFrame (.ref e) X.env) Q O s:=by
 have a:=R
 obtain⟨vs,T,K,y,J,_⟩:=f.tb
 have r:(X.env::X.outer).filterMap (·.frame)=X.env.locals::X.fs:=by rw[EF,a.2];rfl
 refine _d.Wa (by rw[<-a.1];exact I.ok.frames) (by have:=I.stack;rw[a.1]at this;ext) a.2 K y λh' P D N=>?_
 rw[r]at N
 have Jh:∀ c u,H c=some u->c∉X.env.locals::X.fs:=λc u q z=>by
  have:=I.ly c (by unfold ph;rw[a.1,r];ext)
  ext
 have j:eh X.prog X.w H h':=λc u q=>by
  by_cases i:c=e
  .subst i
   rw[f.tr]at q;cases q
   obtain⟨g,d⟩:=N.exc
   exact pB d.1
  .refine (I.cj c u q).d6 (λU v B d=>N.keep U v ?_ ?_ ?_ d) (λ_ q=>q) (λ_ _ q=>q) λ_ _ q=>q
   .grind
   .rcases B with z|z
    .grind
    .intro L;rw[L,f.tr]at z;cases z
   .grind
 have M:Inv X [] Z H {s with heap:=h',gens:=s.gens,drawn:=s.drawn,toks:=s.toks}:=by
  refine I.step (ch:=T.toList) (λc i=>?_) (λc o h1 h2 E q n=>?_) (λc o h1 h2 E q n=>N.slot c o (AU _ h2) q) (λ_ _ _ _ n=>n) (λc o E q=>?_) (λ_ _ q=>q) (λ_ _ _ q=>q) (λ_ _ q=>q) (λm S=>?_) j I.bare
  .have e1:T=some c:=by cases T<;>simp at i;rw[i]
   have t1:=J c e1
   rw[e1]at y
   obtain⟨_,_,oT,W,x,k⟩:=y
   have Y:=wQ I k.1 k.2.1
   ext
  .refine N.keep c o ?_ ?_ ?_ q
   .grind
   .intro z;rw[z,f.tr]at n;cases n
   .grind
  .by_cases i:c=e
   .subst i
    obtain⟨g,d,_⟩:=N.exc
    ext
   .by_cases G:c∈X.env.locals::X.fs
    .obtain ⟨sl,d⟩:=N.slot c o G q
     ext
    .exact ⟨o,N.keep c o G i (λt e1 z=>E (by rw[e1,z];simp)) q⟩
  .obtain ⟨o,es,ep,F⟩:=S
   obtain⟨sl,d⟩:=N.slot _ o A5 F.1
   exact⟨_,es,ep,d,F.2⟩
 refine h _ M ⟨f.tr,?_⟩
 obtain⟨g,d⟩:=N.exc
 refine⟨g,P,d.1,d.2,λt e1=>?_,λ_=>D⟩
 rcases N.new with ⟨t2,e2,l⟩|⟨e2,_⟩
 .rw[e1]at e2;cases e2
  refine⟨I.cj.fresh l,A6 I.sz l,λp V z=>?_⟩
  have:=AE (I.pin p (C6 _ V)).1
  ext
 .grind
theorem pD{m:V9->S9->Prop}{A:U9}(I:Inv X [] Z H s)(f:mn X H s.heap e C od true)(h:∀ s',Inv X [] Z H s'->mn X H s'.heap e C od true->Q () s') :
  wpAny (model X.prog X.w) A (setFlight (.ref e) fr) Q m s:=by
 obtain⟨vs,T,j,i,l,v⟩:=f.tb
 cases T with
 | none=>simp_all
 | some t=>
  have c:=l t rfl
  refine _d.Yb j i λh' k g=>?_
  obtain⟨_,d,oT,r,x,a⟩:=i
  exact h _ (I.turned (t':=s.toks) (λb o n q=>(k.2 b n).trans q) c.1 (wQ I a.1 a.2.1).1 (.inr c.2.1) (wQ I a.1 a.2.1).2 λp u=>c.2.2 p (by simp_all)) ⟨f.tr,vs,some t,(k.2 e (BD d)).trans j,g,λt' e1=>by cases e1;exact⟨c.1,c.2.1,c.2.2⟩,λ_=>by simp⟩
theorem Xh{Q:V9->S9->Prop}{b:V9->S9->Prop}{A:U9}(f:mn X H s.heap e C od true)(h:∀ t,Q (.ref t) s):wpAny (model X.prog X.w) A (field (.ref e) 1) Q b s:=by
 obtain⟨vs,T,a⟩:=f.tb
 cases T with
 | none=>exact absurd rfl (a.2.2.2 rfl)
 | some t=>exact B0 a.1 rfl a.2.1.1 (h t)
theorem jG{E:XK}(i:yH X):PassesOwn (model X.prog X.w) X.A X.env (vi X E):=by
 rintro l s' ⟨e,C,od,Z,H,rfl,I,f,q⟩
 refine qI i I f λm j g=>?_
 refine AA (Xh g λt=>?_)
 exact pD j g λk h d=>⟨e,C,od,Z,H,rfl,h,⟨d.tr,let ⟨vs,T,a,b,c,_⟩:=d.tb;⟨vs,T,a,b,c,λz=>nomatch z⟩⟩,q⟩
end
def d4(P:P9)(w:W9):nr:=λouter H s E ev s'=>∃ e C od H',ev=.ref e/\s'.os=s.os/\AllBare s'.gens/\Un (ph outer) [] H H' s.heap s'.heap/\eh P w H' s'.heap/\H' e=some (mv e C od) /\
 (∃ vs T,s'.heap.get? e=some ⟨.ref C,od,.fields vs,#[]⟩/\_d.wP s'.heap vs e T/\∀ t,T=some t->H' t=none/\s.heap.objs.size<=t)/\E (.ref C) (some e) H'
section
variable{X:Cx}
theorem jW{E d:XK}(h:∀ c e H,E c e H->d c e H):fR (d4 X.prog X.w) (X.mf d) E:=by
 rintro av Z H s i s' I ⟨e,C,od,H',rfl,os,bare,un,cj,he,⟨vs,T,q1,q2,q3⟩,q⟩
 refine⟨e,C,od,Z,H',rfl,((I.cx.ez λp a=>absurd a (by simp)).uk os un cj bare (λb g=>absurd g (by simp))),⟨he,vs,T,q1,q2,λt e1=>?_,λz=>nomatch z⟩,h _ _ _ q⟩
 have f:=q3 t e1
 refine⟨f.1,A6 I.cx.sz f.2,λp a z=>?_⟩
 have:=AE (I.cx.pin p (C6 _ a)).1
 ext
theorem ix.rb{E:XK}{st:L9 Stmt}{t:TS}(h:ix (X.mf E) st t)(hx:∀ e s',vi X E e s'->X.xe e s'):ix X st t:=λav s Z H D I a=>
 BI (h av s Z H D (I.gw _) a) (λf s' q=>SP.cx q) hx
end
theorem sH{w:W9}{base:Hz}{A:U9}{H:Hp}{E:XK}
  (h:vi (cR (d4 P w) P w K mg base N qual scope f cd A outer s H E) E ev s'):(cR (d4 P w) P w K mg base N qual scope f cd A outer s H E).xe ev s':=by
 obtain⟨e,C,od,Z,H',rfl,I⟩:=h
 refine AA (qI (⟨rfl,rfl⟩) I.1 I.2.1 λj d g=>pD d g λi b c=>?_)
 obtain⟨vs,T,a⟩:=c.tb
 exact⟨e,C,od,H',rfl,b.os,b.bare,b.base,b.cj,c.tr,⟨vs,T,a.1,a.2.1,λt e1=>⟨(a.2.2.1 t e1).1,(a.2.2.1 t e1).2.1⟩⟩,I.2.2⟩
section
variable{P:P9}{w:W9}{K:Frag}{mg:Str->O9 V9}{base:Hz}
theorem jt.xc{fd:FuncData}{sp:Sp}(F:jt K x qual st f fd)(S:cb N ps (aD st))(len:∀ vs H Q E,sp vs H Q E->vs.length=ps.length)
  (a:∀ (c_:V9) (A:U9) (outer:L9 Env) (s:S9) (H:Hp) (vs:L9 V) (Q:VK) (E:XK),cw k (A.deeper (envOfC qual (aD st) s.heap.objs.size f c_))->sp vs H Q E->
   ∃ t,ix ((cR (d4 P w) P w K mg base N qual (aD st) f c_ A outer s H E).mf E) (aT st) t/\t {nx:=λ_ H'=>Q .fg H',rt:=Q} (start N vs) H):c5 P w K mg base (d4 P w) (k+1) f fd ps sp:=by
 obtain⟨e,od,kV,doc,pm,g,c_,ct,d,rfl,c⟩:=F.ex
 refine Fc c.1 c.2 S len λA outer s H vs Q E hr b=>?_
 obtain⟨t,h⟩:=a c_ A outer s H vs Q E hr b
 exact⟨t,h.1.rb λ_ _ z=>sH z,h.2⟩
end
theorem Inv.OC{X:Cx}{Z:St}{H:Hp}{h':Hz}{d:Az}{fs wc:L9 (Str×V)}{t':Nat}(I:Inv X av Z H s)(g:H d=some (.xd fs))(a:Heap.SameBut d s.heap h')
  (new:cI X.prog X.w (upd H d (.xd wc)) h' d (.xd wc)):Inv X av Z (upd H d (.xd wc)) {s with heap:=h',toks:=t'}:=by
 have nd:∀ b (u:Obj),H b=none->b≠d:=λb u e z=>by simp_all
 refine I.un ⟨λb o q n _ _=>(a.2 b (nd b o n)).trans q,λb o q n h=>?_,λb o q n _=>by rw[aE (nd b o n)];ext,λb o q _=>?_,λb xs q=>?_,λb o u q=>?_,λb ps q=>?_⟩ λb u q=>?_
 .exact λ_=>⟨o.slots,(a.2 b (nd b o n)).trans q⟩
 .by_cases z:b=d
  .have o':=(show ∃ o',h'.get? d=some o' from let ⟨mA,⟨o,_,_,e,_⟩,_⟩:=new;⟨o,e⟩)
   ext
  .exact ⟨o,(a.2 b z).trans q⟩
 .rw[aE (λz=>by simp_all)];ext
 .rw[aE (λz=>by simp_all)];ext
 .rw[aE (λz=>by simp_all)];ext
 .by_cases z:b=d
  .subst z;rw[aI]at q;ext
  .rw[aE z]at q
   refine(I.cj b u q).d6 (λc v f r=>(a.2 c ?_).trans r) (λc r=>?_) (λc xs r=>?_) λc xs r=>?_
   · ext
   all_goals rw[aE (λi=>by simp_all)];ext
def E_(K:Frag)(ta tv:TE)(f:Str):TS:=λD Z H=>tv Z H λy H1=>ta Z H1 λx H2=>∃ a W C,x=.ref a/\_d.dy K W C/\findIn K (.ref C) f=some none /\
 ((H2 a=some (uy a C none)/\∀ d,H2 d=none->d≠a->D.nx Z (upd (upd H2 a (uy a C (some d))) d (.xd [(f,y)]))) \/
  (∃ d fs,H2 a=some (uy a C (some d))/\H2 d=some (.xd fs)/\fs.length < 1000/\D.nx Z (upd H2 d (.xd (f9 f y fs)))))
section
variable{X:Cx}{o e value:Ez}{f:Str}{pos pos':Pos}{ta tv:TE}
theorem Xg{fs:L9 (Str×V)}(r:∀ f,gU (fs.lookup f) (mA f)):PySem.Within mA (fs.map (·.1)):=λy a=>by
 cases q:fs.lookup y with
 | none=>exact absurd (gU.none_of (by rw[<-q];exact r y)) a
 | some v=>exact BG.mpr ⟨(y,v),BE q,rfl⟩
theorem mU(ha:PE X o ta)(V:PE X value tv)(U:swapsWith value (some (.Attribute o f pos')) pos.line X.env=pure false):PS X (.Assign [.Attribute o f pos'] value pos) (E_ X.K ta tv f):=by
 intro av s Z H D I h
 refine EX (cz (V av s Z H _ I h) λu s1 ⟨y,H1,I1,T,q⟩=>cz (ha av s1 Z H1 _ I1 q) λov F P=>?_) U
 obtain⟨x,H2,l,rx,a,W,C,ex,c,n,E⟩:=P
 subst ex
 obtain rfl:=rx
 rcases E with ⟨j,E⟩|⟨d,fs,j,M,hl,E⟩
 .obtain ⟨vs,L,h1⟩:=yG l.cj j
  refine _d.Xk l.ee c n L λh' m N p Q=>?_
  refine⟨Z,_,?_,E F.heap.objs.size (l.cj.fresh (AG _)) (CK (AE L))⟩
  have A:∀ b (u:Obj),H2 b=none->b≠a:=λb u z zz=>by simp_all
  have e:∀ b u,H2 b=some u->b≠F.heap.objs.size:=λb u z=>aW z (l.cj.fresh (AG _))
  have G:eh X.prog X.w (upd (upd H2 a _) F.heap.objs.size (.xd _)) h':=λb u z=>by
   by_cases S:b=F.heap.objs.size
   .subst S;rw[aI]at z;cases z
    refine⟨_,p,λg=>?_⟩
    show gU (List.lookup g [(f,y)]) _
    rw[BR]
    by_cases O:g=f
    .subst O;rw[AI rfl];simp only[DV];exact T
    .rw[AM O,C7 O];exact True.intro
   .rw[aE S]at z
    by_cases J:b=a
    .subst J;rw[aI]at z;cases z
     exact Iv N h1
    .rw[aE J]at z
     refine(l.cj b u z).d6 (λt v Y r=>Q t v ?_ r) (λt r=>?_) (λt xs r=>?_) λt xs r=>?_
     .rcases Y with R|R
      · ext
      · intro i; rw [i, j]at R; cases R
     .rw[aE (e t _ r),aE (λi=>by rw[i,j]at r;cases r)];exact r
     .rw[aE (e t _ r),aE (λi=>by rw[i,j]at r;cases r)];exact r
     .rw[aE (e t _ r),aE (λi=>by rw[i,j]at r;cases r)];exact r
  refine l.un (t':=m) ⟨λb k q n _ _=>Q b k (A b k n) q,λb k q n _ _=>⟨k.slots,Q b k (A b k n) q⟩,λb k q n _=>by rw[aE (A0 (AE q)),aE (A b k n)];exact n,λb k q _=>?_,λb xs q=>?_,λb k u' q=>?_,λb ps q=>?_⟩ G
  .grind
  .rw[aE (e b _ q),aE (λi=>by rw[i,j]at q;cases q)];exact q
  .rw[aE (e b _ q),aE (λi=>by rw[i,j]at q;cases q)];exact q
  .rw[aE (e b _ q),aE (λi=>by rw[i,j]at q;cases q)];exact q
 .obtain ⟨vs,L,h1⟩:=yG l.cj j
  obtain⟨mA,p,r⟩:=(show cI X.prog X.w H2 F.heap d (.xd fs)from l.cj d _ M)
  refine _d.Wb (ns:=fs.map (·.1)) l.ee c n L (λz=>by rw[z,j]at M;cases M) p (Xg r) (by rw[AL,CS];ext) λh' m B sb=>?_
  refine⟨Z,_,l.OC (t':=m) M sb ⟨_,B,λg=>?_⟩,E⟩
  show gU ((f9 f y fs).lookup g) (if g=f then some u else mA g)
  rw[o3]
  by_cases q:g=f
  .rw[AI q,AI q];exact T
  .grind
def HW(K:Frag)(ta:TE)(f:Str):TE:=λZ H Q=>ta Z H λx H1=>∃ a W C d fs v,x=.ref a/\_d.dy K W C/\findIn K (.ref C) f=some none/\H1 a=some (mv a C (some d))/\H1 d=some (.xd fs)/\fs.lookup f=some v/\Q v H1
theorem lB(m:PE X e ta)(hb:attributeBase e f X.env (eval e X.env)=eval e X.env):PE X (.Attribute e f pos) (HW X.K ta f):=by
 intro av s Z H Q I h
 refine MM hb (cz (m av s Z H _ I h) λu s1 j=>?_)
 obtain⟨x,H1,i,r,a,W,C,d,fs,v,ex,c,n,t,w,l,q⟩:=j
 subst ex
 obtain rfl:=r
 obtain⟨vs,o⟩:=pC i.cj t
 obtain⟨mA,g⟩:=((i.cj d _ w))
 obtain⟨od,k⟩:=lX g.1
 obtain⟨y,b⟩:=gU.some_of (by rw[<-l];exact g.2 f)
 obtain⟨cd,p⟩:=c.cls
 refine _d.UN i.ee c ⟨o,rfl,rfl,k.1⟩ (findObj_own (by unfold hasDictIn;simp_all) n rfl (by simp_all)) (Om b.2) ?_
 exact⟨v,H1,i.tok _,b.2,q⟩
end
inductive wo(K:Frag)(H:Hp):V->V9->Prop where
 | pl {x:V} {t:V9} (h:j_ K H x t):wo K H x t
 | exc {a W C:Az} {d:Az} {fs:List (Str×V)} (c:_d.dy K W C) (e:H a=some (mv a C (some d))) (ed:H d=some (.xd fs)):wo K H (.ref a) (.ref C)
 | z_ {a W C:Az} (c:_d.dy K W C) (e:H a=some (mv a C none)):wo K H (.ref a) (.ref C)
def sI:V->O9 V9
 | .ty n=>some (.type n)
 | .ref a=>some (.ref a)
 | _=>none
theorem zS{x:V}(h:sI x=some v)(r:aR x u):u=v:=by
 cases x with
 | ty n=>cases h;exact r
 | ref a=>cases h;exact r
 | _=>cases h
theorem eW{X:Cx}:gV X (.builtin "isinstance") (λxs H Q=>∃ x c t cv b,xs=[x,c]/\wo X.K H x t/\sI c=some cv/\kitOne X.K t cv=some b/\Q (.bl b) H):=by
 intro av s Z H xs us Q I r h
 obtain⟨x,c,t,cv,b,rfl,f,n,e,q⟩:=h
 obtain⟨u,v,rfl,g,m⟩:=uG r
 obtain rfl:=zS n m
 cases f with
 | pl f=>exact XB I g f e λl=>⟨.bl b,H,I.tok _,rfl,q⟩
 | @exc a W C d fs cc ea ed=>
  cases((g))
  obtain⟨vs,i⟩:=pC I.cj ea
  obtain⟨mA,k⟩:=((I.cj d _ ed))
  obtain⟨od,j⟩:=lX k.1
  exact _d.yF (o:=some od) I.ee cc ⟨i,rfl,rfl,j.1⟩ e λl=>⟨.bl b,H,I.tok _,rfl,q⟩
 | @z_ a W C cc ea=>
  cases((g))
  obtain⟨vs,i⟩:=pC I.cj ea
  exact _d.yF (o:=none) I.ee cc ⟨i,rfl,rfl,True.intro⟩ e λl=>⟨.bl b,H,I.tok _,rfl,q⟩
def Iu(C:Az)(vn:Sp)(E:XK)(ta:TA):TS:=λ_ Z H=>ta Z H λvs H1=>vs.length<=1000/\∀ e,H1 e=none->
 vn (.ref e::vs) (upd H1 e (uy e C none)) (λv H2=>v=.fg/\∃ od,H2 e=some (uy e C od)/\E (.ref C) (some e) (upd H2 e (mv e C od))) E0
section
variable{X:Cx}{E:XK}{W C fI:Az}{oq:FuncData}{ps:L9 Str}{vn:Sp}{k:Nat}{x:Str}{np d9 pos:Pos}{e0:Ez}{rest:L9 Ez}{ta:TA}
theorem qJ(R:X.calm=true)(c:_d.dy X.K W C)(hg:Gl X x)(hm:X.mg x=some (.ref C))(O:c5 X.prog X.w X.K X.mg X.base mw k fI oq ps vn)(hi:findIn X.K (.ref C) "__init__"=some (some (.ref fI)))
  (U:typeIn X.K (.ref fI)=some (.type "function")) (hb:cG X.K oq ps []) (hr:cw (k+1) X.A) (Y:PA (X.mf E) (e0::rest) ta) (B:autoParam ((x == ("__debug__":Str))=false) z5)
  (he:autoParam (starEach (e0::rest) X.env=(false,eval e0 X.env)::starEach rest X.env) z3) (gk:autoParam ((backTo d9 (starEach rest X.env)).any (·.1)=false) z3) :
  PS (X.mf E) (.Raise (some (.Call (.Name x np) (e0::rest) [] d9)) none pos) (Iu C vn E ta):=by
 intro av s Z H D I h
 obtain⟨nm,q,N,bs,sn,sub,ab,col,dd,k0,k1,k2,k3,k5,lk⟩:=c.lk
 have a:wpAny (model X.prog X.w) X.A (eval (.Call (.Name x np) (e0::rest) [] d9) X.env) (λv s1=>∃ e od vs,v=.ref e/\s1.heap.get? C=some (excClassObj nm q C N bs (.ref W::_d.kM) true sn sub ab col dd k0 k1 k2 k3 k5 "ValueError.__new__") /\
   s1.heap.get? e=some {cls:=.ref C,dict:=od,data:=.fields vs}/\vs[1]? = some .none/\vi X E (.ref e) s1) (vi X E) s:=by
  refine B2 (iC I.cx hg hm ?_ B)
  refine B3 I.ok.mod.jy c.kp (cz (Y d9 av s Z H _ I h) λus s1 ⟨vs,H1,n,r,hz,P⟩=>⟨n.ee,?_⟩) he gk
  have m:=n.cx
  obtain⟨S,g,d,tk,os⟩:=s1
  have F:us.length<=sizeLine:=by rw[<-r.length,CS];ext
  refine _d.NN DK (_d.wN W) m.ee (m.ee _ _ lk) hi U (λh' e l f=>?_) F
  obtain⟨t,G⟩:=l.there
  have y:=m.laid (t':=tk) l.keeps f (Iv G.1 rfl)
  have r2:aX (V.ref e::vs) _:=.cons rfl r
  have T:(Value.ref e::us++[]).length=ps.length:=by
   have z:=r2.length
   rw[O.len _ _ _ _ (P e (m.cj.fresh f))]at z
   ext
  have Q:=hb _ _ y.ee T
  rw[CO]at Q
  refine DO (DF (O.run _ X.stack _ _ _ _ _ _ E0 (hr.make C us []) (y.ue.make C us []) Q r2 (P e (m.cj.fresh f))) λo s' M=>?_)
  cases o with
  | error e=>exact False.elim M
  | ok fl=>
   cases fl with
   | next=>assumption
   | brk=>assumption
   | cont=>assumption
   | ret u=>
    obtain⟨v,H3,L,rv,ev,od,J⟩:=y.after M
    subst ev
    obtain⟨j,i⟩:=yG L.cj J.1
    refine⟨rv,e,od,j,rfl,L.ee _ _ lk,i.1,i.2,?_⟩
    exact⟨e,C,od,Z,_,rfl,((((L.write (x:=e) (e:=e) (by rw[J.1];exact True.intro) (.inl rfl) (λb u _ z=>z) ⟨_,i.1⟩ (pB i.1)))).ez λp S=>absurd S (by simp)),⟨aI,j,none,i.1,i.2,(λt z=>nomatch z),(λz=>nomatch z)⟩,J.2⟩
 show wpAny (model X.prog X.w) X.A (exec (.Raise (some (.Call (.Name x np) (e0::rest) [] d9)) none pos) X.env) _ (vi X E) s
 rw[arm_exec_Raise]
 first
  | refine AA (CZ (_d.qH (_d.wN W) (I.ok.hd R) (AA (BI a (λv s1 h1=>AA (CZ (AC h1))) λ_ _ z=>z))))
  | (simp only[evalOpt,Option.map];refine AA (CZ (_d.qH (_d.wN W) (I.ok.hd R) (AA (BI a (λv s1 h1=>AA (CZ (AC h1))) λ_ _ z=>z)))))
end
end _a
variable{fr:L9 Str}
namespace _d
open PySem.W
structure f_(K:Frag)(C:Az)(bm:List V9):Prop where
 lk:∃ nm q N bs hd sn sub ab col dd k0 k1 k2 k3 k5 newId,K.lookup C=some (excClassObj nm q C N bs bm hd sn sub ab col dd k0 k1 k2 k3 k5 newId)
 base:bm.contains (.type "BaseException")=true
theorem dy.any(c:dy K W C):f_ K C (.ref W::kM):=by
 obtain⟨nm,q,N,bs,sn,sub,ab,col,dd,k0,k1,k2,k3,k5,e⟩:=c.lk
 exact⟨⟨_,_,_,_,_,_,_,_,_,_,_,_,_,_,_,_,e⟩,(wN W).hasBase⟩
theorem Yh{M:Model}{A:U9}{a b:L9 V9}{h:Obj}{Q:Bool->S9->Prop}(X:K.In s.heap)(c:f_ K C a)(w:f_ K W b)
  (r:s.heap.get? e=some h) (d:h.cls=.ref C) (i:Q ((Value.ref C::a).contains (.ref W)) s):wpAny M A (excMatches (.ref e) (.ref W)) Q E s:=by
 obtain⟨nm,q,N,bs,L,sn,sub,ab,col,dd,k0,k1,k2,k3,k5,G,y⟩:=c.lk
 obtain⟨H,P,O,v,B,o,l,J,m,F,n,t,p,I,D,j,u⟩:=w.lk
 have z:=X _ _ y
 have k:=X _ _ u
 have g:(Value.ref W::b).contains (.type "BaseException")=true:=by rw[DG,w.base,GA]
 have f:=tc_notTuple
 repeat (first|(with_reducible refine D6 r ?_;rw[d])|with_reducible refine D6 k ?_|(with_reducible refine DC k ?_;rw[g])|with_reducible refine DC z ?_|wp_step)
 cases x:(Value.ref C::a).contains (.ref W)<;>(rw[x]at i;wp_walk;exact i)
end _d
variable{np ql:Pos}{ds:L9 Dz}
namespace _a
variable{H:Hp}{es:L9 Ez}
abbrev Cx.qd(X:Cx)(pn:L9 (Az×Obj)):Cx:={X with pn:=pn}
noncomputable abbrev Cx.sm(X:Cx)(e:Az):Cx:={X with A:=X.A.mark (some (.ref e)),calm:=false,xe:=λ_ _=>False}
section
variable{X:Cx}{av:L9 (Az×Obj)}{Z:St}{H:Hp}{s:S9}{e:Az}
theorem Cx.Ok.qd{X:Cx}(ok:X.Ok)(pn:L9 (Az×Obj)):(X.qd pn).Ok:=
 ⟨ok.mod,ok.kind,ok.glob,ok.blt,ok.above,ok.inj,ok.has,ok.vx,ok.hd,ok.frames,ok.w5,ok.z6,ok.bs,ok.qh,ok.n3,ok.pj,ok.g_,ok.ro⟩
theorem Cx.Ok.Fq{X:Cx}{pn:L9 (Az×Obj)}(ok:(X.qd pn).Ok):X.Ok:=
 ⟨ok.mod,ok.kind,ok.glob,ok.blt,ok.above,ok.inj,ok.has,ok.vx,ok.hd,ok.frames,ok.w5,ok.z6,ok.bs,ok.qh,ok.n3,ok.pj,ok.g_,ok.ro⟩
theorem Inv.Fu(I:Inv X av Z H s):Inv (X.qd (X.pn++av)) [] Z H s:=
 ⟨I.ok.qd _,I.os,I.bare,I.base,I.loc,I.cell,I.free,I.ek,λp a=>I.pin p (by
  simp_all),I.cj,I.len⟩
theorem Inv.my(I:Inv (X.qd (X.pn++av)) pl Z H s):Inv X av Z H s:=
 ⟨I.ok.Fq,I.os,I.bare,I.base,I.loc,I.cell,I.free,I.ek,λp a=>I.pin p (C6 _ a),I.cj,I.len⟩
theorem SP.my{D:iL}{f:Flow}(h:SP ((X.qd (X.pn++av)).gw E) pl D f s'):SP X av D f s':=by
 cases f with
 | next=>obtain⟨a,b,c,d⟩:=h;exact⟨a,b,c.cx.my,d⟩
 | brk=>obtain⟨a,b,c,d⟩:=h;exact⟨a,b,c.cx.my,d⟩
 | cont=>obtain⟨a,b,c,d⟩:=h;exact⟨a,b,c.cx.my,d⟩
 | ret u=>obtain⟨v,a,b,c⟩:=h;exact⟨v,a,b,c.1.cx.my,c.2⟩
theorem Cx.Ok.sm{X:Cx}(ok:X.Ok)(e:Az):(X.sm e).Ok:=
 ⟨ok.mod,ok.kind,ok.glob,ok.blt,ok.above,ok.inj,ok.has,ok.vx,(λz=>nomatch z),ok.frames,ok.w5,ok.z6,ok.bs,ok.qh,ok.n3,ok.pj,ok.g_,ok.ro⟩
theorem Inv.sm(I:Inv X av Z H s)(e:Az):Inv (X.sm e) av Z H s:=
 ⟨I.ok.sm e,I.os,I.bare,I.base,I.loc,I.cell,I.free,I.ek,I.pin,I.cj,I.len⟩
theorem Inv.Ce(ok:X.Ok)(I:Inv (X.sm e) av Z H s):Inv X av Z H s:=
 ⟨ok,I.os,I.bare,I.base,I.loc,I.cell,I.free,I.ek,I.pin,I.cj,I.len⟩
theorem n6{n:Str}{l:Pos}{M:Model}{A:U9}{D:V9->S9->Prop}(I:Inv X av Z H s)(K:X.N.Nodup)(hi:X.N[i]? = some n)(O:X.env.kindOf n=some .local)
  (h:∀ s',Inv X av (Z.set i none) H s'->Q () s'):wpAny M A (do bindName X.env n .none;unbindBehindTheSuite X.env n l) Q D s:=by
 obtain⟨m,B⟩:=id I.loc
 refine wpAny_nameGoes_keeps O B.1 (by rw[I.ok.kind];rfl) λh' v r a=>h _ ?_
 have d:∀ b o,X.s₀.heap.get? b=some o->b≠X.env.locals:=λb o e=>A0 (AX (AE e) I.ok.above)
 refine⟨I.ok,I.os,I.bare,⟨λb o e n u g=>(a.2 b (d b o e)).trans (I.base.keep b o e n u g),λb o e n u g=>?_,I.base.free,λb o e g=>?_,I.base.ib,I.base.hB,I.base.gx⟩,⟨_,r,λj y E e1 e2 J=>?_⟩,λy c e=>?_,I.free,I.ek,λp L=>?_,λb F e=>?_,by simpa using I.len⟩
 .obtain ⟨sl,e1⟩:=I.base.slot b o e n u g
  exact⟨sl,(a.2 b (d b o e)).trans e1⟩
 .obtain ⟨o',e1⟩:=I.base.there b o e g
  exact⟨o',(a.2 b (d b o e)).trans e1⟩
 .by_cases t:j=i
  .subst t
   have x:j < Z.length:=by rw[I.len];exact(AH.mp hi).1
   simp_all
  .rw[A1 (BD t)]at e2
   obtain⟨G,C⟩:=B.2 j y E e1 e2 J
   refine⟨G,C.1,?_⟩
   rcases C.2 with ⟨k,e⟩|⟨k,c,e,z⟩
   .refine .inl ⟨k,?_⟩
    have:y≠n:=λe=>t (wJ K e1 (e▸hi))
    simp_all
   .exact .inr ⟨k,c,e,z.sameBut a (I.wg y c e)⟩
 .obtain ⟨w,z⟩:=I.cell y c e
  exact⟨w,z.sameBut a (I.wg y c e)⟩
 .have e:=I.pin p L
  exact⟨(a.2 p.1 e.2.2.1).trans e.1,e.2.1,e.2.2.1,e.2.2.2.1,e.2.2.2.2⟩
 .refine (I.cj b F e).d6 (λc w f q=>(a.2 c ?_).trans q) (λ_ q=>q) (λ_ _ q=>q) λ_ _ q=>q
  rintro rfl
  rcases f with f|f
  .rw[<-f,I.free]at e;ext
  .rw[I.free]at f;ext
end
section
variable{X:Cx}
theorem Xf(m:X.calm=true):gV X (.builtin "all") (λxs H Q=>∃ (a:Az) (bs:L9 Bool),xs=[.ref a]/\d_ X.K H a (bs.map V.bl)/\Q (.bl (bs.all id)) H):=by
 intro av s Z H xs us Q I r h
 obtain⟨a,bs,rfl,k⟩:=h
 obtain⟨u,rfl,t⟩:=n5 r
 cases((t))
 obtain⟨c,d⟩:=I.list k.1
 have l:c.length=bs.length:=by rw[<-d.1.length,AL]
 refine call_all_walk (EN d.2.1.isList ?_)
 have w:a≠s.heap.objs.size:=by
  obtain⟨o,e⟩:=d.2.1.isList
  exact A0 (AE e.1)
 refine⟨_,_,_,_,_,_,λi=>bs.getD i true,rfl,Walks.list (show X.A.in1.handled=none from I.ok.hd m) s.heap.objs.size a w c.toArray,⟨⟨_,AN _ rfl,rfl,rfl⟩,d.2.1.isList.at λo e=>AB _ e⟩,?_,?_⟩
 .intro i v s' F B q C
  have hi:=by simpa using q
  have f:i < bs.length:=by rw[<-l];exact(AH.mp hi).1
  have y:(bs.map V.bl)[i]? = some (V.bl bs[i]):=by simp[f]
  obtain⟨E,j,g⟩:=d.1.get y
  rw[hi]at j;cases j
  cases((g))
  refine DM ?_
  simp_all
 .intro h' D p
  have e:(range c.toArray.size).all (λi=>bs.getD i true)=bs.all id:=by
   rw[CH,l,Bool.eq_iff_iff,B7,B7]
   constructor
   .intro h x n
    obtain⟨i,hi,rfl⟩:=EB.mp n
    simp_all
   .intro h i hi
    rw[BO,AJ (B9.mp hi)]
    exact h _ (DW _)
  rw[e]
  refine⟨.bl _,H,?_,rfl,k.2⟩
  exact I.kept λb o e=>p b o (λz=>by
   have:=AE e
   simp_all) (AB _ e)
end
structure jv(K:Frag)(mg:Str->Option V9)(x:Str)(st:Stmt)(ps:List Str):Prop where
 ex:∃ f fd,jt K x x st f fd/\cG K fd ps []/\mg x=some (.ref f)
def Calls(P:P9)(w:W9)(K:Frag)(mg:Str->O9 V9)(base:Hz)(CX:nr)(k:Nat)(x:Str)(ps:L9 Str)(sp:Sp):Prop:=
 ∃ f fd,c5 P w K mg base CX k f fd ps sp/\cG K fd ps []/\mg x=some (.ref f)/\keepIn K (.ref f)=true
section
variable{P:P9}{w:W9}{K:Frag}{mg:Str->O9 V9}{base:Hz}{x:Str}{st:Stmt}{N ps:L9 Str}{k:Nat}{sp:Sp}
theorem jv.ok(D:jv K mg x st ps)(S:cb N ps (aD st))(len:∀ vs H Q E,sp vs H Q E->vs.length=ps.length)
  (a:∀ (f:Az) (c_:V9) (A:U9) (outer:L9 Env) (s:S9) (H:Hp) (vs:L9 V) (Q:VK) (E:XK),cw k (A.deeper (envOfC x (aD st) s.heap.objs.size f c_))->sp vs H Q E->
   ∃ t,ix (cR mw P w K mg base N x (aD st) f c_ A outer s H E).oD (aT st) t/\t {nx:=λ_ H'=>Q .fg H',rt:=Q} (start N vs) H):Calls P w K mg base mw (k+1) x ps sp:=by
 obtain⟨f,fd,F⟩:=D.ex
 exact⟨f,fd,F.1.ok S len (a f),F.2.1,F.2.2,F.1.kp⟩
theorem jv.xc(D:jv K mg x st ps)(S:cb N ps (aD st))(len:∀ vs H Q E,sp vs H Q E->vs.length=ps.length)
  (a:∀ (f:Az) (c_:V9) (A:U9) (outer:L9 Env) (s:S9) (H:Hp) (vs:L9 V) (Q:VK) (E:XK),cw k (A.deeper (envOfC x (aD st) s.heap.objs.size f c_))->sp vs H Q E->
   ∃ t,ix ((cR (d4 P w) P w K mg base N x (aD st) f c_ A outer s H E).mf E) (aT st) t/\t {nx:=λ_ H'=>Q .fg H',rt:=Q} (start N vs) H):Calls P w K mg base (d4 P w) (k+1) x ps sp:=by
 obtain⟨f,fd,F⟩:=D.ex
 exact⟨f,fd,F.1.xc S len (a f),F.2.1,F.2.2,F.1.kp⟩
theorem Calls.imp{CX:nr}{a:Sp}(C:Calls P w K mg base CX k x ps sp)(h:∀ vs H Q E,a vs H Q E->sp vs H Q E):Calls P w K mg base CX k x ps a:=by
 obtain⟨f,fd,F⟩:=C
 exact⟨f,fd,F.1.imp h,F.2.1,F.2.2.1,F.2.2.2⟩
end
section
variable{X:Cx}{CX:nr}{k:Nat}{x:Str}{ps:L9 Str}{sp:Sp}{E:XK}{p pos:Pos}{e:Ez}{es:L9 Ez}{t:TA}
theorem Ey(C:Calls X.prog X.w X.K X.mg X.base CX k x ps sp)(hr:cw k X.A)(b:Gl X x)(hx:fR CX X E)(c:PA X (e::es) t)(a:autoParam ((x == ("__debug__":Str))=false) z5)
  (he:autoParam (starEach (e::es) X.env=(false,eval e X.env)::starEach es X.env) z3) (gk:autoParam ((backTo pos (starEach es X.env)).any (·.1)=false) z3):PE X (.Call (.Name x p) (e::es) [] pos) (uI sp [] E t):=by
 obtain⟨f,fd,F⟩:=C
 exact Ve F.1 hr b F.2.2.1 F.2.2.2 F.2.1 .nil hx c a he gk
end
def vn(C:Az)(fs:L9 Str):Sp:=λvs H Q _=>∃ e xs,vs=.ref e::xs/\xs.length=fs.length/\H e=some (uy e C none)/\∀ d,H d=none->d≠e->Q .fg (upd (upd H e (uy e C (some d))) d (.xd (fs.zip xs)))
structure ju(P:Program)(w:World)(K:Frag)(mg:Str->Option V9)(base:Heap)(x:Str)(fs:List Str)(W C:Az):Prop where
 c:_d.dy K W C
 m:mg x=some (.ref C)
 na:∀ f∈fs,findIn K (.ref C) f=some none
 i:∃ fI oq,c5 P w K mg base mw 1 fI oq ("self"::fs) (vn C fs)/\findIn K (.ref C) "__init__"=some (some (.ref fI))/\typeIn K (.ref fI)=some (.type "function")/\cG K oq ("self"::fs) []
theorem V_{b:Az}{o u:HO}(h:a≠b):upd (upd H a o) b u=upd (upd H b u) a o:=by
 funext c
 unfold upd
 ext
theorem Og{X:Cx}{E:XK}{fs:L9 Str}{d9 pos:Pos}{e0:Ez}{rest:L9 Ez}{ta:TA}(g:X.calm=true)(b:ju X.prog X.w X.K X.mg X.base x fs W C)(f:Gl X x)(hr:cw 2 X.A)(e:PA (X.mf E) (e0::rest) ta)
  (d:autoParam ((x == ("__debug__":Str))=false) z5) (he:autoParam (starEach (e0::rest) X.env=(false,eval e0 X.env)::starEach rest X.env) z3) (gk:autoParam ((backTo d9 (starEach rest X.env)).any (·.1)=false) z3) :
  PS (X.mf E) (.Raise (some (.Call (.Name x np) (e0::rest) [] d9)) none pos) (Iu C (vn C fs) E ta):=by
 obtain⟨fI,oq,a⟩:=b.i
 exact qJ g b.c f b.m a.1 a.2.1 a.2.2.1 a.2.2.2 hr e d he gk
theorem yI{fs:L9 Str}{vs:L9 V}{E:XK}{H1:Hp}(c:vs.length=fs.length)(g:vs.length<=1000)
  (h:∀ e d,H1 e=none->H1 d=none->d≠e->E (.ref C) (some e) (upd (upd H1 e (mv e C (some d))) d (.xd (fs.zip vs)))) :
  vs.length<=1000/\∀ e,H1 e=none->vn C fs (.ref e::vs) (upd H1 e (uy e C none)) (λv H2=>v=.fg/\∃ od,H2 e=some (uy e C od)/\E (.ref C) (some e) (upd H2 e (mv e C od))) E0:=by
 refine⟨g,λe b=>⟨e,vs,rfl,c,aI,λd f a=>⟨rfl,some d,?_,?_⟩⟩⟩
 .rw[aE (BD a),aI]
 .have:=h e d b (by rw[aE a]at f;ext) a
  rw[kB,V_ a,kB]
  ext
theorem b5.dz{v:V}(h:b5 K H v (.tuple ds)):∃ a xs,v=.ref a/\fq K H a xs/\a_ K H xs ds:=by
 cases h with
 | tup h1 h2=>exact⟨_,_,rfl,h1,h2⟩
theorem b5.d3{v:V}(h:b5 K H v (.list ds)):∃ a xs,v=.ref a/\d_ K H a xs/\a_ K H xs ds:=by
 cases h with
 | lst h1 h2=>exact⟨_,_,rfl,h1,h2⟩
theorem b5.cA{v:V}{i:Int}(h:b5 K H v (.int i)):v=.int i:=by cases h;rfl
theorem b5.df{v:V}{i:Str}(h:b5 K H v (.str i)):v=.str i:=by cases h;rfl
theorem a_.cons_of{xs:L9 V}{d:Dz}(h:a_ K H xs (d::ds)):∃ x t,xs=x::t/\b5 K H x d/\a_ K H t ds:=by
 cases h with
 | cons h1 h2=>exact⟨_,_,rfl,h1,h2⟩
theorem a_.nil_of{xs:L9 V}(h:a_ K H xs []):xs=[]:=by cases h;rfl
theorem dZ.nil:dZ [] []:=⟨rfl,λ_ _ h=>by ext⟩
theorem dZ.nil_of{Z:St}(h:dZ [] Z):Z=[]:=GH.mp h.1
def Y5(K:Frag)(H:Hp)(a:Az)(xs:L9 V):Prop:=d_ K H a xs\/fq K H a xs
theorem PI.or{X:Cx}{tg a:Ez}{w1 w2:TI}(h1:PI X tg a w1)(h2:PI X tg a w2):PI X tg a (λZ H R=>w1 Z H R\/w2 Z H R):=λav s Z H R I h=>h.elim (h1 av s Z H R I) (h2 av s Z H R I)
def YR(K:Frag)(tl:TE):TI:=λZ H R=>tl Z H λx H1=>∃ a,x=.ref a/\(((∃ xs,d_ K H1 a xs)/\R (Br K a) H1)\/((∃ xs,fq K H1 a xs)/\R (Jb K a) H1))
theorem Lv{X:Cx}{tg l:Ez}{tl:TE}(n:PE X l tl):PI X tg l (YR X.K tl):=by
 intro av s Z H R I h
 refine cz (n av s Z H _ I h) λv s1 d=>?_
 obtain⟨x,H1,c,r1,k⟩:=d
 obtain⟨a,e,q⟩:=k
 subst e
 cases r1
 rcases q with ⟨⟨xs,g⟩,q⟩|⟨⟨xs,g⟩,q⟩
 .obtain ⟨i,j,p,m⟩:=c.list g
  refine EN p.isList ?_
  refine⟨s1.heap.objs.size,[s1.heap.objs.size],_,_,H1,rfl,c.kept λb o e=>AB _ e,Oq a _,⟨_,AN _ rfl,rfl,rfl⟩,λb f=>?_,q⟩
  obtain rfl:=AS.mp f
  exact c.me (AG _) (c.cj.fresh (AG _))
 .obtain ⟨i,j,p,m⟩:=c.tuple g
  refine wpAny_pyIter_tuple ((p)) ?_
  refine⟨s1.heap.objs.size,[s1.heap.objs.size],_,_,H1,rfl,c.kept λb o e=>AB _ e,X_ a _,⟨_,AN _ rfl,rfl,rfl⟩,λb f=>?_,q⟩
  obtain rfl:=AS.mp f
  exact c.me (AG _) (c.cj.fresh (AG _))
def PY(i j:Int):Prop:=0 < j/\j < 2 ^ 64
theorem V8{X:Cx}:e_ X (binaryOp .FloorDiv) (rI PY λi j=>.int (i / j)):=Cd λi j _ _ _ _ _ a q=>by
 have h1:=a.1
 have h2:=a.2
 have b:j.natAbs < 2 ^ 64:=by ext
 have c:=(Nat.log2_lt (by ext)).mpr b
 exact floordiv_int (by ext) (by rw[Int.fdiv_eq_ediv_of_nonneg i (by ext)];ext) (.inl (PyProof.noPylong_of_log2 (by ext)))
theorem HV{X:Cx}{w:W9}:fR (d4 P w) X E0:=by
 rintro av Z H s a s' I ⟨e,C,od,H',rfl,os,bare,un,cj,he,hv,q⟩
 ext
section
variable{X:Cx}
def YQ:V->O9 Int->O9 Int->Hp->VK->Prop:=λx lo hi H Q=>∃ z,x=.str z/\z.length<=sizeLine/\Q (.str (Txt.slice z lo hi)) H
theorem MH{o:O9 Int}(h:IsPart v o):∃ l:O9 (Int×Tok),partValue l=v/\l.map (·.1)=o:=by
 cases h with
 | none=>exact⟨none,rfl,rfl⟩
 | int i t=>exact⟨some (i,t),rfl,rfl⟩
theorem RO:Bl X YQ:=by
 intro av s Z H x v m k lo hi sl Q I g f d c h
 obtain⟨z,rfl,e,q⟩:=h
 obtain⟨t,rfl⟩:=g
 obtain⟨l,rfl,i⟩:=MH d
 obtain⟨u,rfl,j⟩:=MH c
 obtain⟨o,a⟩:=f
 refine⟨"str",_,PyProof.Rows.slot_str_getitem.lookup,rfl,?_⟩
 refine wpAny_getItem_str_slice (st:=none) ⟨o,a.1,a.2.1,a.2.2⟩ rfl ?_
 have le:=Txt.slice_le z lo hi
 unfold Txt.slice at q le
 unfold sliceMade slicePicked
 rw[i,j]
 simp only[DV,GY,Option.map_none,Option.getD_none]at q le ⊢
 by_cases b:((Builtin.Str.strSliceIndices lo hi 1 z.length).length == z.length)=true
 .rw[AI b]at q ⊢
  exact⟨.str z,H,I,⟨t,rfl⟩,q⟩
 .rw[AM b]at q le ⊢
  exact⟨A6 le e,.str _,H,I.tok _,⟨_,rfl⟩,q⟩
def Lu:V->L9 V->Hp->VK->Prop:=λx vs H Q=>∃ z y i rest,x=.str z/\vs=[.str y]/\Builtin.Str.occurrences z y 0 z.length 1=i::rest/\Q (.int i) H
theorem V7:Fj X "str.index" Lu:=by
 intro av s Z H x vs v us Q I b d h
 obtain⟨z,y,i,rest,rfl,rfl,a⟩:=h
 obtain⟨t,rfl⟩:=b
 obtain⟨u,rfl,c,rfl⟩:=d.one
 exact call_gives F.slot_str_index rfl F.entry_str_index (F.args_str_index_2 _ _) (gives_str_index z y t c i rest a.1) ⟨.int i,H,I.tok _,⟨_,rfl⟩,a.2⟩
def Ja(z:Str):It:=
 ⟨λi _=>i < z.cps.size,λi H x H'=>∃ p c,H p=none/\x=.ref p/\H'=upd H p (.tup [.int i,.str ⟨#[c]⟩])/\z.cps[i]? = some c,λi _=>i=z.cps.size⟩
theorem Ya{w:W9}{k1}(z:Str)(t:Tok)(T:String)(hT:∀ A:U9,A.handled=none->∀ it,Draws P w A it [it] z.cps.size (λi v=>∃ c u,z.cps[i]? = some c/\v=Value.str {cps:=#[c]} u) λi h=>h.IsStrIter it T z t i)
  (e it:Az) (Gv:e≠it):Turn P w K (.Tuple es k1 ql) (Ja z) [e,it] e (λi h=>(∃ f,IsEnum h e it i f)/\h.IsStrIter it T z t i) where
 mem:=by simp
 obj:=λi h st b y=>by
  obtain⟨⟨f,s1⟩,o,e2,c,d⟩:=st
  ext
 keep:=λi h h' st k=>by
  obtain⟨⟨f,s1⟩,o,e2,c,d⟩:=st
  exact⟨⟨f,k e (by simp) _ s1⟩,o,k it (by simp) o e2,c,d⟩
 item:=by
  intro X Q V R a i av s Z H E I D st C
  subst Q V R
  obtain⟨⟨f,s1⟩,F⟩:=st
  obtain⟨f0,f1,f2,f3,f4,f5⟩:=D e (by simp)
  obtain⟨W,L,g2,g3,g4,g5⟩:=D it (by simp)
  refine wpAny_pyNext_enum_itemD (hT X.A.in1 (I.ok.hd a) it) s1 F C Gv (by simpa using Gv) λu h' N O so si st aa kp=>?_
  obtain⟨c,tc,G,hu⟩:=O
  subst hu
  refine⟨_,rfl,FH so λh2 se S=>?_⟩
  have p:s.heap.objs.size≠e:=CK (AE s1)
  have J:h2.get? s.heap.objs.size=some {cls:=.type "tuple",data:=.seq #[.int i N,.str ⟨#[c]⟩ tc]}:=(S.2 _ p).trans st
  have M:H s.heap.objs.size=none:=I.cj.fresh (AG _)
  have g:∀ b o,b≠e->b≠it->s.heap.get? b=some o->h2.get? b=some o:=λb o h1 Y q=>(S.2 b h1).trans (kp b o h1 Y q)
  have l:eh X.prog X.w H h2:=λb B q=>by
   refine(I.cj b B q).d6 (λc v a q'=>g c v ?_ ?_ q') (λ_ q=>q) (λ_ _ q=>q) λ_ _ q=>q
   .grind
   .grind
  have x:eh X.prog X.w (upd H s.heap.objs.size (.tup [.int i,.str ⟨#[c]⟩])) h2:=eh.rf l M ⟨by show 2<=sizeLine;decide,[.int i N,.str ⟨#[c]⟩ tc],.cons ⟨_,rfl⟩ (.cons ⟨_,rfl⟩ .nil),⟨_,J,⟨rfl,rfl⟩,_,rfl⟩⟩
  have j:∀ b B,H b=some B->b≠s.heap.objs.size:=λb B q=>aW q M
  have I2:Inv X av Z (upd H s.heap.objs.size (.tup [.int i,.str ⟨#[c]⟩])) {s with heap:=h2,gens:=s.gens,drawn:=s.drawn,toks:=N+1}:=by
   refine I.step (ch:=[e,it]) (λb y=>?_) (λb o _ _ a q _=>g b o (λz=>a (by simp[z])) (λz=>a (by simp[z])) q) (λb o _ _ a q _=>⟨o.slots,g b o (λz=>a (by simp[z])) (λz=>a (by simp[z])) q⟩)
    (λb o _ q n=>by rw[aE (A0 (AE q))];exact n) (λb o a q=>⟨o,g b o (λz=>a (by simp[z])) (λz=>a (by simp[z])) q⟩) (λb ys q=>by rw[aE (j b _ q)];exact q) (λb o B q=>by rw[aE (j b _ q)];exact q)
    (λb ps q=>by rw[aE (j b _ q)];exact q) (λm hm=>?_) x I.bare
   .grind
   .obtain ⟨o,U,ep,ho,r⟩:=hm
    exact⟨o,U,ep,g _ o (BD f1) (BD L) ho,r⟩
  refine⟨.ref s.heap.objs.size,_,I2,rfl,⟨_,c,M,rfl,rfl,G⟩,⟨⟨_,by simpa using se⟩,?_⟩,λb y=>?_⟩
  .obtain ⟨o,q1,q2,q3⟩:=si
   exact⟨o,(S.2 it Gv.symm).trans q1,q2,q3⟩
  .rcases AQ.mp y with z|z
   .subst z;rw[aE (BD p)];exact f0
   .obtain rfl:b=it:=by simpa using z
    obtain⟨o,q,_⟩:=F
    rw[aE (A0 (AE q))];exact W
 done:=by
  intro X Q V R a i av s Z H E I D st C
  subst Q V R
  obtain⟨⟨f,s1⟩,F⟩:=st
  obtain⟨W,L,g2,g3,g4,g5⟩:=D it (by simp)
  have C:i=z.cps.size:=C
  subst C
  exact wpAny_pyNext_enum_endD (hT X.A.in1 (I.ok.hd a) it) s1 F λh' eb=>⟨rfl,I.turned (t':=s.toks) (λb o y q=>eb b o y q) W L g3 g4 g5⟩
 self:=λ_ _ _ _ _ st h=>EO st.1.choose_spec h
def Ls(ta:TA):TI:=λZ H R=>ta Z H λvs H1=>∃ z,vs=[.str z]/\R (Ja z) H1
theorem V6{k1}{a:Ez}{ta:TA}{p pos:Pos}(r:Gl X "enumerate")(y:X.mg "enumerate"=none)(n:PA X [a] ta)(o:autoParam (starEach [a] X.env=[(false,eval a X.env)]) z3) :
  PI X (.Tuple es k1 ql) (.Call (.Name "enumerate" p) [a] [] pos) (Ls ta):=by
 intro av s Z H R I h
 refine Call_ (m7 I r y FA (CW (cz (n pos av s Z H _ I h) λus s1 f=>?_) o rfl))
 obtain⟨vs,H1,d,r1,m⟩:=f
 obtain⟨z,e,q⟩:=m
 subst e
 obtain⟨u,rfl,t,rfl⟩:=n5 r1
 have l:∀ A:U9,A.handled=none->∀ it,Draws X.prog X.w A it [it] z.cps.size (λi v=>∃ c u,z.cps[i]? = some c/\v=Value.str {cps:=#[c]} u) λi h=>h.IsStrIter it (strIterType z) z t i:=λA g it=>by
  unfold strIterType
  split
  · exact Draws.strAscii g it z t
  · exact Draws.strWide g it z t
 refine call_enumerate_str λh' j B k x=>?_
 refine EO j ?_
 refine⟨s1.heap.objs.size+1,[s1.heap.objs.size+1,s1.heap.objs.size],_,_,H1,rfl,(d.kept (t':=s1.toks) x),Ya z t _ l _ _ (CK (DT _)),⟨⟨_,j⟩,B⟩,λb C=>?_,q⟩
 rcases AQ.mp C with z|z
 .subst z
  exact d.me (DP _) (d.cj.fresh (DP _))
 .obtain rfl:=by simpa using z
  exact d.me (AG _) (d.cj.fresh (AG _))
def YP(K:Frag):L9 V->Hp->VK->Prop:=λxs H Q=>∃ (a W C d:Az) (fs:L9 (Str×V)) (p:Az) (as:L9 Az) (b:Bool),xs=[.ref a,.ref p]/\_d.dy K W C/\H a=some (mv a C (some d))/\H d=some (.xd fs)/\fq K H p (as.map V.ref)/\kitAny K (.ref C) (as.map Value.ref)=some b/\Q (.bl b) H
theorem sJ:∀ {as:L9 Az} {us:L9 V9},aX (as.map V.ref) us->us=as.map Value.ref
 | [],_,.nil=>rfl
 | a::as,_,.cons r t=>by rw[sJ t];cases r;rfl
theorem Yo:gV X (.builtin "isinstance") (YP X.K):=by
 intro av s Z H xs us Q I r h
 obtain⟨a,W,C,d,fs,p,J,b,rfl,t,x,y,w,e,q⟩:=h
 obtain⟨u,v,rfl,B,A⟩:=uG r
 cases((B))
 cases((A))
 obtain⟨vs,l⟩:=pC I.cj x
 obtain⟨mA,c⟩:=((I.cj d _ y))
 obtain⟨od,i⟩:=lX c.1
 obtain⟨m,r1⟩:=I.tuple w
 obtain⟨⟨G,D,g,j⟩,E,k,n,f⟩:=r1.2.1
 cases((k))
 cases((f))
 rw[<-sJ r1.1]at e
 exact kia_tup (_d.wO (o:=some od) t) I.ee ⟨l,rfl,rfl,i.1⟩ E e (λz=>nomatch z) λF=>⟨.bl b,H,I.tok _,rfl,q⟩
end
theorem Yn{X:Cx}:gV X (.builtin "isinstance") (λxs H Q=>∃ a ys c cv b,xs=[.ref a,c]/\fq X.K H a ys/\sI c=some cv/\kitOne X.K (.type "tuple") cv=some b/\Q (.bl b) H):=by
 intro av s Z H xs us Q I r h
 obtain⟨a,ys,c,cv,b,rfl,d⟩:=h
 obtain⟨u,v,rfl,f,e⟩:=uG r
 obtain rfl:=zS d.2.1 e
 cases((f))
 obtain⟨g,_,⟨o,h1,h2,_⟩,_⟩:=I.tuple d.1
 exact B5 kitx_tuple I.ee ⟨o,h1,h2⟩ d.2.2.1 (λz=>nomatch z) λi=>⟨.bl b,H,I.tok _,rfl,d.2.2.2⟩
structure wq(k:Nat)(A:Around):Prop where
 dp:A.depth+3 * k+5 < recursionLimit
 un:A.units+16 * k+200 < cLine
theorem cw.h{A:U9}(r:cw k A):wq k A:=⟨r.dp,r.un⟩
structure wt(P:Program)(w:World)(K:Frag)(mg:Str->Option V9)(base:Heap)(k:Nat)(f:Az)(fd:FuncData)(ps:List Str)(sp:Sp):Prop where
 len:∀ vs H Q E,sp vs H Q E->vs.length=ps.length
 run:∀ (A:Around) (outer:List Env) (s:S9) (H:Hp) (args:Args) (us:List V9) (vs:List V) (Q:VK),wq k A->kr P w K mg base A outer s H->BindsTo s fd args (ps.zip us)->aX vs us->sp vs H Q E0->
  codeAny (model P w) A (.call (.ref f) args) (CR mw outer P w H s Q E0) s
theorem wt.ok{w:W9}{base:Hz}{fd:FuncData}{sp:Sp}(F:wt P w K mg base k f fd ps sp)(b:∀ vs H Q E,sp vs H Q E->sp vs H Q E0):c5 P w K mg base mw k f fd ps sp:=
 ⟨F.len,λA outer s H args us vs Q E hr c a d e=>DF (F.run A outer s H args us vs Q hr.h c a d (b _ _ _ _ e)) λr s' h=>by
  assumption⟩
end _a
variable{xs:L9 Dz}{nm:Str}{sn:L9 Str}{col:O9 Bool}{dd:O9 Az}
namespace _e
variable{sub:L9 V9}{k0 k1 k2 k3 k5:O9 V9}
inductive Tn where
 | n (i:Int)|w (x:Str)
noncomputable def Tn.d:Tn->Dz
 | .n i=>.int i
 | .w x=>.str x
structure Rw where
 l:Tn
 c:List (Int×Int)
 r:Tn
def dr(c:Int×Int):Dz:=.tuple [.int c.1,.int c.2]
def cU(r:Rw):Dz:=.tuple [r.l.d,.tuple (r.c.map dr),r.r.d]
def aL(rs:L9 Rw):Dz:=.tuple (rs.map cU)
inductive lC(K:Frag)(H:Hp):List V->List (Int×Int)->Prop
 | nil:lC K H [] []
 | cons {q:Az} {a b:Int} {xs:List V} {cs:List (Int×Int)} (h:Y5 K H q [.int a,.int b]) (t:lC K H xs cs):lC K H (.ref q::xs) ((a,b)::cs)
def qK(K:Frag)(a:Az)(xs:L9 V):Prop:=∃ (o:Obj) (d7:Array V9) (n:Nat),K.lookup a=some o/\(o.cls=.type "tuple"/\o.dict=none)/\o.data=.seq d7 n/\d7.size<=sizeLine/\aX xs d7.toList
theorem qK.sq{xs:L9 V}(h:qK K a xs)(H:Hp):fq K H a xs:=.inr h
noncomputable def Tn.ok:Tn->Prop
 | .n _=>True
 | .w x=>PyData.strOk x=true
def Rw.ok(r:Rw):Prop:=r.l.ok/\r.r.ok
theorem zT:∀ {xs:L9 Dz},(∀ x∈xs,x.canLay0=true)->PyData.canLayAll0 xs=true
 | [],_=>by rfl
 | x::t,h=>by
  show(x.canLay0 && PyData.canLayAll0 t)=true
  rw[h x (A5 ..),zT λy a=>h y (AU _ a)];rfl
theorem sK:∀ {xs:L9 Dz},(∀ x∈xs,x.depth<=n)->PyData.depthAll xs<=n
 | [],_=>CT _
 | x::t,h=>Nat.max_le.mpr ⟨h x (A5 ..),sK λy a=>h y (AU _ a)⟩
def Sh(n:Nat)(d:Dz):Prop:=d.canLay0=true/\d.depth<=n
theorem m9(h:∀ x∈xs,Sh n x):Sh (n+1) (.tuple xs):=⟨zT λx a=>(h x a).1,by
 have:=sK λx a=>(h x a).2
 show PyData.depthAll xs+1<=n+1
 ext⟩
theorem tq(h:∀ x∈xs,Sh n x):Sh (n+1) (.list xs):=⟨zT λx a=>(h x a).1,by
 have:=sK λx a=>(h x a).2
 show PyData.depthAll xs+1<=n+1
 ext⟩
theorem sL(n:Nat)(i:Int):Sh n (.int i):=⟨rfl,CT _⟩
theorem IB(n:Nat)(h:PyData.strOk x=true):Sh n (.str x):=⟨h,CT _⟩
theorem Kn(n:Nat){t:Tn}(h:t.ok):Sh n t.d:=by
 cases t with
 | n i=>exact sL n i
 | w x=>exact IB n h
theorem Sh.shaped{n:Nat}{d:Dz}(h:Sh n d)(a:n<=64):shaped d=true:=by
 show(d.canLay0 && decide _)=true
 rw[h.1,A2 (A6 h.2 a)];rfl
section
variable{K:Frag}{H:Hp}
theorem ui:∀ {xs:L9 V} {cs:L9 (Int×Int)},a_ K H xs (cs.map dr)->lC K H xs cs
 | xs,[],h=>by obtain rfl:=h.nil_of;exact .nil
 | xs,c::cs,h=>by
  obtain⟨x,t,rfl,h1⟩:=h.cons_of
  obtain⟨a,ys,rfl,d⟩:=h1.1.dz
  obtain⟨j,t0,rfl,e,f⟩:=d.2.cons_of
  obtain⟨i,g,rfl,b⟩:=f.cons_of
  obtain rfl:=b.2.nil_of
  obtain rfl:=e.cA
  obtain rfl:=b.1.cA
  exact .cons (.inr d.1) (ui h1.2)
end
section
variable{K:Frag}{h:Hz}{mg:Str->O9 V9}
theorem NT{i:V9}{e:O9 Az}{g:Array (O9 V9)}{kV d:V9}(X:K.In h)(G:h.Ns mainGlobals mg)
  (a:nsIn K mainGlobals x=some (some (.ref f))) (l:K.lookup f=some ⟨i,od,.func (fnOf x x (bT st) (aT st) (aD st) .none kV doc pm e d ct),g⟩)
  (c:codeIn K d x=true) (k:keepIn K (.ref f)=true)
  (b:∀ (kV doc pm:V9) (e:O9 Az) (d ct:V9) (us:L9 V9),us.length=ps.length->bindArgs (fnOf x x (bT st) (aT st) (aD st) .none kV doc pm e d ct) ⟨us,[]⟩=pure (ps.zip us)):jv K mg x st ps:=by
 exact⟨f,_,(jT l c k),(jT l c k).binds b,BP X G a⟩
theorem RN{y:Str}{b:Nat}{sl:Array (O9 V9)}(l:K.lookup a=some ⟨.type "tuple",none,.seq #[.str x c,.str y b] n,sl⟩):qK K a [.str x,.str y]:=
 ⟨_,_,_,l,⟨rfl,rfl⟩,rfl,by show 2<=sizeLine;decide,.cons ⟨_,rfl⟩ (.cons ⟨_,rfl⟩ .nil)⟩
theorem RM{x y:Int}{b:Nat}{sl:Array (O9 V9)}(l:K.lookup a=some ⟨.type "tuple",none,.seq #[.int x c,.int y b] n,sl⟩):qK K a [.int x,.int y]:=
 ⟨_,_,_,l,⟨rfl,rfl⟩,rfl,by show 2<=sizeLine;decide,.cons ⟨_,rfl⟩ (.cons ⟨_,rfl⟩ .nil)⟩
end
section
variable{K:Frag}{h:Hz}{mg:Str->O9 V9}
theorem Lr{N:Az}{bm bs:L9 V9}{q:Str}{a ab:Bool}{newId:String}(l:K.lookup W=some (excClassObj nm q W N bs bm a sn sub ab col dd k0 k1 k2 k3 k5 newId))(b:bm.contains (.type "BaseException")=true):_d.f_ K W bm:=⟨⟨_,_,_,_,_,_,_,_,_,_,_,_,_,_,_,_,l⟩,b⟩
theorem MG{N:Az}{bs:L9 V9}{q:Str}{ab:Bool}(l:K.lookup C=some (excClassObj nm q C N bs (.ref W::_d.kM) true sn sub ab col dd k0 k1 k2 k3 k5 "ValueError.__new__"))
 (e:findIn K (.ref C) "__setattr__"=some (some (.builtin "object.__setattr__"))) (ga:findIn K (.ref C) "__getattribute__"=some (some (.builtin "BaseException.__getattribute__"))) (d:findIn K (.ref C) "__getattr__"=some none) (cl:findIn K (.ref C) "__class__"=some (some (.builtin "object.__class__")))
 (a:specialIn K (.builtin "object.__class__") "__get__"=some (some (.builtin "getset_descriptor.__get__"))) (b:takesIn K (.builtin "object.__class__")=some true) (c:keepIn K (.ref C)=true):_d.dy K W C:=⟨⟨_,_,_,_,_,_,_,_,_,_,_,_,_,_,l⟩,e,ga,d,cl,a,b,c⟩
theorem UM{t:V9}{cd:ClassData}(h0:(t == Value.ref C)=false)(h1:PySem.W.clsIn K C=some cd)(h2:typeIn K (.ref C)=some (.type "type"))(a:subIn K t (.ref C)=some b):kitOne K t (.ref C)=some b:=by
 unfold kitOne
 rw[h0]
 unfold kitCls
 ext
theorem RL{t:V9}{T:String}(h0:(t == Value.type T)=false)(h1:PySem.W.kitMeta T=true)(a:subIn K t (.type T)=some b):kitOne K t (.type T)=some b:=by
 unfold kitOne
 rw[h0]
 unfold kitCls
 ext
theorem V5:kitOne K (.ref C) (.ref C)=some true:=by
 unfold kitOne
 simp
end
noncomputable def bK(n c:Nat):Bool:=decide (97<=c/\c < 97+n)
noncomputable def dW(n:Nat):Nat->L9 Nat->O9 Nat
 | _,[]=>none
 | i,c::t=>if bK n c=true then dW n (i+1) t else some i
theorem mO(n i c:Nat)(t:L9 Nat):dW n i (c::t)=if bK n c=true then dW n (i+1) t else some i:=rfl
theorem vp(x:Str)(c:Nat):(Builtin.Str.occurrences x ⟨#[c]⟩ 0 x.length 1=[]/\∀ i:Nat,x.cps.toList[i]? ≠ some c)\/∃ (i:Nat) (r:L9 Nat),Builtin.Str.occurrences x ⟨#[c]⟩ 0 x.length 1=i::r/\x.cps.toList[i]? = some c/\∀ k:Nat,k < i->x.cps.toList[k]? ≠ some c:=by
 rcases StrLaws.occ_head x _ 1 (AG _)with ⟨h1,h2⟩|⟨i,r,h1,h2,b⟩
 · exact .inl ⟨h1, λi e => h2 i ((FN x c i).mpr e)⟩
 · exact .inr ⟨i, r, h1, (FN x c i).mp h2, λk a e => b k a ((FN x c k).mpr e)⟩
theorem pE(h1:1<=n)(h2:n<=3):(Txt.slice "abc" none (some (n:Int))).cps.toList=[97,98,99].take n:=by
 obtain rfl|rfl|rfl:n=1\/n=2\/n=3:=by ext
 all_goals rfl
theorem Of(h1:1<=n)(h2:n<=3):bK n c=true↔∃ i:Nat,(([97,98,99]:L9 Nat).take n)[i]? = some c:=by
 unfold bK
 rw[decide_eq_true_iff]
 constructor
 .intro h
  refine⟨c - 97,?_⟩
  obtain rfl|rfl|rfl:n=1\/n=2\/n=3:=by ext
  .obtain rfl:c=97:=by ext
   rfl
  .obtain rfl|rfl:c=97\/c=98:=by ext
   all_goals rfl
  .obtain rfl|rfl|rfl:c=97\/c=98\/c=99:=by ext
   all_goals rfl
 .rintro ⟨i,e⟩
  have a:=DW (AH.mp e).1
  rw[(AH.mp e).2]at a
  obtain rfl|rfl|rfl:n=1\/n=2\/n=3:=by ext
  all_goals
   simp at a
   ext
theorem V4(h1:1<=n)(h2:n<=3):(!(!(Builtin.Str.occurrences (Txt.slice "abc" none (some (n:Int))) ⟨#[c]⟩ 0 (Txt.slice "abc" none (some (n:Int))).length 1).isEmpty)) = !bK n c:=by
 rcases vp _ c with ⟨a,b⟩|⟨i,r,a,b,_⟩
 .rw[a]
  have:=FM.mpr λz=>by
   obtain⟨i,hi⟩:=(Of h1 h2).mp z
   rw[(pE h1 h2)]at b
   exact b i hi
  rw[this];rfl
 .rw[a]
  rw[(pE h1 h2)]at b
  rw[(Of h1 h2).mpr ⟨i,b⟩];rfl
theorem Xe(h:bK 3 c=true):∃ r,Builtin.Str.occurrences "abc" ⟨#[c]⟩ 0 ("abc":Str).length 1=(c - 97)::r:=by
 have h:=BH h
 refine⟨[],?_⟩
 obtain rfl|rfl|rfl:c=97\/c=98\/c=99:=by ext
 all_goals decide +kernel
def nA(s q:Int):Dz:=.tuple [.int s,.int q]
def Ee(f a:L9 Dz):Dz:=.tuple [.tuple f,.tuple a]
def Lq(n:Nat):L9 Dz:=(range n).map λi:Nat=>nA 1 (i:Int)
def Lp(n:Nat):L9 Dz:=(range n).map λi:Nat=>nA (-1) (i:Int)
def HU(k:Nat)(rs:L9 Rw):L9 Dz:=rs.map λr=>nA (r.c.getD k (0,0)).2 (r.c.getD k (0,0)).1
end _e
variable{b:Az}{ps:L9 (Int×Int)}
namespace _a
section
variable{κ:Type}[DecidableEq κ]
theorem KV.length{a:L9 (κ×V)}{vs:L9 (κ×V9)}(r:KV a vs):a.length=vs.length:=FD r
end
theorem HQ{w:W9}{k:Key}(r:aR (kV k) u):(dM P w).is k u=true:=by
 cases k with
 | inl i=>obtain⟨t,e⟩:=((r));subst e;exact Yk P w i t
 | inr x=>obtain⟨t,e⟩:=((r));subst e;exact Yj P w x t
section
variable{X:Cx}{av:L9 (Az×Obj)}{Z:St}{H:Hp}{s:S9}{a:Az}{y v:V}{u r:V9}{o:O9 V}{A:U9}{E:V9->S9->Prop}
theorem Inv.big(I:Inv X av Z H s):sysModules < s.heap.objs.size:=by
 exact GZ (by decide) ((I.mod.glob.keeps I.bk).lt)
theorem uL{h':Hz}{c:HO}(I:Inv X av Z H s)(f:Bp (H a))(e:Heap.SameBut a s.heap h')(d:∃ q,h'.get? a=some q)(new:cI X.prog X.w (upd H a c) h' a c) :
  Inv X av Z (upd H a c) {s with heap:=h',toks:=t'}:=
 I.write f (.inl rfl) (λb q g z=>(e.2 b g).trans z) d new
end
def JN(i:Ez):Prop:=∀ ov iv,subscripted i false ov iv=operate [ov,iv] (getItem ov iv)
theorem UL{w:W9}{A:U9}{value a:Ez}{pos:Pos}{T id:String}{Q:V9->S9->Prop}
  (j:typeLookup (.type T) "__getitem__"=pure (some (.builtin id))) (g:JN a)
  (h:wpAny (model prog w) A (eval value env) (λo s₁=>wpAny (model prog w) A (eval a env) (λi s₂=>s₂.TypeIs o T/\wpAny (model prog w) A (getItem o i) Q E s₂) E s₁) E s) :
  wpAny (model prog w) A (eval (.Subscript value a pos) env) Q E s:=by
 refine Subscript_ (BI h (λo s₁ e=>BI e (λi s₂ b=>?_) λ_ _ x=>x) λ_ _ x=>x)
 refine AA ?_
 refine AA (GJ b.1 j ?_)
 have f:wpAny (model prog w) A (subscripted a false o i) (λr c=>wpAny (model prog w) A (letTemporaryGo value o r >>= λ_=>pure r) Q E c) E s₂:=by
  rw[g o i]
  exact wpAny_operating (BI b.2 (λr c d=>AA (wpAny_letTemporaryGo (AC d))) λ_ _ x=>x)
 first
  | exact AC (AA f)
  | rfl
  | rfl
end _a
variable{st:Int×Int}{z:L9 Nat}{sg:Nat}
namespace _e
variable{rs:L9 Rw}
def Tn.good(n:Int):Tn->Prop
 | .n i=>0<=i/\i < n
 | .w x=>x="by"\/x="out"
def qL(n:Int)(c:Int×Int):Prop:=0<=c.1/\c.1 < n/\(c.2=1\/c.2 = -1)
def Rw.good(n:Int)(r:Rw):Prop:=r.l.good n/\r.r.good n/\∀ c∈r.c,qL n c
theorem Tn.good.ok{n:Int}{t:Tn}(h:t.good n):t.ok:=by
 cases t with
 | n i=>trivial
 | w x=>
  rcases h with rfl|rfl
  all_goals exact(show PyData.strOk _=true by decide +kernel)
theorem Rw.good.ok{n:Int}{r:Rw}(h:r.good n):r.ok:=⟨h.1.ok,h.2.1.ok⟩
structure cg(rs:List Rw)(sg:Nat):Prop where
 len:1<=rs.length
 l_:rs.length<=1000
 rh:1<=sg
 qc:sg<=3
 row:∀ r∈rs,r.good rs.length/\r.c.length=sg
def aN(sg:Nat)(z:L9 Nat):Prop:=z.length<=1000/\∀ c∈z,bK sg c=true
theorem wR:∀ {z:L9 Nat} {i:Nat},(∀ c∈z,bK sg c=true)->dW sg i z=none
 | [],_,_=>rfl
 | c::t,i,h=>by
  rw[mO,AI (h c (by simp))]
  exact wR λx a=>h x (by simp[a])
noncomputable def aZ(rs:L9 Rw)(q:Int):Rw:=rs.getD q.toNat ⟨.n 0,[],.n 0⟩
noncomputable def aQ(rs:L9 Rw)(z:L9 Nat)(st:Int×Int):Tn×Int:=
 if st.1=0 then((aZ rs st.2).l,1)else if st.1=(z.length:Int)+1 then((aZ rs st.2).r,-1)else
  (.n ((aZ rs st.2).c.getD (z.getD (st.1.toNat - 1) 97 - 97) (0,0)).1,((aZ rs st.2).c.getD (z.getD (st.1.toNat - 1) 97 - 97) (0,0)).2)
def bZ(rs:L9 Rw)(z:L9 Nat)(st:Int×Int):O9 (Int×Int):=
 match (aQ rs z st).1 with
 | .w _=>none
 | .n q=>some (st.1+(aQ rs z st).2,q)
def fK(rs:L9 Rw)(z:L9 Nat)(st:Int×Int):Prop:=0<=st.1/\st.1<=(z.length:Int)+1/\0<=st.2/\st.2 < (rs.length:Int)
theorem cK{q:Int}(h0:0<=q)(h1:q < rs.length):rs[q.toNat]? = some (aZ rs q):=by
 unfold aZ
 ext
theorem zU(S:aN sg z)(V:fK rs z st)(h0:st.1≠0)(h1:st.1≠(z.length:Int)+1):∃ c,z[st.1.toNat - 1]? = some c/\bK sg c=true/\z.getD (st.1.toNat - 1) 97=c:=by
 obtain⟨a,b⟩:=V
 have d:st.1.toNat - 1 < z.length:=by ext
 refine⟨z[st.1.toNat - 1],by simp,S.2 _ (DW d),by simp_all⟩
theorem qM(M:cg rs sg)(S:aN sg z)(V:fK rs z st)(h0:st.1≠0)(h1:st.1≠(z.length:Int)+1) :
  ∃ c,(aZ rs st.2).c[z.getD (st.1.toNat - 1) 97 - 97]? = some c/\(aZ rs st.2).c.getD (z.getD (st.1.toNat - 1) 97 - 97) (0,0)=c/\qL rs.length c:=by
 obtain⟨c,_,a,e⟩:=zU S V h0 h1
 rw[e]
 have a:=BH a
 have hr:=M.row _ (AD (cK V.2.2.1 V.2.2.2))
 refine⟨(aZ rs st.2).c[c - 97],by simp,by rw[BO,AJ (by ext)];rfl,hr.1.2.2 _ (DW (by ext))⟩
theorem qN{d:Int×Int}(M:cg rs sg)(S:aN sg z)(V:fK rs z st)(h:bZ rs z st=some d):fK rs z d:=by
 obtain⟨a,b,c⟩:=id V
 unfold bZ aQ at h
 by_cases f:st.1=0
 .simp only[AI f]at h
  have g:=(M.row _ (AD (cK V.2.2.1 V.2.2.2))).1.1
  cases e:(aZ rs st.2).l with
  | w x=>simp_all
  | n q=>
   rw[e]at h g
   cases h
   exact⟨by simp_all,by ext,g.1,g.2⟩
 .by_cases h1:st.1=z.length+1
  .simp only[AM f,AI h1]at h
   have g:=(M.row _ (AD (cK V.2.2.1 V.2.2.2))).1.2.1
   cases e:(aZ rs st.2).r with
   | w x=>simp_all
   | n q=>
    rw[e]at h g
    cases h
    exact⟨by ext,by ext,g.1,g.2⟩
  .obtain ⟨m,_,e⟩:=qM M S V f h1
   simp only[AM f,AM h1]at h
   rw[e.1]at h
   cases h
   obtain⟨j,i,k⟩:=e.2
   refine⟨?_,?_,j,i⟩<;>ext
theorem sM:∀ (N:Nat) (l:L9 Nat),l.Nodup->(∀ x∈l,x < N)->l.length<=N
 | 0,l,_,h=>by
  cases l with
  | nil=>simp
  | cons a t=>exact absurd (h a (by simp)) (by simp)
 | N+1,l,hn,h=>by
  have ih:=sM N _ (hn.erase N) (λx b=>by
   ext)
  ext
theorem XQ(m:l.Nodup)(i:∀ st∈l,fK rs z st):l.length<=(z.length+2) * rs.length:=by
 have j:∀ x y:Int,0<=x->0<=y->x.toNat=y.toNat->x=y:=by ext
 have lt:∀ (x:Int) (n:Nat),x < n->0<=x->x.toNat < n:=by ext
 have k:∀ (x:Int) (n:Nat),x<=n+1->x.toNat+1<=n+2:=by simp
 have h:=sM ((z.length+2) * rs.length) (l.map λst=>st.1.toNat * rs.length+st.2.toNat) ?_ ?_
 .simp_all
 .unfold Nodup
  rw[List.pairwise_map]
  refine GB (λ{a b} ha hb Gz e=>Gz ?_) m
  have c:=i a ha
  have f:=i b hb
  have d:=lt _ _ c.2.2.2 c.2.2.1
  have e1:=ES (· / rs.length) e
  have e2:=ES (· % rs.length) e
  simp[Nat.mul_comm _ rs.length,Nat.mul_add_div (Nat.lt_of_le_of_lt _ d),Nat.div_eq_of_lt d,Nat.div_eq_of_lt (lt _ _ f.2.2.2 f.2.2.1),Nat.mod_eq_of_lt d,Nat.mod_eq_of_lt (lt _ _ f.2.2.2 f.2.2.1)]at e1 e2
  exact Prod.ext (j _ _ c.1 f.1 e1) (j _ _ c.2.2.1 f.2.2.1 e2)
 .intro x o
  obtain⟨st,g,rfl⟩:=BG.mp o
  have c:=i st g
  have:=Nat.mul_le_mul_right rs.length (k _ _ c.2.1)
  rw[Nat.add_mul,Nat.one_mul]at this
  exact AX (Nat.add_lt_add_left (lt _ _ c.2.2.2 c.2.2.1) _) this
noncomputable def uM(rs:L9 Rw)(z:L9 Nat):Nat->L9 (Int×Int)->Int×Int->L9 (Int×Int)
 | 0,ps,st=>ps++[st]
 | k+1,ps,st=>if st∈ps then ps++[st]else match bZ rs z st with
  | none=>ps++[st]
  | some OJ=>uM rs z k (ps++[st]) OJ
def n8(rs:L9 Rw)(z:L9 Nat):Nat:=(z.length+2) * rs.length
def eP(rs:L9 Rw)(z:L9 Nat):L9 (Int×Int):=uM rs z (n8 rs z) [] (0,0)
structure Way(rs:List Rw)(z:List Nat)(ps:List (Int×Int))(st:Int×Int)(k:Nat):Prop where
 nd:ps.Nodup
 val:∀ s∈ps++[st],fK rs z s
 num:ps.length+k=n8 rs z
 res:uM rs z k ps st=eP rs z
theorem Way.start(M:cg rs sg):Way rs z [] (0,0) (n8 rs z) where
 nd:=DS
 val:=λs a=>by
  obtain rfl:s=(0,0):=by simpa using a
  have:=M.len
  exact⟨DQ _,by show(0:Int)<=_;ext,DQ _,by show(0:Int) < _;ext⟩
 num:=by simp
 res:=rfl
theorem Way.here(W:Way rs z ps st k):fK rs z st:=W.val st (by simp)
theorem Way.stop(W:Way rs z ps st k)(h:st∈ps):ps++[st]=eP rs z:=by
 rw[<-W.res]
 cases k with
 | zero=>rfl
 | succ k=>unfold uM;rw[AI h]
theorem Way.more(W:Way rs z ps st k)(h:st∉ps):∃ j,k=j+1:=by
 have d:(ps++[st]).Nodup:=by
  rw[CV]
  exact⟨W.nd,by simp,λa f b g e=>by simp_all⟩
 have:=XQ d W.val
 rw[AY]at this
 have c:=W.num
 unfold n8 at c
 simp only[AT,A9]at this
 exact⟨k - 1,by ext⟩
theorem Way.ends(W:Way rs z ps st k)(h:st∉ps)(e:bZ rs z st=none):ps++[st]=eP rs z:=by
 obtain⟨j,rfl⟩:=W.more h
 rw[<-W.res]
 unfold uM
 simp_all
theorem Way.next{c:Int×Int}(M:cg rs sg)(S:aN sg z)(W:Way rs z ps st (k+1))(h:st∉ps)(e:bZ rs z st=some c):Way rs z (ps++[st]) c k where
 nd:=by
  rw[CV]
  exact⟨W.nd,by simp,λa d b g e=>by rw[AS.mp g]at e;exact h (e▸d)⟩
 val:=λs f=>by
  rcases BN.mp f with q|q
  · exact W.val s q
  · rw [AS.mp q]; exact qN M S W.here e
 num:=by rw[AY];have:=W.num;simp;ext
 res:=by
  rw[<-W.res]
  conv=>rhs;unfold uM
  rw[AM h,e]
end _e
variable{st:Stmt}
namespace _a
theorem pF:∀ {ys:L9 Str} {us:L9 V9},aX (ys.map V.str) us->StrsAre us ys
 | [],_,.nil=>.nil
 | y::ys,_,.cons r t=>by obtain⟨t',rfl⟩:=r;exact .cons y t' (pF t)
def KI(K:Frag):V->L9 V->Hp->VK->Prop:=λx vs H Q=>∃ (sep:Str) (a:Az) (ys:L9 Str),x=.str sep/\vs=[.ref a]/\d_ K H a (ys.map V.str)/\(ys.map λy=>y.length).sum+ys.length * sep.length<=16777216/\Q (.str (Txt.join sep ys)) H
theorem UK{X:Cx}:Fj X "str.join" (KI X.K):=by
 intro av s Z H x vs v us Q I c d h
 obtain⟨g,a,ys,rfl,rfl,b⟩:=h
 obtain⟨t,rfl⟩:=c
 obtain⟨u,rfl,e⟩:=d.one
 cases((e))
 obtain⟨f,r⟩:=I.list b.1
 exact join_list r.2.1.isList (by simpa using pF r.1) b.2.1 λi k=>⟨.str _,H,I.tok _,⟨_,rfl⟩,b.2.2⟩
end _a
variable{S:Type}
namespace _e
noncomputable def one(c:Nat):Str:=⟨#[c]⟩
theorem Xd(cs:L9 Nat):∀ (a:Array Nat),(foldl (λb0 p=>b0++("":Str).cps++p.cps) a (cs.map one)).toList=a.toList++cs:=by
 induction cs with
 | nil=>simp
 | cons c t ih=>
  intro a
  rw[AV,GK,ih]
  have:("":Str).cps = #[]:=rfl
  rw[this]
  simp[one]
theorem V3(cs:L9 Nat):(Txt.join "" (cs.map one)).cps.toList=cs:=by
 cases cs with
 | nil=>rfl
 | cons c t=>
  show(foldl _ (one c).cps (t.map one)).toList=_
  rw[Xd];rfl
theorem UJ(cs:L9 Nat):((cs.map one).map λy=>y.length).sum=cs.length:=by
 induction cs with
 | nil=>rfl
 | cons c t ih=>rw[AV,AV,List.sum_cons,ih,AT];show 1+_=_;ext
theorem UI{y:Str}(h:x.cps.toList=y.cps.toList):x=y:=by
 cases x;simp_all
theorem UH(cs:L9 Nat):Txt.join "" (cs.map one)=⟨cs.toArray⟩:=UI (by rw[V3])
theorem UG{k:Int}(h1:1<=sg)(d:sg<=3):∃ c,j1 ("abc":Str).cps.toList (k % (sg:Int))=some c/\bK sg c=true:=by
 have a:=CP k (show(sg:Int)≠0 by ext)
 have h2:=CD k (show(0:Int) < sg by ext)
 obtain⟨j,b⟩:∃ j:Nat,k % sg=j:=⟨(k % sg).toNat,by ext⟩
 rw[b]at a h2 ⊢
 refine⟨97+j,?_,A2 (by ext)⟩
 obtain rfl|rfl|rfl:j=0\/j=1\/j=2:=by ext
 all_goals rfl
section
variable{S O:Type}
inductive Ex(st:S->Option (S⊕O)):Nat->S->O->Prop
 | out {s:S} {o:O} (h:st s=some (.inr o)):Ex st 0 s o
 | go {s s':S} {o:O} {n:Nat} (h:st s=some (.inl s')) (t:Ex st n s' o):Ex st (n+1) s o
inductive Rc(st:S->Option (S⊕O)):Nat->S->S->Prop
 | nil {s:S}:Rc st 0 s s
 | cons {s s' rj:S} {n:Nat} (h:st s=some (.inl s')) (t:Rc st n s' rj):Rc st (n+1) s rj
variable{st:S->O9 (S⊕O)}
theorem Ex.det{s:S}{o o':O}(a:Ex st n s o)(b:Ex st c s o'):n=c/\o=o':=by
 induction a generalizing c o' with
 | out h=>
  cases b with
  | out h'=>simp_all
  | go h' t=>ext
 | go h t ih=>
  cases b with
  | out h'=>ext
  | go h' t'=>
   ext
theorem Rc.ex{s s':S}{o:O}(a:Rc st k s s')(b:Ex st n s o):∃ n',n=n'+k/\Ex st n' s' o:=by
 induction a generalizing n with
 | nil=>simp_all
 | cons h t ih=>
  cases b with
  | out h'=>ext
  | go h' t'=>
   ext
theorem Rc.to{s s':S}{o:O}(a:Rc st k s s')(b:Ex st n s' o):Ex st (n+k) s o:=by
 induction a with
 | nil=>ext
 | cons h t ih=>exact .go h (ih b)
theorem Rc.snoc{s s' b:S}(a:Rc st k s s')(h:st s'=some (.inl b)):Rc st (k+1) s b:=by
 induction a with
 | nil=>exact .cons h .nil
 | cons h' t ih=>exact .cons h' (ih h)
theorem Rc.round{s:S}{o:O}(a:Rc st (m+1) s s):¬ Ex st n s o:=λb=>by
 obtain⟨c,e,q⟩:=a.ex b
 have:=(b.det q).1
 ext
def Res(st:S->O9 (S⊕O))(s:S)(r:O9 O):Prop:=∀ o,r=some o↔∃ n,Ex st n s o
theorem Res.det{s:S}{r c:O9 O}(a:Res st s r)(b:Res st s c):r=c:=by
 apply Option.ext
 intro o
 exact(a o).trans (b o).symm
theorem Res.out{s:S}{o:O}(h:st s=some (.inr o)):Res st s (some o):=λo'=>by
 constructor
 · intro e; cases e; exact⟨0, .out h⟩
 · rintro ⟨n, q⟩; rw [((Ex.out h).det q).2]
theorem Res.stuck{s:S}(h:st s=none):Res st s none:=λo'=>by
 constructor
 .simp
 .rintro ⟨n,q⟩
  cases q with
  | out h'=>simp_all
  | go h' t=>ext
theorem Res.step{s s':S}{r:O9 O}(h:st s=some (.inl s'))(a:Res st s' r):Res st s r:=λo=>by
 rw[a o]
 constructor
 .rintro ⟨n,q⟩;exact⟨n+1,.go h q⟩
 .rintro ⟨n,q⟩
  cases q with
  | out h'=>ext
  | go h' t=>ext
theorem Res.round{s:S}(a:Rc st (m+1) s s):Res st s none:=λo=>by
 constructor
 · ext
 · rintro ⟨n, q⟩; exact absurd q a.round
open Classical in
def bM(st:S->O9 (S⊕O))(s:S):O9 O:=if h:∃ o n,Ex st n s o then some h.choose else none
theorem n9(st:S->O9 (S⊕O))(s:S):Res st s (bM st s):=λo=>by
 unfold bM
 by_cases h:∃ o n,Ex st n s o
 .rw[dif_pos h]
  obtain⟨n,q⟩:=h.choose_spec
  constructor
  · ext
  · rintro ⟨n', q'⟩; rw [(q.det q').2]
 ext
theorem Res.eq{s:S}{r:O9 O}(a:Res st s r):r=bM st s:=a.det (n9 st s)
structure gn(st:S->Option (S⊕O))(s0:S)(ps:List S)(s:S):Prop where
 nd:ps.Nodup
 back:∀ p∈ps,∃ m,Rc st (m+1) p s
 res:∀ r,Res st s r->Res st s0 r
theorem gn.start{a:S}:gn st a [] a:=⟨DS,λp b=>by simp_all,λr h=>h⟩
theorem gn.next{c s s':S}{ps:L9 S}(U:gn st c ps s)(g:s∉ps)(h:st s=some (.inl s')):gn st c (ps++[s]) s' where
 nd:=by
  rw[CV]
  exact⟨U.nd,by simp,λa d b i e=>by rw[AS.mp i]at e;exact g (e▸d)⟩
 back:=λp f=>by
  rcases BN.mp f with q|q
  · obtain⟨m, r⟩ := U.back p q; exact⟨m + 1, r.snoc h⟩
  · rw [AS.mp q]; exact⟨0, .cons h .nil⟩
 res:=λr a=>U.res r (a.step h)
theorem gn.met{a s:S}{ps:L9 S}(U:gn st a ps s)(h:s∈ps):bM st a=none:=by
 obtain⟨m,r⟩:=U.back s h
 exact((U.res _ (Res.round r)).eq).symm
theorem gn.outs{a s:S}{ps:L9 S}{o:O}(U:gn st a ps s)(h:st s=some (.inr o)):bM st a=some o:=((U.res _ (Res.out h)).eq).symm
theorem gn.w_{a s:S}{ps:L9 S}(U:gn st a ps s)(h:st s=none):bM st a=none:=((U.res _ (Res.stuck h)).eq).symm
end
abbrev Th:=O9 (Int×Int)
structure Tb where
 f:List Th
 a:List Th
def Tb.at(t:Tb)(w q:Int):Th:=(if w=1 then t.f else t.a).getD q.toNat none
def jU(m:Nat):Th->Prop
 | none=>True
 | some (d,q)=>(d=1\/d = -1)/\0<=q/\q < (m:Int)
structure Tb.good(m:Nat)(t:Tb):Prop where
 lf:t.f.length=m
 la:t.a.length=m
 gf:∀ x∈t.f,jU m x
 ga:∀ x∈t.a,jU m x
theorem Tb.good.at{t:Tb}(h:t.good m){w q:Int}(h0:0<=q)(h1:q < m):(if w=1 then t.f else t.a)[q.toNat]? = some (t.at w q)/\jU m (t.at w q):=by
 have c:q.toNat < (if w=1 then t.f else t.a).length:=by
  split
  · rw [h.lf]; ext
  · rw [h.la]; ext
 have e:(if w=1 then t.f else t.a)[q.toNat]? = some (t.at w q):=by
  unfold Tb.at
  ext
 refine⟨e,?_⟩
 have b:=AD e
 split at b
 .exact h.gf _ b
 .exact h.ga _ b
theorem lY(f:S->Nat)(N:Nat)(l:L9 S)(c:l.Nodup)(d:∀ s∈l,f s < N)(hi:∀ a∈l,∀ b∈l,f a=f b->a=b):l.length<=N:=by
 have h:=sM N (l.map f) ?_ ?_
 .simp_all
 .unfold Nodup
  rw[List.pairwise_map]
  exact GB (λ{a b} ha hb Gz e=>Gz (hi a ha b hb e)) c
 simp_all
def uN(m:Nat)(s:Int×Int):Prop:=(s.1=1\/s.1 = -1)/\0<=s.2/\s.2 < (m:Int)
theorem NS(g:l.Nodup)(c:∀ s∈l,uN m s):l.length<=2 * m:=by
 refine lY (λs=>(if s.1=1 then 0 else m)+s.2.toNat) _ l g (λs f=>?_) (λa d b h e=>?_)
 .obtain ⟨h1,h2,p⟩:=c s f
  ext
 .obtain ⟨o,n⟩:=c a d
  obtain⟨k,i,j⟩:=c b h
  ext
def nB(a b:Tb)(s:Int×Int):O9 ((Int×Int)⊕(Int×Int)):=
 match (if s.1=1 then b.at 1 s.2 else a.at (-1) s.2)with
 | none=>none
 | some (w,q)=>if w = -s.1 then some (.inl (w,q))else some (.inr (w,q))
def oA(a b:Tb)(th:Th)(w:Int):Th:=
 match th with
 | none=>none
 | some (d,q)=>if d=w then bM (nB a b) (d,q)else some (d,q)
theorem qO{O:Type}{st:S->O9 (S⊕O)}{s s':S}(h:st s=some (.inl s')):bM st s=bM st s':=(((n9 st s').step h).eq).symm
theorem iX{O:Type}{st:S->O9 (S⊕O)}{s:S}{o:O}(h:st s=some (.inr o)):bM st s=some o:=((Res.out h).eq).symm
def ng:Th->Dz
 | none=>.none
 | some (d,q)=>nA d q
def jx(t:Tb):Dz:=Ee (t.f.map ng) (t.a.map ng)
def pG(m:Nat):Tb:=⟨(range m).map λq:Nat=>some (1,(q:Int)),(range m).map λq:Nat=>some (-1,(q:Int))⟩
theorem UE(m:Nat):jx (pG m)=Ee (Lq m) (Lp m):=by
 unfold jx pG Lq Lp
 rw[B1,B1];rfl
theorem XP(m:Nat):(pG m).good m where
 lf:=by unfold pG;simp
 la:=by unfold pG;simp
 gf:=λx a=>by
  obtain⟨q,b,rfl⟩:=BG.mp a
  have:=B9.mp b
  exact⟨.inl rfl,by ext,by ext⟩
 ga:=λx a=>by
  obtain⟨q,b,rfl⟩:=BG.mp a
  have:=B9.mp b
  exact⟨.inr rfl,by ext,by ext⟩
end _e
variable{n:Str}{vs:L9 V9}{c:Az}{ps:L9 Str}{cm:Str->O9 V9}{cs:L9 Az}{qs:L9 (Pos×Str)}
namespace _a
variable{H H':Hp}{params:Arguments}
def Jc(z:Str):It:=⟨λi _=>i < z.cps.size,λi H x H'=>H'=H/\∃ c,z.cps[i]? = some c/\x=.str ⟨#[c]⟩,λi _=>i=z.cps.size⟩
theorem NR{w:W9}{tg:Ez}(z:Str)(t:Tok)(T:String)(J:∀ A:U9,A.handled=none->∀ it,Walks P w A it [it] [it] z.cps.size (SignAt z) λi h=>h.IsStrIter it T z t i)
  (f:∀ (A:U9) (it:Az) (i:Nat) (s:S9) (Q E:V9->S9->Prop),s.heap.IsStrIter it T z t i->Q (.ref it) s->wpAny (model P w) A (pyIter (.ref it)) Q E s)
  (x:["enumerate","zip","dict_itemiterator","dict_reverseitemiterator","odict_iterator","itertools.zip_longest","itertools.pairwise"].contains T=false) (it:Az):Turn P w K tg (Jc z) [it] it (λi h=>h.IsStrIter it T z t i) where
 mem:=by simp
 obj:=λi h st b a=>by
  obtain rfl:b=it:=by simpa using a
  obtain⟨o,e,c,d⟩:=st
  ext
 keep:=λi h h' st k=>by
  obtain⟨o,e,c,d⟩:=st
  exact⟨o,k it (by simp) o e,c,d⟩
 item:=by
  intro X D r G B i av s Z H E I m st j
  subst D r G
  obtain⟨q,p,O,F,y,u⟩:=m it (by simp)
  refine(J X.A (I.ok.hd B) it).item i s _ E j st λv h' g M l C=>?_
  obtain⟨c,tc,n,rfl⟩:=M
  have N:Inv X av Z H {s with heap:=h',toks:=g}:=I.turned (t':=g) (it:=it) (λb o a e=>C b o (by simpa using a) e) q p F y u
  obtain⟨o,e,L,d⟩:=id l
  exact⟨_,rfl,Fe (s:={s with heap:=h',toks:=g}) e L d x ⟨.str ⟨#[c]⟩,H,N,⟨_,rfl⟩,⟨rfl,c,n,rfl⟩,l,λb a=>(m b a).1⟩⟩
 done:=by
  intro X D r G B i av s Z H E I m st j
  subst D r G
  obtain⟨q,p,O,F,y,u⟩:=m it (by simp)
  have j:i=z.cps.size:=j
  subst j
  exact(J X.A (I.ok.hd B) it).done s _ E st λh' g C=>⟨rfl,I.turned (t':=g) (it:=it) (λb o a e=>C b o (by simpa using a) e) q p F y u⟩
 self:=λA i s Q E st h=>f A it i s Q E st h
def YO(te:TE):TI:=λZ H R=>te Z H λx H1=>∃ z,x=.str z/\R (Jc z) H1
theorem Lo{X:Cx}{tg l:Ez}{tl:TE}(n:PE X l tl):PI X tg l (YO tl):=by
 intro av s Z H R I h
 refine cz (n av s Z H _ I h) λv s1 f=>?_
 obtain⟨x,H1,j,r1,m⟩:=f
 obtain⟨z,e,q⟩:=m
 subst e
 obtain⟨t,rfl⟩:=r1
 refine wpAny_pyIter_strU ?_
 have c:Inv X av Z H1 {s1 with heap:=s1.heap.push {cls:=.type (strIterType z),data:=.fields #[.str z t,.int 0 0]}}:=j.kept λb o e=>AB _ e
 have st:(s1.heap.push {cls:=.type _,data:=.fields #[.str z t,.int 0 0]}).IsStrIter s1.heap.objs.size (strIterType z) z t 0:=⟨_,AN _ rfl,rfl,rfl⟩
 have a:∀ b∈[s1.heap.objs.size],iW X av H1 b:=λb p=>by
  obtain rfl:=AS.mp p
  exact j.me (AG _) (j.cj.fresh (AG _))
 by_cases k:(z.cps.all λx=>decide (x < 128))=true
 .have g:strIterType z="str_ascii_iterator":=by unfold strIterType;rw[AI k]
  rw[g]at st c ⊢
  exact⟨s1.heap.objs.size,[s1.heap.objs.size],_,_,H1,rfl,c,NR z t "str_ascii_iterator" (λA d it=>Walks.strAscii d it z t) (λA it i s Q E st h=>wpAny_pyIter_striter_ascii st h) (by rfl) _,st,a,q⟩
 .have g:strIterType z="str_iterator":=by unfold strIterType;rw[AM k]
  rw[g]at st c ⊢
  exact⟨s1.heap.objs.size,[s1.heap.objs.size],_,_,H1,rfl,c,NR z t "str_iterator" (λA d it=>Walks.strWide d it z t) (λA it i s Q E st h=>wpAny_pyIter_striter_wide st h) (by rfl) _,st,a,q⟩
theorem MF:∀ {xs:L9 V} {ys:L9 V9},xs.length=ys.length->(∀ (i:Nat) x y,xs[i]? = some x->ys[i]? = some y->aR x y)->aX xs ys
 | [],[],_,_=>.nil
 | [],_::_,h,_=>by simp_all
 | _::_,[],h,_=>by simp_all
 | x::xs,y::ys,h,f=>.cons (f 0 x y rfl rfl) (MF (by simpa using h) λi a b h1 h2=>f (i+1) a b (by assumption) (by assumption))
structure InK(env:Env)(s₀:S9)(m cm:Str->Option V9)(s:S9):Prop where
 ic:InCall s₀ env.locals m s
 cell:∀ n c,env.cells.lookup n=some c->s.heap.IsCell c (cm n)
 inj:∀ n n' c,env.cells.lookup n=some c->env.cells.lookup n'=some c->n=n'
 ne:∀ n c,env.cells.lookup n=some c->c≠env.locals
 up:∀ n c,env.kindOf n=some .cell->env.cells.lookup n=some c->env.locals < c
section
variable{M:Model}{A:U9}{E:V9->S9->Prop}{s₀ s:S9}{m cm:Str->O9 V9}{env:Env}
theorem InK.u_(x:InK env s₀ m cm s)(i:env.scope.kind=.function)(j:env.kindOf n=some .local)
  (h:∀ s',InK env s₀ (λy=>if y=n then some v else m y) cm s'->Q () s'):wpAny M A (storeName env n v) Q E s:=by
 refine wpAny_storeName_local j x.ic.ns (λh' d a=>h _ ⟨⟨?_,d,λb o e=>?_,x.ic.fresh⟩,λk c f=>?_,x.inj,x.ne,x.up⟩) (by rw[i];rfl)
 .obtain ⟨g,l,rfl⟩:=x.ic.same
  ext
 .exact a.extBut b o (A0 (AX (AE e) x.ic.fresh)) (x.ic.keep b o e)
 .exact (x.cell k c f).sameBut a (x.ne k c f)
theorem InK.stC(x:InK env s₀ m cm s)(p:env.scope.kind=.function)(i:env.kindOf n=some .cell)
  (f:env.cells.lookup n=some c)
  (h:∀ s',InK env s₀ m (λy=>if y=n then some v else cm y) s'->Q () s'):wpAny M A (storeName env n v) Q E s:=by
 refine wpAny_storeName_cell p i f (x.cell n c f) λh' q a=>h _ ⟨⟨?_,x.ic.ns.sameBut a (A0 (x.up n c i f)),λb o e=>?_,x.ic.fresh⟩,λk j g=>?_,x.inj,x.ne,x.up⟩
 .obtain ⟨l,r,rfl⟩:=x.ic.same
  ext
 .exact a.extBut b o (A0 (GZ (AX (AE e) x.ic.fresh) (x.up n c i f))) (x.ic.keep b o e)
 .by_cases d:k=n
  .grind
  .rw[AM d]
   exact(x.cell k j g).sameBut a λe=>d (x.inj k n j g (e▸f))
theorem InK.binds(f:Str×V9->PUnit->Sem (ForInStep PUnit))(b:∀ n v u,f (n,v) u=(do storeName env n v;pure (.yield ⟨⟩)))(a:env.scope.kind=.function) :
  ∀ (binds:L9 (Str×V9)) (m cm:Str->O9 V9) (s:S9) (Q:PUnit->S9->Prop),InK env s₀ m cm s->
   (∀ x∈binds,env.kindOf x.1=some .local\/(env.kindOf x.1=some .cell/\(env.cells.lookup x.1).isSome=true))->
   (∀ s',InK env s₀ (bindL env.kindOf binds m) (bindC env.kindOf binds cm) s'->Q ⟨⟩ s')->wpAny M A (forIn binds ⟨⟩ f) Q E s
 | [],m,cm,s,Q,x,_,h=>AC (h s x)
 | (n,v)::r,m,cm,s,Q,x,ma,h=>by
  rw[D4,b]
  rcases ma _ A5 with hl|⟨hl,hc⟩
  .refine AA (AA (x.u_ a hl λs' x'=>AC (InK.binds f b a r _ _ s' Q x' (λy hy=>ma y (AU _ hy)) λrj OD=>h rj ?_)))
   unfold bindL bindC;simp_all
  .obtain ⟨c,hc⟩:=FX.mp hc
   refine AA (AA (x.stC a hl hc λs' x'=>AC (InK.binds f b a r _ _ s' Q x' (λy hy=>ma y (AU _ hy)) λrj OD=>h rj ?_)))
   unfold bindL bindC;simp_all
end
theorem kE:∀ (names:L9 (Str×NameKind)) (n:Nat) (b0:L9 (Str×Az)),cellsFrom n names b0=cellsFrom n names []++b0
 | [],_,_=>rfl
 | (x,k)::r,n,b0=>by
  unfold cellsFrom
  split
  · rw [kE r _ _, kE r _ [(x, n)], C9]; rfl
  · exact kE r n b0
theorem oC:∀ (names:L9 (Str×NameKind)) (n:Nat) {x:Str} {c:Az},(x,c)∈cellsFrom n names []->(x,NameKind.cell)∈names
 | [],_,_,_,h=>by simp[cellsFrom]at h
 | (y,k)::r,n,x,c,h=>by
  unfold cellsFrom at h
  split at h
  .rw[kE]at h
   rcases BN.mp h with h|h
   · exact AU _ (oC r _ h)
   ext
  .exact AU _ (oC r _ h)
theorem wS:∀ {l l':L9 (Str×α)},(l++l').lookup x=(l.lookup x).or (l'.lookup x)
 | [],l'=>by simp
 | (y,v)::r,l'=>by
  ext
theorem oE{l:L9 (Str×α)}(h:∀ v,(x,v)∉l):l.lookup x=none:=by ext
noncomputable def b7(qual:Str)(scope:Scope)(L f:Az)(cd:V9)(cl:L9 (Str×Az)):Env:=newEnv scope L mainGlobals (cellsFrom (L+1) scope.names cl) (qual++".<locals>.") (some f) cd none builtinsNs
structure Bt(h:Heap)(scope:Scope)(cl:List (Str×Az))(cm:Str->Option V9):Prop where
 cell:∀ n c,cl.lookup n=some c->h.IsCell c (cm n)
 inj:∀ n n' c,cl.lookup n=some c->cl.lookup n'=some c->n=n'
 off:∀ y∈scope.names,y.2=.cell->cl.lookup y.1=none
section
variable{M:Model}{A:U9}{E:V9->S9->Prop}{s:S9}
theorem ME{binds:L9 (Str×V9)}{Q:Env->S9->Prop}
  (w:scope.kind=.function) (C:Bt s.heap scope cl cm)
  (j:∀ x∈binds,scope.names.lookup x.1=some .local\/scope.names.lookup x.1=some .cell)
  (u:∀ s',InK (b7 qual scope s.heap.objs.size f cd cl) s (bindL (b7 qual scope s.heap.objs.size f cd cl).kindOf binds λ_=>none) (bindC (b7 qual scope s.heap.objs.size f cd cl).kindOf binds λn=>if (cl.lookup n).isSome then cm n else none) s'->Q (b7 qual scope s.heap.objs.size f cd cl) s') :
  wpAny M A (newFunctionEnv scope mainGlobals cl binds (qual++".<locals>.") (some f) cd none builtinsNs) Q E s:=by
 refine AA (wpAny_alloc ?_)
 refine AA (wpAny_layCells _ (λname kind cells=>by rfl) _ _ _ _ ?_)
 have ok:=cellsFrom_ok scope.names (s.heap.push {cls:=.type "frame",data:=.dict #[]}) _ [] ⟨λ_ _ v=>(nomatch v),List.Pairwise.nil⟩ (AG _)
 rw[BX]at ok
 rw[(BX ..)]
 have h:(b7 qual scope s.heap.objs.size f cd cl).cells=cellsFrom (s.heap.objs.size+1) scope.names []++cl:=kE _ _ _
 have i:∀ n c,(b7 qual scope s.heap.objs.size f cd cl).cells.lookup n=some c->((cellsFrom _ scope.names []).lookup n=some c/\cl.lookup n=none)\/((cellsFrom _ scope.names []).lookup n=none/\cl.lookup n=some c):=λn c e=>by
  rw[h,wS]at e
  cases q:(cellsFrom _ scope.names []).lookup n with
  | none=>rw[q]at e;exact .inr ⟨rfl,by assumption⟩
  | some d=>
   rw[q]at e
   have k:=by simpa using e
   cases k
   exact .inl ⟨rfl,C.off _ (oC _ _ (BE q)) rfl⟩
 have big:=λn c e=>(ok.empty n c (BE e)).2
 have a:=λn c e=>(C.cell n c e).lt
 refine AA (InK.binds (s₀:=s)
  _ (λ_ _ _=>rfl) w binds (λ_=>none) (λn=>if (cl.lookup n).isSome then cm n else none) _ _
  ⟨⟨⟨_,_,rfl⟩,(Heap.Ns.new s.heap _).keeps (GL _ _),(λb o e=>GL _ _ b o (AB _ e)),AG _⟩,λn c e=>?_,λn m c e k=>?_,λn c e=>?_,λn c p e=>?_⟩
  (λx t=>?_) λs' x=>AC (u s' x))
 .rcases i n c e with ⟨q,g⟩|⟨q,g⟩
  .rw[g];exact(ok.empty n c (BE q)).1
  .rw[g];exact(C.cell n c g).keeps (λb o e=>GL _ _ b o (AB _ e))
 .rcases i n c e with ⟨q,g⟩|⟨q,g⟩<;>rcases i m c k with ⟨r,l⟩|⟨r,l⟩
  .exact name_of_addr ok.apart (BE q) (BE r)
  .exact absurd (big _ _ q) (GX.mpr (B6 (a _ _ l)))
  .exact absurd (big _ _ r) (GX.mpr (B6 (a _ _ g)))
  .exact C.inj n m c g l
 .rcases i n c e with ⟨q,g⟩|⟨q,g⟩
  .exact CK (big _ _ q)
  .exact A0 (a _ _ g)
 .rcases i n c e with ⟨q,g⟩|⟨q,g⟩
  .exact big _ _ q
  .rw[C.off _ (BE p) rfl]at g;cases g
 .rcases j x t with q|q
  .exact .inl q
  .refine .inr ⟨q,?_⟩
   obtain⟨c,e⟩:=m8 (n:=s.heap.objs.size+1) q
   rw[h,wS,e];rfl
end
noncomputable def gg(cs:L9 Az)(H:Hp):Hp:=λb=>if b∈cs then none else H b
noncomputable def qb(cs:L9 Az)(H H':Hp):Hp:=λb=>if b∈cs then H b else H' b
theorem pH(h:b∈cs):gg cs H b=none:=AI h
theorem bL(h:b∉cs):gg cs H b=H b:=AM h
theorem sN(h:b∈cs):qb cs H H' b=H b:=AI h
theorem dQ(h:b∉cs):qb cs H H' b=H' b:=AM h
theorem iY(h:H b=none):gg cs H b=none:=by
 by_cases q:b∈cs
 · exact pH q
 · rw [bL q]; ext
theorem nC{o:HO}(h:gg cs H b=some o):H b=some o/\b∉cs:=by
 by_cases q:b∈cs
 · rw [pH q]at h; ext
 · rw [bL q]at h; exact⟨h, q⟩
def mW(f:Az)(o:Obj):HO:=.ext λh=>h.get? f=some o
def eQ(c:Az)(o:Obj)(v:V):HO:=.pd o (.ext λh=>∃ u,aR v u/\h.IsCell c (some u))
section
variable{P:P9}{w:W9}{H:Hp}{h:Hz}
theorem mW.get{f:Az}{o:Obj}(x:eh P w H h)(e:H f=some (mW f o)):h.get? f=some o:=(x f _ e).1
theorem eQ.get{c:Az}{o:Obj}{v:V}(x:eh P w H h)(e:H c=some (eQ c o v)):h.get? c=some o/\∃ u,aR v u/\h.IsCell c (some u):=⟨(x c _ e).1,(x c _ e).2.1⟩
theorem mW.ok(e:h.get? f=some o):cI P w H h f (mW f o):=⟨e,⟨o,e⟩,λh1 h2 q k=>k o q⟩
theorem eQ.ok{v:V}(r:aR v u)(e:h.get? c=some o)(b:o.data=.cell (some u)):cI P w H h c (eQ c o v):=
 ⟨e,⟨u,r,o,e,b⟩,⟨o,e⟩,λh1 h2 u k=>by obtain⟨u,r,o,a⟩:=u;exact⟨u,r,o,k o a.1,a.2⟩⟩
end
def kz(cs:L9 Az)(H:Hp):Prop:=∀ c∈cs,∃ o v,H c=some (eQ c o v)
theorem kz.out{cs:L9 Az}{H:Hp}(h:kz cs H){b:Az}{o:HO}(e:H b=some o)(n:∀ o' v,o≠eQ b o' v):b∉cs:=λz=>by
 have o':=h b z
 ext
theorem eh.gg{w:W9}{h:Hz}(x:eh P w H h)(a:kz cs H):eh P w (gg cs H) h:=λb u e=>by
 exact(x b u (nC e).1).d6 (λ_ _ _ q=>q) (λc q=>by rw[bL (a.out q λ_ v z=>nomatch z)];ext) (λc _ q=>by rw[bL (a.out q λ_ v z=>nomatch z)];ext) λc _ q=>by rw[bL (a.out q λ_ v z=>nomatch z)];ext
structure dm(N ps fr:List Str)(sc:Scope):Prop where
 kind:sc.kind=.function
 co:sc.isCoroutine=false
 gen:sc.isGenerator=false
 nd:N.Nodup
 pre:N.take (ps++fr).length=ps++fr
 par:∀ x∈ps,sc.names.lookup x=some .local\/sc.names.lookup x=some .cell
 uj:∀ x∈fr,sc.names.lookup x=some .free
 only:∀ y∈sc.names,y.2=.free->y.1∈fr
 off:∀ y∈sc.names,y.2=.cell->y.1∉fr
structure eu(H:Hp)(fr:List Str)(cl:List (Str×Az))(vs:List V):Prop where
 len:vs.length=fr.length
 only:∀ n c,cl.lookup n=some c->n∈fr
 inj:∀ n n' c,cl.lookup n=some c->cl.lookup n'=some c->n=n'
 at':∀ (i:Nat) x v,fr[i]? = some x->vs[i]? = some v->∃ c o,cl.lookup x=some c/\H c=some (eQ c o v)
theorem eu.get{H:Hp}{fr:L9 Str}{cl:L9 (Str×Az)}{vs:L9 V}(a:eu H fr cl vs){n:Str}{c:Az}(e:cl.lookup n=some c):∃ o v,H c=some (eQ c o v):=by
 obtain⟨i,hi,d⟩:=EB.mp (a.only n c e)
 obtain⟨f,o,b⟩:=a.at' i n (vs[i]'(by rw[a.len];ext)) (by simp_all) (AJ _)
 ext
noncomputable def bB(fr:L9 Str)(cl:L9 (Str×Az)):L9 Az:=fr.filterMap λx=>cl.lookup x
theorem eu.pk{vs:L9 V}(a:eu H fr cl vs):kz (bB fr cl) H:=λc b=>by
 obtain⟨x,e⟩:=DE.mp b
 exact a.get e.2
theorem eu.same{H':Hp}{vs:L9 V}(a:eu H fr cl vs)(s:aH H H'):eu H' fr cl vs:=⟨a.len,a.only,a.inj,λi x v h1 h2=>let ⟨c,o,e,q⟩:=a.at' i x v h1 h2;⟨c,o,e,s _ _ q⟩⟩
noncomputable def mP(CX:nr)(P:P9)(w:W9)(K:Frag)(mg:Str->O9 V9)(base:Hz)(N fr:L9 Str)(qual:Str)(scope:Scope)(f:Az)(cd:V9)(cl:L9 (Str×Az))(A:U9)(outer:L9 Env)(s:S9)(H:Hp)(E:XK):Cx where
 prog:=P
 w:=w
 K:=K
 mg:=mg
 base:=base
 A:=A.deeper (b7 qual scope s.heap.objs.size f cd cl)
 N:=N
 s₀:=s
 H₀:=gg (bB fr cl) H
 env:=b7 qual scope s.heap.objs.size f cd cl
 outer:=outer
 stack:=b7 qual scope s.heap.objs.size f cd cl::outer
 ex:=[]
 calm:=true
 fn:=λx=>(cl.lookup x).isNone
 pn:=[]
 xe:=λe s'=>wpAny (model P w) (A.deeper (b7 qual scope s.heap.objs.size f cd cl)) (leaving (b7 qual scope s.heap.objs.size f cd cl) e) (λ_ rj=>CX outer H s E e rj) (λe' rj=>CX outer H s E e' rj) s'
section
variable{CX:nr}{P:P9}{w:W9}{K:Frag}{mg:Str->O9 V9}{base:Hz}{N ps fr:L9 Str}{qual:Str}{scope:Scope}{f:Az}{cd:V9}{cl:L9 (Str×Az)}{A:U9}{outer:L9 Env}{s s1:S9}{H:Hp}{E:XK}{us:L9 V9}{vs gu:L9 V}
theorem MD{h:Hz}(cj:eh P w H h)(C:eu H fr cl gu):∃ cm:Str->O9 V9,(∀ n c,cl.lookup n=some c->∃ v u,(∃ o,H c=some (eQ c o v))/\aR v u/\cm n=some u/\h.IsCell c (some u)):=by
 have a:∀ n,∃ x:O9 V9,∀ c,cl.lookup n=some c->∃ v u,(∃ o,H c=some (eQ c o v))/\aR v u/\x=some u/\h.IsCell c (some u):=λn=>by
  cases e:cl.lookup n with
  | none=>simp
  | some c=>
   obtain⟨o,v,q⟩:=C.get e
   obtain⟨_,u,r⟩:=eQ.get cj q
   exact⟨some u,λd b=>by cases b;exact⟨v,u,⟨o,q⟩,r.1,rfl,r.2⟩⟩
 exact⟨λn=>(a n).choose,λn c e=>(a n).choose_spec c e⟩
theorem qP{L:Nat}:(b7 qual scope L f cd cl).cells.lookup n=((cellsFrom (L+1) scope.names []).lookup n).or (cl.lookup n):=by
 rw[show(b7 qual scope L f cd cl).cells=cellsFrom _ scope.names []++cl from kE _ _ _,wS]
theorem uO{L:Nat}(S:dm N ps fr scope)(C:eu H fr cl gu)(e:cl.lookup n=some c):(b7 qual scope L f cd cl).cells.lookup n=some c:=by
 rw[qP,oE λv a=>S.off _ (oC _ _ a) rfl (C.only n c e)]
 assumption
theorem yJ(S:dm N ps fr scope)(C:eu H fr cl gu)(U:A.handled=none)(e0:kr P w K mg base A outer s H)(G:vs.length=ps.length)(r:aX vs us)
  (O:∀ n c,cl.lookup n=some c->∃ v u,(∃ o,H c=some (eQ c o v))/\aR v u/\cm n=some u/\s.heap.IsCell c (some u))
  (x:InK (b7 qual scope s.heap.objs.size f cd cl) s (bindL (b7 qual scope s.heap.objs.size f cd cl).kindOf (ps.zip us) λ_=>none) (bindC (b7 qual scope s.heap.objs.size f cd cl).kindOf (ps.zip us) λn=>if (cl.lookup n).isSome then cm n else none) s1) :
  Inv (mP CX P w K mg base N fr qual scope f cd cl A outer s H E) [] (start N (vs++gu)) (gg (bB fr cl) H) s1:=by
 have I:(ps++fr).length<=N.length:=by have:=ES length S.pre;ext
 have T:(vs++gu).length=(ps++fr).length:=by rw[AY,AY,G,C.len]
 obtain⟨h1,V,rfl,B⟩:=x.ic.done
 have j:∀ y c,cl.lookup y=none->(b7 qual scope s.heap.objs.size f cd cl).cells.lookup y=some c->s.heap.objs.size < c:=λy c n e=>by
  rw[qP,n]at e
  have ok:=cellsFrom_ok scope.names (s.heap.push {cls:=.type "frame",data:=.dict #[]}) _ [] ⟨λ_ _ Q=>(nomatch Q),List.Pairwise.nil⟩ (AG _)
  rw[BX]at ok
  exact(ok.empty y c (BE (by simpa using e))).2
 refine⟨⟨e0.mod,S.kind,rfl,rfl,AG _,λy z c h1 h2=>x.inj y z c h1 h2,λy g=>?_,λy c J h=>?_,λ_=>U,Around.frames_deeper e0.frames,.inr ⟨rfl,rfl⟩,λb z=>absurd z ((λb z=>absurd (show b∈([])from z) (by simp)) b),λb o e=>⟨(e0.bs b o e).1,iY (e0.bs b o e).2⟩,e0.qh,λb _ _=>(λb z=>absurd (show b∈([])from z) (by simp)) b,λb z=>absurd z ((λb z=>absurd (show b∈([])from z) (by simp)) b),e0.g_,λb R=>iY (e0.ro b R)⟩,
  rfl,e0.bare,Un.kept B,⟨_,x.ic.ns,λi y v h1 h2 X=>?_⟩,λy c h=>⟨_,x.cell y c h⟩,iY (e0.cj.fresh (AG _)),λy c h=>?_,λp d=>absurd (show p∈([])from d) (by simp),(e0.cj.gg C.pk).kept B,?_⟩
 .have g:scope.names.lookup y=some .cell\/scope.names.lookup y=some .free:=g
  rcases g with g|g
  .obtain ⟨c,e⟩:=m8 g
   exact⟨c,by show(b7 qual scope s.heap.objs.size f cd cl).cells.lookup y=_;rw[qP,e];rfl⟩
  .obtain ⟨i,hi,W⟩:=EB.mp (S.only _ (BE g) rfl)
   obtain⟨c,_,e⟩:=C.at' i y (gu[i]'(by rw[C.len];ext)) (by simp_all) (AJ _)
   exact⟨c,uO S C e.1⟩
 .exact B6 (j y c (FS.mp J) h)
 .have hi:i < (vs++gu).length:=by
   unfold start at h2
   by_cases hi:i < (vs++gu).length
   .exact hi
   .rw[CL (by simpa using hi)]at h2
    rw[DY]at h2
    split at h2<;>cases h2
  have l:(vs++gu)[i]? = some v:=by
   unfold start at h2
   rw[A8 (by simpa using hi),AZ]at h2
   cases e:(vs++gu)[i]? with
   | none=>rw[e]at h2;cases h2
   | some a=>rw[e]at h2;cases h2;rfl
  have d:(ps++fr)[i]? = some y:=by
   rw[<-S.pre,FY (by ext)];exact h1
  have m:ps.Nodup:=(CV.mp (by rw[<-S.pre];exact S.nd.sublist (List.take_sublist _ _))).1
  by_cases D:i < ps.length
  .rw[A8 (by ext)]at l
   rw[A8 D]at d
   obtain⟨u,t⟩:=r.get l
   refine⟨u,t.2,?_⟩
   rcases S.par y (AD d)with k|k
   .exact .inl ⟨k,sD m d t.1 k⟩
   .obtain ⟨c,e⟩:=m8 (n:=s.heap.objs.size+1) k
    have F:(b7 qual scope s.heap.objs.size f cd cl).cells.lookup y=some c:=by rw[qP,e];rfl
    refine .inr ⟨.inl k,c,F,?_⟩
    have q:=x.cell y c F
    rw[sE m d t.1 (by show scope.names.lookup y≠_;rw[k];decide)]at q
    exact q
  .rw[CL (by ext)]at l
   rw[CL (by ext)]at d
   rw[G]at l
   obtain⟨c,o,e⟩:=C.at' _ y v d l
   obtain⟨_,M,r2⟩:=eQ.get e0.cj e.2
   refine⟨M,r2.1,.inr ⟨.inr (S.uj y (AD d)),c,(uO (qual:=qual) (f:=f) (cd:=cd) (L:=s.heap.objs.size) S C e.1),?_⟩⟩
   exact r2.2.keeps B
 .cases e:cl.lookup y with
  | none=>exact iY (e0.cj.fresh (B6 (j y c e h)))
  | some c'=>
   have h':=uO (qual:=qual) (f:=f) (cd:=cd) (L:=s.heap.objs.size) S C e
   have h:(b7 qual scope s.heap.objs.size f cd cl).cells.lookup y=some c:=h
   rw[h]at h';cases h'
   exact pH (DE.mpr ⟨y,C.only y c e,e⟩)
 .unfold start
  show _=N.length
  rw[AY,AL,CQ]
  ext
theorem nE{Z:St}(S:dm N ps fr scope)(C:eu H fr cl gu)(e0:kr P w K mg base A outer s H)(J:Inv (mP CX P w K mg base N fr qual scope f cd cl A outer s H E) av Z H' s') :
  (∀ c∈bB fr cl,H' c=none)/\Un (ph outer) [] H (qb (bB fr cl) H H') s.heap s'.heap/\eh P w (qb (bB fr cl) H H') s'.heap:=by
 have un:Un (ph outer) [] (gg _ H) H' s.heap s'.heap:=J.base
 have h:∀ c∈bB fr cl,H' c=none:=λc j=>by
  obtain⟨x,e⟩:=DE.mp j
  exact J.ek x c (uO S C e.2)
 have out:∀ b,H b=none->b∉bB fr cl:=λb n z=>by
  obtain⟨o,v,q⟩:=C.pk b z
  ext
 refine⟨h,⟨λb o e n h1 h2=>un.keep b o e (iY n) h1 h2,λb o e n h1 h2=>un.slot b o e (iY n) h1 h2,λb o e n h2=>by rw[dQ (out b n)];exact un.free b o e (iY n) h2,un.there,
  λb xs q=>?_,λb o u q=>?_,λb ps q=>?_⟩,λb u e=>?_⟩
 .have a:=C.pk.out q λ_ v z=>nomatch z
  rw[dQ a];exact un.ib b xs (by rw[bL a];ext)
 .by_cases a:b∈bB fr cl
  .rw[sN a];ext
  .rw[dQ a];exact un.hB b o u (by rw[bL a];ext)
 .have a:=C.pk.out q λ_ v z=>nomatch z
  rw[dQ a];exact un.gx b ps (by rw[bL a];ext)
 .by_cases a:b∈bB fr cl
  .rw[sN a]at e
   obtain⟨o,v,q⟩:=C.pk b a
   rw[q]at e;cases e
   obtain⟨i,u,r,l,d,k⟩:=eQ.get e0.cj q
   rw[i]at d;cases d
   exact eQ.ok r (un.keep b o i (pH a) (λz=>by have:=e0.ro b z;simp_all) (by simp)) k
  .rw[dQ a]at e
   have g:∀ c o,H' c=some o->c∉bB fr cl:=λc o q z=>by simp_all
   exact(J.cj b u e).d6 (λ_ _ _ q=>q) (λc q=>by rw[dQ (g c _ q)];ext) (λc _ q=>by rw[dQ (g c _ q)];ext) λc _ q=>by rw[dQ (g c _ q)];ext
end
section
variable{P:P9}{w:W9}{K:Frag}{mg:Str->O9 V9}{base:Hz}{N ps fr:L9 Str}{qual:Str}{scope:Scope}{f:Az}{cd:V9}{cl:L9 (Str×Az)}{A:U9}{outer:L9 Env}{s:S9}{H:Hp}{E:XK}{gu:L9 V}
theorem yK(S:dm N ps fr scope)(C:eu H fr cl gu)(e0:kr P w K mg base A outer s H)
  (h:vi (mP (d4 P w) P w K mg base N fr qual scope f cd cl A outer s H E) (λc e H'=>(∀ a∈bB fr cl,H' a=none)->E c e (qb (bB fr cl) H H')) ev s'):(mP (d4 P w) P w K mg base N fr qual scope f cd cl A outer s H E).xe ev s':=by
 obtain⟨e,j,od,Z,H',rfl,I,k,q⟩:=h
 refine AA (qI (⟨rfl,rfl⟩) I k λr m n=>pD m n λp g i=>?_)
 obtain⟨vs,T,a,b,c,_⟩:=i.tb
 have d:=nE S C e0 g
 have l:∀ c o,H' c=some o->c∉bB fr cl:=λc o q z=>by simp_all
 refine⟨e,j,od,_,rfl,g.os,g.bare,d.2.1,d.2.2,by rw[dQ (l _ _ i.tr)];exact i.tr,⟨vs,T,a,b,λt e1=>⟨?_,(c t e1).2.1⟩⟩,q d.1⟩
 rw[dQ]
 .exact (c t e1).1
 .intro z
  obtain⟨o,v,q⟩:=C.pk t z
  exact absurd (AX (e0.cj.lt q) (c t e1).2.1) (B4 _)
end
structure ej where
 name:Str
 qual:Str
 params:Arguments
 body:FuncBody
 scope:Scope
noncomputable def ej.fd(S:ej)(cl:L9 (Str×Az))(doc pm:V9)(c:Az)(ct:V9):FuncData:=
 {name:=S.name,qualname:=S.qual,params:=S.params,body:=S.body,scope:=S.scope,globals:=mainGlobals,closure:=cl,defaults:=.none,kwdefaults:=.none,doc:=doc,pyModule:=pm,annotations:=none,code:=.ref c,closureTuple:=ct,builtins:=builtinsNs}
abbrev ej.obj(S:ej)(cl:L9 (Str×Az))(doc pm:V9)(c:Az)(ct:V9):Obj:={cls:=.type "function",data:=.func (S.fd cl doc pm c ct)}
section
variable{P:P9}{w:W9}{K:Frag}{mg:Str->O9 V9}{base:Hz}{N ps fr:L9 Str}{S:ej}{f c:Az}{cl:L9 (Str×Az)}{A:U9}{outer:L9 Env}{s:S9}{H:Hp}{E:XK}{Q:VK}{gu vs:L9 V}{us:L9 V9}{args:Args}{doc pm ct:V9}{k:Nat}
theorem NQ(Sc:dm N ps fr S.scope):∀ y∈ps.zip us,S.scope.names.lookup y.1=some .local\/S.scope.names.lookup y.1=some .cell:=λn a=>Sc.par n.1 (EI a).1
theorem Ln{h:Hz}(cj:eh P w H h)(Sc:dm N ps fr S.scope)(C:eu H fr cl gu)(b:∀ n c,cl.lookup n=some c->∃ v u,(∃ o,H c=some (eQ c o v))/\aR v u/\cm n=some u/\h.IsCell c (some u)):Bt h S.scope cl cm where
 cell:=λn c e=>by
  ext
 inj:=C.inj
 off:=λy a d=>by
  cases e:cl.lookup y.1 with
  | none=>rfl
  | some c=>exact absurd (C.only _ _ e) (Sc.off y a d)
theorem Xc(hb:S.body=.stmts body)(y:H f=some (mW f (S.obj cl doc pm c ct)))(p:H c=some (.nq S.qual))(Sc:dm N ps fr S.scope)(C:eu H fr cl gu)(hr:cw (k+1) A)
  (e0:kr P w K mg base A outer s H) (m:BindsTo s (S.fd cl doc pm c ct) args (ps.zip us)) (r:aX vs us) (B:vs.length=ps.length)
  (d:cw k (A.deeper (b7 S.qual S.scope s.heap.objs.size f (.ref c) cl))->∃ t,ix ((mP (d4 P w) P w K mg base N fr S.qual S.scope f (.ref c) cl A outer s H E).mf λc e H'=>(∀ a∈bB fr cl,H' a=none)->E c e (qb (bB fr cl) H H')) body t /\
   t {nx:=λ_ H'=>(∀ a∈bB fr cl,H' a=none)->Q .fg (qb (bB fr cl) H H'),rt:=λv H'=>(∀ a∈bB fr cl,H' a=none)->Q v (qb (bB fr cl) H H')} (start N (vs++gu)) (gg (bB fr cl) H)) :
  codeAny (model P w) A (.call (.ref f) args) (CR (d4 P w) outer P w H s Q E) s:=by
 obtain⟨cm,h⟩:=MD e0.cj C
 refine EW hr.depth (mW.get e0.cj y) rfl Sc.co Sc.gen hb (e0.cj c _ p) (m _ _ _ _ ?_)
 refine ME Sc.kind (Ln e0.cj Sc C h) (NQ Sc) λs1 x=>?_
 refine⟨(e0.mod.nolimit.keeps λb o e=>(e0.bs b o e).1).keeps x.ic.keep,codeAny_func ?_⟩
 obtain⟨t,n⟩:=d (hr.deeper _)
 refine BI ((n.1.rb λ_ _ z=>yK Sc C e0 z) [] s1 _ _ _ (yJ Sc C hr.hd e0 B r h x) n.2) (λD s' g=>?_) λe s' g=>g
 have i:∀ {j:St} {H':Hp} {v:V} {u:V9},Inv (mP (d4 P w) P w K mg base N fr S.qual S.scope f (.ref c) cl A outer s H E) [] j H' s'->aR v u->((∀ a∈bB fr cl,H' a=none)->Q v _)->CE outer P w H s Q u s':=
  λ{j H' v u} J rv q=>by
   have l:=nE Sc C e0 J
   exact⟨v,_,J.os,J.bare,l.2.1,l.2.2,rv,q l.1⟩
 cases D with
 | ret u=>
  obtain⟨v,j,H',J⟩:=g
  exact i J.1 J.2.1 J.2.2
 | next=>
  obtain⟨j,H',J⟩:=g
  exact i (v:=V.fg) J.1 rfl J.2
 | brk=>
  obtain⟨_,_,q⟩:=g
  simp_all
 | cont=>
  obtain⟨_,_,q⟩:=g
  simp_all
theorem V2{body:Ez}(hb:S.body=.expr body)(m:H f=some (mW f (S.obj cl doc pm c ct)))(l:H c=some (.nq S.qual))(Sc:dm N ps fr S.scope)(C:eu H fr cl gu)(hr:cw (k+1) A)
  (e0:kr P w K mg base A outer s H) (h:BindsTo s (S.fd cl doc pm c ct) args (ps.zip us)) (r:aX vs us) (n:vs.length=ps.length)
  (d:cw k (A.deeper (b7 S.qual S.scope s.heap.objs.size f (.ref c) cl))->∃ t,PE ((mP (d4 P w) P w K mg base N fr S.qual S.scope f (.ref c) cl A outer s H E).mf λc e H'=>(∀ a∈bB fr cl,H' a=none)->E c e (qb (bB fr cl) H H')) body t /\
   t (start N (vs++gu)) (gg (bB fr cl) H) λv H'=>(∀ a∈bB fr cl,H' a=none)->Q v (qb (bB fr cl) H H')) :
  codeAny (model P w) A (.call (.ref f) args) (CR (d4 P w) outer P w H s Q E) s:=by
 obtain⟨cm,g⟩:=MD e0.cj C
 refine PySem.W.kla_callFunE hr.depth (mW.get e0.cj m) rfl Sc.co Sc.gen hb (e0.cj c _ l) (h _ _ _ _ ?_)
 refine ME Sc.kind (Ln e0.cj Sc C g) (NQ Sc) λs1 x=>?_
 refine⟨(e0.mod.nolimit.keeps λb o e=>(e0.bs b o e).1).keeps x.ic.keep,PySem.W.kla_codeExpr ?_⟩
 obtain⟨t,j⟩:=d (hr.deeper _)
 refine BI (j.1 [] s1 _ _ _ ((yJ Sc C hr.hd e0 n r g x).gw _) j.2) (λu s' i=>?_) λe s' i=>yK Sc C e0 i
 obtain⟨v,H',J⟩:=i
 exact⟨v,_,J.1.os,J.1.bare,(nE Sc C e0 J.1.cx).2.1,(nE Sc C e0 J.1.cx).2.2,J.2.1,J.2.2 (nE Sc C e0 J.1.cx).1⟩
end
theorem XO:∀ (names:L9 (Str×NameKind)) (b0:L9 (Str×Az)),(∀ x∈names,x.2=.free->∃ c,env.cells.lookup x.1=some c)->
  (∀ x c,b0.lookup x=some c->env.cells.lookup x=some c)->
  ∃ cl,(forIn names b0 λx r=>(if (x.2 == NameKind.free)=true then(do let a <-cellOf env x.1;pure (ForInStep.yield ((x.1,a)::r)))else pure (ForInStep.yield r)):Sem (L9 (Str×Az)))=pure cl /\
   (∀ x c,cl.lookup x=some c->env.cells.lookup x=some c)/\(∀ x∈names,x.2=.free->∃ c,cl.lookup x.1=some c)/\(∀ x c,b0.lookup x=some c->∃ c',cl.lookup x=some c') /\
   (∀ x c,cl.lookup x=some c->(∃ c',b0.lookup x=some c')\/(x,NameKind.free)∈names):=by
 intro names
 induction names with
 | nil=>intro b0 _ h;exact⟨b0,rfl,h,λx j=>absurd j (by simp),λx c e=>⟨c,e⟩,λx c e=>.inl ⟨c,e⟩⟩
 | cons x r ih=>
  intro b0 f h
  obtain⟨n,k⟩:=x
  by_cases i:k=.free
  .subst i
   obtain⟨c,g⟩:=f _ A5 rfl
   obtain⟨cl,e1,e2,o,m⟩:=ih _ (λy b=>f y (AU _ b)) (λy d e=>by
    rw[BR]at e
    cases q:y == n with
    | true=>rw[q]at e;cases e;have:=eq_of_beq q;subst this;exact g
    | false=>rw[q]at e;exact h y d e)
   refine⟨cl,?_,e2,λy b l=>?_,λy d e=>?_,λy d e=>?_⟩
   .rw[D4]
    simp only[DV,CG]
    unfold cellOf
    simp only[g,pure_bind]
    exact e1
   .rcases AQ.mp b with z|z
    · simp_all
    · ext
   .by_cases q:y=n
    · simp_all
    · exact m.1 y d (by rw [BR, C7 q]; exact e)
   .grind
  .obtain ⟨cl,e1,e2⟩:=ih b0 (λy b=>f y (AU _ b)) h
   ext
structure u2(cells:List (Str×Az))(sc:Scope)(cl:List (Str×Az)):Prop where
 of:∀ x c,cl.lookup x=some c->cells.lookup x=some c
 all:∀ x∈sc.names,x.2=.free->∃ c,cl.lookup x.1=some c
 only:∀ x c,cl.lookup x=some c->(x,NameKind.free)∈sc.names
theorem Yv(a:∀ x∈scope.names,x.2=.free->∃ c,env.cells.lookup x.1=some c) :
  ∃ cl,closureFor scope env=pure cl/\u2 env.cells scope cl:=by
 obtain⟨cl,e1,e2,b,_,d⟩:=XO scope.names [] a (λx c e=>by simp_all)
 refine⟨cl,?_,e2,b,λx c e=>?_⟩
 .unfold closureFor
  ext
 ext
theorem Xb{pos:Pos}{r:L9 V9}(l:L9 V9)(h:TriplesOk l):codeAmong pos (l++r)=(codeAmong pos l).or (codeAmong pos r):=by
 fun_induction TriplesOk l with
 | case1=>rfl
 | case2 a t b u x rest ih=>
  simp only[A7,codeAmong]
  split
  · rfl
  · exact ih h
 | case3 l h1 h2=>exact h.elim
structure Tb(mg:Str->Option V9)(base:Heap)(c0 P0:Az):Prop where
 hd:CodeHd base c0 P0
 bt:∃ bm ob,mg "__builtins__"=some (.ref bm)/\bm≠builtinsNs/\base.get? bm=some ob/\ob.cls=.type "module"/\ob.dict=some builtinsNs/\ob.data=.plain
section
variable{X:Cx}{av:L9 (Az×Obj)}{Z:St}{H:Hp}{s:S9}{c0 P0:Az}{qs:L9 (Pos×Str)}{pos:Pos}{q:Str}
theorem Xa{ps:Array V9}{h h':Hz}(t:eh X.prog X.w H h)(y:H P0=some (.lW qs))(x:h.get? P0=some (tabObj ps))(l:TriplesOk ps.toList)(a:∀ p∈qs,codeAmong p.1 ps.toList=none\/∃ c,codeAmong p.1 ps.toList=some (.ref c)/\H c=some (.nq p.2))
  (o:∀ p∈qs,p.1.line=pos.line->p.1.col=pos.col->p.2=q) (A:codeAmong pos ps.toList=none) (g:H c=none) (hx:Heap.ExtBut P0 h h') (k:h'.CodeRec (.ref c) q) (j:h'.get? P0=some (tabObj (ps ++ #[rawInt pos.line,rawInt pos.col,.ref c]))) :
  eh X.prog X.w (upd H c (.nq q)) h':=λb u e=>by
 by_cases n:b=c
 .subst n;rw[aI]at e;cases e;exact k
 .rw[aE n]at e
  by_cases i:b=P0
  .subst i
   rw[y]at e;cases e
   refine⟨_,j,?_,λp m=>?_⟩
   .rw[Array.toList_append];exact TriplesOk_snoc _ _ _ _ l
   .rw[Array.toList_append,Xb _ l]
    rcases a p m with z|⟨d,z,s⟩
    .rw[z]
     by_cases f:p.1.line=pos.line/\p.1.col=pos.col
     .refine .inr ⟨c,?_,?_⟩
      .rw[<-f.1,<-f.2]
       exact codeAmong_snoc [] trivial rfl
      .rw[o p m f.1 f.2];exact aI
     .refine .inl ?_
      simp[codeAmong,rawInt]
      ext
    .refine .inr ⟨d,by rw[z];rfl,?_⟩
     rw[aE (aW s g)];ext
  .refine (t b u e).d6 (λd v B r=>hx d v ?_ r) (λd r=>by rw[aE (aW r g)];ext) (λd _ r=>by rw[aE (aW r g)];ext) λd _ r=>by rw[aE (aW r g)];ext
   ext
def Oz(H:Hp)(q:Str)(c:Az)(H1:Hp):Prop:=(H c=some (.nq q)/\H1=H)\/(H c=none/\H1=upd H c (.nq q))
theorem MC {S : ej} {M : Model} {A : U9} {E : V9 -> S9 -> Prop} {Q : V9 -> S9 -> Prop} {g : Nat} (I : Inv X av Z H s) (d : X.env.code = .ref c0) (T : Tb X.mg X.base c0 P0) (hP : H P0 = some (.lW qs)) (hq : (pos, S.qual) ∈ qs)
    (hu : ∀ p ∈ qs, p.1.line = pos.line -> p.1.col = pos.col -> p.2 = S.qual) (w : ∀ x ∈ S.scope.names, x.2 = .free -> ∃ c, X.env.cells.lookup x.1 = some c)
    (h : ∀ f c cl doc pm ct H1 s', Oz H S.qual c H1 -> H1 f = none -> u2 X.env.cells S.scope cl -> Inv X av Z (upd H1 f (mW f (S.obj cl doc pm c ct))) s' -> Q (.ref f) s') :
    wpAny M A (makeFunction S.name S.qual S.params S.body S.scope X.env [] [] [] pos g) Q E s := by
  obtain⟨cl, i⟩ := Yv w
  obtain⟨ps, l, F, t⟩ := ((I.cj P0 _ hP))
  have C := T.hd.keeps I.bk
  have D := I.mod.glob.keeps I.bk
  have N : mainGlobals ≠ P0 := λz => by
    obtain⟨o, es, ep, e, hd, _⟩ := D
    ext
  obtain⟨bm, ob, b1, b2, b3, b4, V⟩ := T.bt
  have U := I.bk _ _ b3
  have R : bm ≠ mainGlobals := λz => by
    obtain⟨o, es, ep, e, hd, _⟩ := D
    ext
  have P : s.heap.BuiltinsAt X.mg P0 := ⟨bm, ob, b1, b2, R, (λz => by ext), U, b4, V.1, V.2⟩
  rcases t _ hq with y | ⟨c, Y, hc⟩
  · have j : ∀ m a doc h' q, Heap.ExtBut P0 s.heap h' -> s.heap.objs.size <= m -> m < h'.objs.size -> h'.CodeRec (.ref m) S.qual -> h'.get? P0 = some (tabObj (ps ++ #[rawInt pos.line, rawInt pos.col, .ref m])) ->
        Q (.ref h'.objs.size) { s with heap := h'.push (S.obj cl doc ((X.mg "__name__").getD .none) m a), toks := q } := by
      intro m a doc h' q O k L J K
      have v := Xa I.cj hP l F t hu y (I.cj.fresh k) O J K
      have r := v.fresh (AG _)
      refine h h'.objs.size m cl doc ((X.mg "__name__").getD .none) a _ _ (.inr ⟨(I.cj.fresh k), rfl⟩) r i.2 ?_
      have B : ∀ b o, H b = some o -> b ≠ m /\ b ≠ h'.objs.size := λb o e => ⟨aW e (I.cj.fresh k), λz => by
        rw [z]at e
        rw [aE (CK L)]at r; ext⟩
      refine I.un ⟨λb o e n _ _ => AB _ (O b o ((λb n z => by ext) b n) e), λb o e n _ _ => ⟨o.slots, AB _ (O b o ((λb n z => by ext) b n) e)⟩, λb o e n _ => ?_, λb o e _ => ?_, λb xs e => ?_, λb o u e => ?_, λb qs e => ?_⟩ ?_
      · rw [aE (A0 (AX (AE e) (A6 k (B6 L)))), aE (A0 (AX (AE e) k))]; ext
      · by_cases z : b = P0
        · subst z; exact⟨_, AB _ K⟩
        · exact⟨o, AB _ (O b o z e)⟩
      · rw [aE (B b _ e).2, aE (B b _ e).1]; exact e
      · rw [aE (B b _ e).2, aE (B b _ e).1]; exact e
      · rw [aE (B b _ e).2, aE (B b _ e).1]; exact e
      · exact v.laid (λb u e => AB _ e) (AG _) (mW.ok (AN _ rfl))
    obtain⟨name, qual, params, body, scope⟩ := S
    cases body with
    | stmts body => exact PySem.W.makeFunction_K i.1 I.ok.glob D d C l F y N P j
    | expr body => exact PySem.W.kla_makeFunction i.1 I.ok.glob D d C l F y N P λm a h' q => j m a .none h' q
  · have j : ∀ (a doc : V9) (h' : Hz) (q : Tok), (∀ b o, s.heap.get? b = some o -> h'.get? b = some o) -> s.heap.objs.size <= h'.objs.size ->
        Q (.ref h'.objs.size) { s with heap := h'.push (S.obj cl doc ((X.mg "__name__").getD .none) c a), toks := q } := by
      intro a doc h' q hk G
      refine h h'.objs.size c cl doc ((X.mg "__name__").getD .none) a H _ (.inl ⟨hc, rfl⟩) (I.cj.fresh G) i.2 ?_
      exact I.laid (λb u e => AB _ (hk b u e)) G (mW.ok (AN _ rfl))
    obtain⟨name, qual, params, body, scope⟩ := S
    cases body with
    | stmts body => exact PySem.W.makeFunction_hit i.1 I.ok.glob D d C l F Y P j
    | expr body => exact PySem.W.kla_makeFunctionHit i.1 I.ok.glob D d C l F Y P λa h' q => j a .none h' q
def zd(cells:L9 (Str×Az))(S:ej)(P0:Az)(qs:L9 (Pos×Str)):TE:=λZ H Q=>H P0=some (.lW qs)/\∀ f c cl doc pm ct H1,Oz H S.qual c H1->H1 f=none->u2 cells S.scope cl->Q (.ref f) (upd H1 f (mW f (S.obj cl doc pm c ct)))
theorem Lm(a:X.env.code=.ref c0)(T:Tb X.mg X.base c0 P0)(j:qualnameIn X.env x x=q)(t:(pos,q)∈qs)
  (n:∀ p∈qs,p.1.line=pos.line->p.1.col=pos.col->p.2=q) (b:∀ y∈scope.names,y.2=.free->X.env.kindOf y.1=some .cell\/X.env.kindOf y.1=some .free)
  (d:params.defaults=[]) (k:params.kw_defaults=[]) (o:annTrees params none X.env=[])
  (w:X.N.Nodup) (hi:X.N[i]? = some x) (hx:Loc X.env.scope x) (r:X.fn x=true\/X.env.scope.names.lookup x=some .local:=by exact .inl rfl) :
  PS X (.FunctionDef x params body [] none [] scope none x pos) (jR (zd X.env.cells ⟨x,q,params,.stmts body,scope⟩ P0 qs) (fQ i)):=by
 intro av s Z H D I h
 refine PySem.W.nestDef_K d k o ?_
 rw[j]
 refine MC (S:=⟨x,q,params,.stmts body,scope⟩) I a T h.1 t n (λy u e=>I.ok.has _ (b y u e)) λf c cl doc pm ct H1 s' z B m l=>?_
 exact m6 l w hi hx (v:=.ref f) rfl (λA g=>⟨_,_,g,h.2 f c cl doc pm ct H1 z B m⟩) r
theorem RK{body:Ez}(a:X.env.code=.ref c0)(T:Tb X.mg X.base c0 P0)(e:X.env.qual++("<lambda>":Str)=q)(n:(pos,q)∈qs)
  (m:∀ p∈qs,p.1.line=pos.line->p.1.col=pos.col->p.2=q) (b:∀ y∈scope.names,y.2=.free->X.env.kindOf y.1=some .cell\/X.env.kindOf y.1=some .free)
  (d:defaultsOf params X.env=([],[])) :
  PE X (.Lambda params body scope pos) (zd X.env.cells ⟨"<lambda>",q,params,.expr body,scope⟩ P0 qs):=by
 intro av s Z H Q I h
 refine PySem.W.kla_eval d ?_
 rw[e]
 exact MC (S:=⟨"<lambda>",q,params,.expr body,scope⟩) I a T h.1 n m (λy o g=>I.ok.has _ (b y o g)) λf c cl doc pm ct H1 s' j k l i=>⟨.ref f,_,i,rfl,h.2 f c cl doc pm ct H1 j k l⟩
end
abbrev Cv:=L9 (Az×Obj×V)
noncomputable def lg(cv:Cv)(H:Hp):Hp:=λb=>match cv.lookup b with
 | some p=>some (eQ b p.1 p.2)
 | none=>H b
noncomputable def cN(cv:Cv):L9 Az:=cv.map (·.1)
theorem gK{c:Cv}:b∈cN c↔∃ p,c.lookup b=some p:=by
 unfold cN
 induction c with
 | nil=>simp
 | cons a r ih=>
  rw[AV,AQ,ih,BR]
  by_cases h:b=a.1
  .subst h;simp
  .rw[C7 h]
   simp[h]
theorem pI{a:Cv}{H:Hp}{p:Obj×V}(h:a.lookup b=some p):lg a H b=some (eQ b p.1 p.2):=by unfold lg;rw[h]
theorem dC{a:Cv}(h:b∉cN a):lg a H b=H b:=by
 unfold lg
 cases e:a.lookup b with
 | none=>rfl
 | some p=>exact absurd (gK.mpr ⟨p,e⟩) h
theorem dR{a:Cv}(c:∀ b∈cN a,H b=none):aH H (lg a H):=λb o e=>by
 rw[dC λz=>by simp_all];ext
theorem Ew{w:W9}{fs:L9 Az}{a:Cv}{H1:Hp}{h h':Hz}(l:∀ b∈cN a,H b=none)(j:eh P w (lg a H) h)(un:Un fs [] (lg a H) H1 h h')(vc:eh P w H1 h') :
  Un fs [] H (gg (cN a) H1) h h'/\eh P w (gg (cN a) H1) h':=by
 have Cz:∀ b,b∈cN a->∃ o v,h.get? b=some o/\h'.get? b=some o/\H1 b=some (eQ b o v):=λb d=>by
  obtain⟨⟨o,v⟩,e⟩:=gK.mp d
  have g:=un.hB b o _ (pI (H:=H) e)
  exact⟨o,v,(eQ.get j (pI (H:=H) e)).1,(eQ.get vc g).1,g⟩
 have out:∀ b u,H b=some u->b∉cN a:=λb u e z=>by simp_all
 refine⟨⟨λb o e n h1 h2=>?_,λb o e n h1 h2=>?_,λb o e n h2=>?_,un.there,λb xs q=>?_,λb o u q=>?_,λb ps q=>?_⟩,λb u e=>?_⟩
 .by_cases d:b∈cN a
  .grind
  .exact un.keep b o e (by rw[dC d];ext) h1 h2
 .by_cases d:b∈cN a
  .obtain ⟨o',v,i,k⟩:=Cz b d
   rw[e]at i;cases i;exact⟨o.slots,k.1⟩
  .exact un.slot b o e (by rw[dC d];ext) h1 h2
 .by_cases d:b∈cN a
  .exact pH d
  .rw[bL d];exact un.free b o e (by rw[dC d];ext) h2
 .rw[bL (out b _ q)];exact un.ib b xs (by rw[dC (out b _ q)];ext)
 .rw[bL (out b _ q)];exact un.hB b o u (by rw[dC (out b _ q)];ext)
 .rw[bL (out b _ q)];exact un.gx b ps (by rw[dC (out b _ q)];ext)
 .have f:∀ c o,H1 c=some o->(∀ o' v,o≠eQ c o' v)->c∉cN a:=λc o q n z=>by
   ext
  exact(vc b u (nC e).1).d6 (λ_ _ _ q=>q) (λc q=>by rw[bL (f c _ q λ_ _ z=>nomatch z)];ext) (λc _ q=>by rw[bL (f c _ q λ_ _ z=>nomatch z)];ext) λc _ q=>by rw[bL (f c _ q λ_ _ z=>nomatch z)];ext
structure ka(X:Cx)(Z:St)(H:Hp)(js:List Nat)(cv:Cv):Prop where
 at':∀ b o v,cv.lookup b=some (o,v)->∃ x j,j∈js/\X.N[j]? = some x/\X.env.cells.lookup x=some b/\Z[j]? = some (some v)
 all:∀ j∈js,∃ x c o v,X.N[j]? = some x/\X.env.cells.lookup x=some c/\Z[j]? = some (some v)/\cv.lookup c=some (o,v)
 free:∀ b∈cN cv,H b=none
 inj:∀ x y c,X.env.cells.lookup x=some c->X.env.cells.lookup y=some c->x=y
section
variable{X:Cx}{av:L9 (Az×Obj)}{Z:St}{H:Hp}{s:S9}
def wU(X:Cx)(Z:St)(j:Nat):Prop:=∃ x v,X.N[j]? = some x/\X.env.kindOf x=some .cell/\X.fn x=true/\Z[j]? = some (some v)
theorem IA(I:Inv X av Z H s):∀ (js:L9 Nat),(∀ j∈js,wU X Z j)->∃ cv,ka X Z H js cv/\∀ b o v,cv.lookup b=some (o,v)->(∃ u,s.heap.get? b=some o/\o.data=.cell (some u)/\aR v u)/\X.s₀.heap.objs.size<=b/\∃ x,X.env.cells.lookup x=some b
 | [],_=>⟨[],⟨λb o v e=>by simp_all,λj hj=>by simp_all,λb hb=>by simp[cN]at hb,I.ok.inj⟩,λb o v e=>by simp_all⟩
 | j::js,hj=>by
  obtain⟨cv,R,ok⟩:=IA I js λC h'=>hj C (AU _ h')
  obtain⟨x,v,l,g,h⟩:=hj j A5
  obtain⟨m,L⟩:=I.loc
  obtain⟨u,r⟩:=L.2 j x v l h.2 (.inr (.inl g))
  rcases r.2 with ⟨K,_⟩|⟨_,c,d,o,B,F⟩
  .grind
  .have i:=I.ok.vx x c h.1 d
   by_cases f:c∈cN cv
   .obtain ⟨⟨o',a⟩,e⟩:=gK.mp f
    obtain⟨t,C,p⟩:=R.at' c o' a e
    have D:=I.ok.inj x t c d p.2.2.1
    refine⟨cv,⟨λb o v e=>?_,λk g=>?_,R.free,R.inj⟩,ok⟩
    .obtain ⟨x,j,h1⟩:=R.at' b o v e
     exact⟨x,j,AU _ h1.1,h1.2⟩
    .rcases AQ.mp g with z|z
     .subst z
      obtain⟨⟨E,y,M,J⟩,_⟩:=ok c o' a e
      rw[B]at y;cases y
      have:u=E:=by ext
      subst this
      have q:=aR.inj r.1 J
      subst q
      exact⟨x,c,_,v,l,d,h.2,e⟩
     .exact R.all k z
   .refine ⟨(c,o,v)::cv,⟨λb o' a e=>?_,λk g=>?_,λb hb=>?_,R.inj⟩,λb o' a e=>?_⟩
    .rw[BR]at e
     by_cases hb:b=c
     .subst hb
      simp only[DV]at e
      cases e
      exact⟨x,j,A5,l,d,h.2⟩
     .rw[C7 hb]at e
      obtain⟨x,j,h1⟩:=R.at' b o' a e
      exact⟨x,j,AU _ h1.1,h1.2⟩
    .rcases AQ.mp g with z|z
     .subst z
      exact⟨x,c,o,v,l,d,h.2,by rw[BR];simp⟩
     .obtain ⟨t,A,o',a,h1,h2,G,n⟩:=R.all k z
      refine⟨t,A,o',a,h1,h2,G,?_⟩
      rw[BR,C7 (show A≠c from λz=>by rw[z]at n;exact f (gK.mpr ⟨_,n⟩))];exact n
    .have w:b=c\/b∈cN cv:=by simpa[cN] using hb
     rcases w with z|z
     .subst z;exact I.ek x b d
     .exact R.free b z
    .rw[BR]at e
     by_cases hb:b=c
     .subst hb
      simp only[DV]at e
      cases e
      exact⟨⟨u,B,F,r.1⟩,i,x,d⟩
     .rw[C7 hb]at e
      exact ok b o' a e
theorem MB(I:Inv X av Z H s){js:L9 Nat}{d:Cv}(R:ka X Z H js d)(ok:∀ b o v,d.lookup b=some (o,v)->(∃ u,s.heap.get? b=some o/\o.data=.cell (some u)/\aR v u)/\X.s₀.heap.objs.size<=b/\∃ x,X.env.cells.lookup x=some b) :
  kr X.prog X.w X.K X.mg X.base X.A X.stack s (lg d H) where
 frames:=I.ok.frames
 mod:=I.ok.mod
 bs:=λb o e=>⟨(I.bs b o e).1,by
  rw[dC]
  .exact (I.bs b o e).2
  .intro z
   obtain⟨⟨o',v⟩,q⟩:=gK.mp z
   have h1:=(ok b o' v q).2.1
   have h2:=AE e
   exact absurd (AX h2 (A6 I.ok.qh h1)) (B4 _)⟩
 qh:=A6 I.ok.qh I.sz
 g_:=I.stack
 ro:=λb a=>by
  rw[dC]
  .exact I.ly b a
  .intro z
   obtain⟨⟨o',v⟩,q⟩:=gK.mp z
   obtain⟨_,h1,x,h⟩:=ok b o' v q
   rcases AQ.mp (I.l0 b a)with f|f
   .exact I.wg x b h f
   .obtain ⟨_,o,g,_⟩:=I.ok.g_.mem f
    exact absurd (AX (AE g) h1) (B4 _)
 cj:=λb u e=>by
  by_cases a:b∈cN d
  .obtain ⟨⟨o,v⟩,q⟩:=gK.mp a
   rw[pI q]at e;cases e
   obtain⟨⟨u,h1,h2,i⟩,_⟩:=ok b o v q
   exact eQ.ok i h1 h2
  .rw[dC a]at e
   exact(I.cj b u e).d6 (λ_ _ _ q=>q) (λc q=>dR R.free _ _ q) (λc _ q=>dR R.free _ _ q) λc _ q=>dR R.free _ _ q
 bare:=I.bare
def Ll(X:Cx)(js:L9 Nat)(sp:Sp)(E:XK)(t:TA):TE:=λZ H Q=>t Z H λvs H1=>(∀ j∈js,wU X Z j)/\∀ cv,ka X Z H1 js cv->sp vs (lg cv H1) (λv H2=>Q v (gg (cN cv) H2)) (λc e H2=>E c e (gg (cN cv) H2)/\∀ a,e=some a->a∉cN cv)
theorem RJ{sp:Sp}{E:XK}{p pos:Pos}{e:Ez}{es:L9 Ez}{t:TA}{js:L9 Nat}(C:Calls X.prog X.w X.K X.mg X.base (d4 X.prog X.w) k x ps sp)(hr:cw k X.A)(D:Gl X x)(hx:fR (d4 X.prog X.w) X E)(y:PA X (e::es) t)(g:autoParam ((x == ("__debug__":Str))=false) z5)
  (he:autoParam (starEach (e::es) X.env=(false,eval e X.env)::starEach es X.env) z3) (gk:autoParam ((backTo pos (starEach es X.env)).any (·.1)=false) z3):PE X (.Call (.Name x p) (e::es) [] pos) (Ll X js sp E t):=by
 obtain⟨f,fd,F⟩:=C
 intro av s Z H Q I h
 refine B2 (iC I D F.2.2.1 ?_ g)
 refine B3 I.ok.mod.jy F.2.2.2 (cz (y pos av s Z H _ I h) λus s1 ⟨vs,H1,a,r,c,q⟩=>⟨a.ee,?_⟩) he gk
 obtain⟨m,R,ok⟩:=IA a js c
 have e0:=MB a R ok
 have L:us.length=ps.length:=by rw[<-r.length];exact F.1.len _ _ _ _ (q m R)
 have l:=F.2.1 s1 us a.ee (by simp_all)
 rw[CO]at l
 refine DO (DF (F.1.run X.A X.stack s1 _ _ us vs _ _ hr e0 l r (q m R)) λJ s' j=>?_)
 cases J with
 | error ev=>
  obtain⟨e,C,od,H',rfl,os,b,un,cj,z,⟨d,T,n,G,i⟩,B,o⟩:=j
  refine hx av Z H1 s1 _ s' a ⟨e,C,od,gg _ H',rfl,os,b,(Ew R.free e0.cj un cj).1,(Ew R.free e0.cj un cj).2,?_,⟨d,T,n,G,λt e1=>?_⟩,B⟩
  .rw[bL (o e rfl)];ext
  .exact ⟨iY (i t e1).1,(i t e1).2⟩
 | ok fl=>
  cases fl with
  | ret u=>
   obtain⟨v,H',os⟩:=j
   exact a.after ⟨v,gg _ H',os.1,os.2.1,(Ew R.free e0.cj os.2.2.1 os.2.2.2.1).1,(Ew R.free e0.cj os.2.2.1 os.2.2.2.1).2,os.2.2.2.2.1,os.2.2.2.2.2⟩
  | next=>assumption
  | brk=>assumption
  | cont=>assumption
end
noncomputable def Bf(Ps:L9 Az)(qs:L9 (Pos×Str)):Hp:=λb=>if b∈Ps then some (.lW qs)else none
def Be(mg:Str->O9 V9)(h base:Hz)(T:Hp)(qs:L9 (Pos×Str))(xs:L9 Str):Prop:=
 ∀ x∈xs,∃ c0 P0,T P0=some (.lW qs)/\Tb mg base c0 P0/\∀ f o fd,mg x=some (.ref f)->h.get? f=some o->o.data=.func fd->fd.code=.ref c0
theorem W_{w:W9}{mb:Str->O9 V9}{CX:nr}{Y:Az}{fd:FuncData}{c:S9}{ns:L9 Int}{qs:L9 (Pos×Str)}{xs:L9 Str}{tb:Str->Az×Az}
  (S:∀ x∈xs,CodeHd c.heap (tb x).1 (tb x).2/\c.heap.get? (tb x).2=some (tabObj #[])) (ac:∀ x∈xs,∀ f o fd,mg x=some (.ref f)->c.heap.get? f=some o->o.data=.func fd->fd.code=.ref (tb x).1)
  (af:∃ bm ob,mg "__builtins__"=some (.ref bm)/\bm≠builtinsNs/\c.heap.get? bm=some ob/\ob.cls=.type "module"/\ob.dict=some builtinsNs/\ob.data=.plain) (xk:noTabs K=true)
  (KX:K.In c.heap) (J:c.heap.Ns mainGlobals mg) (hb:c.heap.Ns builtinsNs mb) (Z:∀ x:Str,x≠"__name__"->mb x=bootBuiltins x) (L:c.heap.NoLimit) (hg:c.gens = #[])
  (ha:c.heap.get? a=some {cls:=.type "list",data:=.seq vs.toArray}) (hi:IntsAre vs ns) (hl:ns.length<=sizeLine) (hr:cw k callerA)
  (F:∀ (base:Hz) (T:Hp),K.In base->base.Ns mainGlobals mg->Be mg c.heap base T qs xs->∃ sp,c5 P w K mg base CX k Y fd [x] sp/\∀ H:Hp,aH T H->d_ K H a (ns.map V.int)->sp [.ref a] H (λv _=>v=.bl true) λ_ _ _=>False) (zy:∀ (s:S9) (u:V9),BindsTo s fd ⟨[u],[]⟩ [(x,u)])
  (OW:∀ H e s',CX [] H c (λ_ _ _=>False) e s'->False) :
  codeAny (model P w) callerA (.call (.ref Y) ⟨[.ref a],[]⟩) (λr s'=>r=.ok (.ret (.bool true))/\OldK c.heap s'.heap/\s'.os=c.os/\AllBare s'.gens) c:=by
 let Ps:=xs.map λx=>(tb x).2
 have B:∀ b∈Ps,c.heap.get? b=some _/\isCodeTable c.heap b:=λb hb=>by
  obtain⟨y,I,rfl⟩:=BG.mp hb
  exact⟨(S y I).2,((S y I).1.tab (S y I).2).isCodeTable⟩
 have G:a∉Ps:=λz=>by simp_all
 have aa:∀ b∈Ps,K.lookup b=none:=λb hb=>by
  cases e:K.lookup b with
  | none=>rfl
  | some o=>
   have e2:=KX b o e
   rw[(B b hb).1]at e2
   cases e2
   have h2:=B7.mp xk _ (PySem.W.mem_of_lookupK e)
   ext
 have D:∀ H:Hp,(∀ b∈Ps,H b=some (.lW qs))->(∀ b,H b≠none->b=a\/b∈Ps)->(H a=none\/∃ o xs,H a=some (.pd o (.lst xs)))->d_ K H a (ns.map V.int)->eh P w H c.heap->(H a≠none->K.lookup a=none)->
   codeAny (model P w) callerA (.call (.ref Y) ⟨[.ref a],[]⟩) (λr s'=>r=.ok (.ret (.bool true))/\OldK c.heap s'.heap/\s'.os=c.os/\AllBare s'.gens) c:=by
  intro H hP hA hO hS R hK
  have g:∀ {b:Az} {o:Obj},c.heap.get? b=some o->H b=none->(rZ c.heap H).get? b=some o:=λe n=>WO e n
  have i:∀ {b:Az} {o:Obj},c.heap.get? b=some o->(∀ vs,o.data≠.seq vs)->o≠tabObj #[]->H b=none:=λ{b o} e d d2=>by
   ext
  have ae:∀ {b:Az} {o:Obj} {es:Array DictEntry} {ep:Nat},c.heap.get? b=some o->o.data=.dict es ep->H b=none:=λ{b o es ep} e d=>i e (λvs z=>by rw[d]at z;cases z) λz=>by rw[z]at d;cases d
  have A:∀ {b:Az} {m:Str->O9 V9},c.heap.Ns b m->(rZ c.heap H).Ns b m:=λ{b m} o=>by obtain⟨o,es,ep,e⟩:=o;exact⟨o,es,ep,g e.1 (ae e.1 e.2.1),e.2.1,e.2.2⟩
  have O:K.In (rZ c.heap H):=λb o e=>g (KX b o e) (by
   cases q:H b with
   | none=>rfl
   | some u=>
    rcases hA b (by rw[q];simp)with e'|e'
    .grind
    .rw[aa b e']at e;cases e)
  have U:Be mg c.heap (rZ c.heap H) (Bf Ps qs) qs xs:=λy I=>by
   refine⟨(tb y).1,(tb y).2,AI (BG.mpr ⟨y,I,rfl⟩),⟨?_,?_⟩,ac y I⟩
   .obtain ⟨o,vs,Q,tf,E,tg,ad,N,tt,e1,r1,r2⟩:=(S y I).1
    exact⟨o,vs,Q,tf,E,tg,ad,N,tt,g e1 (i e1 (λvs z=>by rw[r2.1]at z;cases z) λz=>by rw[z]at r1;cases r1),r1,r2.1,r2.2⟩
   .grind
  have X:aH (Bf Ps qs) H:=λb o e=>by
   unfold Bf at e
   ext
  obtain⟨sp,FO⟩:=F _ _ O (A J) U
  refine DF (FO.1.run callerA [] c H ⟨[.ref a],[]⟩ [.ref a] [.ref a] _ _ hr (⟨rfl,(⟨O,A J,⟨mb,A hb,Z⟩,let ⟨mc,h1,h2⟩:=L;⟨mc,A h1,h2⟩⟩),λb o e=>U4 e,Nat.le_of_eq (Xt _ _),trivial,λb hb=>absurd (show b∈([]:L9 Az)from hb) (by simp),R,.of_eq hg⟩) (zy c (.ref a)) (.cons rfl .nil) (FO.2 H X hS)) λr s' h=>?_
  cases r with
  | error e=>exact(OW H e s' h).elim
  | ok fl=>
   cases fl with
   | next=>exact False.elim h
   | brk=>exact False.elim h
   | cont=>exact False.elim h
   | ret u=>
    obtain⟨v,H',os,M,un,l,r',q⟩:=h
    subst q
    obtain rfl:u=Value.bool true:=r'
    have kept:∀ b o,c.heap.get? b=some o->b∉Ps->s'.heap.get? b=some o:=λb o e hb=>by
     cases q:H b with
     | none=>exact un.keep b o e q (by intro z;exact absurd (show b∈([]:L9 Az)from z) (by simp)) (by simp)
     | some u=>
      rcases hA b (by rw[q];simp)with z|z
      .subst z
       rcases hO with z|⟨ob,xs,z⟩
       .grind
       .obtain ⟨e1,_⟩:=R b _ z
        obtain⟨e2,_⟩:=l b _ (un.hB b ob _ z)
        ext
      .grind
    refine⟨rfl,⟨λb o e=>?_,λb o e=>?_⟩,os,M⟩
    .by_cases hb:b∈Ps
     .obtain ⟨ps,e2,_⟩:=(show cI P w H' s'.heap b (.lW qs)from l b _ (un.gx b _ (hP b hb)))
      have e1:=(B b hb).1
      rw[e]at e1;cases e1
      exact .inr (.inl ⟨(B b hb).2,rfl,#[],ps,rfl,by rw[Array.empty_append];exact e2⟩)
     .exact .inl (kept b o e hb)
    .by_cases hb:b∈Ps
     .obtain ⟨ps,e2,_⟩:=(show cI P w H' s'.heap b (.lW qs)from l b _ (un.gx b _ (hP b hb)))
      ext
     .grind
 have t:∀ (H:Hp) b,b∈Ps->cI P w H c.heap b (.lW qs):=λH b hb=>⟨#[],(B b hb).1,trivial,λp _=>.inl rfl⟩
 cases hk:K.lookup a with
 | some o=>
  have e:=KX a o hk
  rw[ha]at e
  cases e
  refine D (Bf Ps qs) (λb hb=>AI hb) (λb z=>?_) (.inl (AM G)) (.inr ⟨_,vs.toArray,_,hk,rfl,rfl,rfl,by rw[CH,hi.length];exact hl,by simpa using (sG hi)⟩) (λb u z=>?_) λz=>absurd (AM G) z
  .by_cases hb:b∈Ps
   .grind
   .exact absurd (AM hb) z
  .by_cases hb:b∈Ps
   .have C:=(AI hb).symm.trans z
    cases C
    exact t _ b hb
   .have C:=(AM hb).symm.trans z
    cases C
 | none=>
  refine D (λb=>if b=a then some (.pd {cls:=.type "list",data:=.seq vs.toArray} (.lst (ns.map V.int)))else Bf Ps qs b) (λb hb=>?_) (λb z=>?_) (.inr ⟨_,_,AI rfl⟩) (.inl (.inr ⟨{cls:=.type "list",data:=.seq vs.toArray},AI rfl⟩)) (λb u z=>?_) λ_=>hk
  .rw[AM (show ¬ b=a from λz=>G (by rw[<-z];exact hb))];exact AI hb
  .by_cases hb:b=a
   .exact .inl hb
   .rw[AM hb]at z
    by_cases j:b∈Ps
    .exact .inr j
    .exact absurd (AM j) z
  .by_cases hb:b=a
   .have C:=(AI hb).symm.trans z
    cases C
    subst hb
    exact⟨ha,by rw[AL];exact hl,vs,_,(sG hi),ha⟩
   .have C:=(AM hb).symm.trans z
    by_cases j:b∈Ps
    .have z2:=(AI j).symm.trans C
     cases z2
     exact t _ b j
    .have z2:=(AM j).symm.trans C
     cases z2
theorem UD{p:P9}{b:L9 Str}{g:ExcName->O9 V9}{l:Str->O9 V9}{h:Hz}(T:Top p b g mg l h)(xs:L9 Str)(hx:∀ x∈xs,∃ d∈recsOf p,d.name=x) :
  ∃ tb:Str->Az×Az,(∀ x∈xs,CodeHd h (tb x).1 (tb x).2/\h.get? (tb x).2=some (tabObj #[]))/\∀ x∈xs,∀ f o fd,mg x=some (.ref f)->h.get? f=some o->o.data=.func fd->fd.code=.ref (tb x).1:=by
 have e:∀ x,∃ t:Az×Az,x∈xs->(CodeHd h t.1 t.2/\h.get? t.2=some _)/\∀ f o fd,mg x=some (.ref f)->h.get? f=some o->o.data=.func fd->fd.code=.ref t.1:=λx=>by
  by_cases i:x∈xs
  .obtain ⟨d,m,rfl⟩:=hx x i
   obtain⟨a,o,fd,c,k,h1⟩:=T.tab d m
   refine⟨(c,k),λ_=>⟨⟨PySem.W.CodeHd.of h1.2.2.2.2.1 h1.2.2.2.2.2,h1.2.2.2.2.2.2⟩,λf o' j e1 e2 n=>?_⟩⟩
   ext
  simp_all
 exact⟨λx=>(e x).choose,λx hx=>((e x).choose_spec hx).1,λx hx=>((e x).choose_spec hx).2⟩
theorem V1{l:OpenLaw}{n:Nat}{i:L9 Str}{I:(Str->O9 V9)->Hz->Prop}{D:W9->Hz->Prop}{d:DefRec}{K:Params->Frag}{CX:W9->nr}{xs:L9 Str}
  (y:∀ x∈xs,∃ d∈recsOf q,d.name=x) (xk:∀ w:W9,noTabs (K w.params)=true)
  (M:l.most=some n) (t:n<=sizeLine) (A:d.params.defaults=[]) (hr:cw k callerA)
  (C:∀ (w:W9) (h:Hz),D w h->(K w.params).In h)
  (F:∀ (w:W9) (mg:Str->O9 V9) (fa:Az) (h:Hz),(K w.params).In h->h.Ns mainGlobals mg->mg d.name=some (.ref fa)->
   ∃ fd:FuncData,(∀ (s:S9) (u:V9),BindsTo s fd ⟨[u],[]⟩ [(x,u)]) /\
    ∀ (base:Hz) (T:Hp),(K w.params).In base->base.Ns mainGlobals mg->Be mg h base T qs xs->∃ sp,c5 l.prog w (K w.params) mg base (CX w) k fa fd [x] sp /\
     ∀ (H:Hp) (a:Az) (ns:L9 Int),ns.length<=n->aH T H->d_ (K w.params) H a (ns.map V.int)->sp [.ref a] H (λv _=>v=.bl true) λ_ _ _=>False)
  (r:∀ (w:W9) (H:Hp) (s:S9) (e:V9) (s':S9),CX w [] H s (λ_ _ _=>False) e s'->False) :
  WalkO q i I D l.row.toRowW d [] (λf vs=>PySem.call f vs):=by
 refine _c.pz M A λw s₀ p mg R fa o pm cd doc a vs ns G Yq S O E z j c m L=>?_
 obtain⟨fd,J,U⟩:=F w mg fa _ (C w _ Yq) G.T.g z
 obtain⟨tb,B⟩:=UD G.T xs y
 refine W_ (qs:=qs) B.1 B.2 G.T.bmain (xk w) (C w _ Yq) G.T.g G.T.b G.T.builtins G.T.nolimit L j c (A6 m t) hr (λbase T Q P N=>?_) J λH e s'=>r w H p e s'
 ext
end _a
variable{Q:V9->S9->Prop}{n c:Nat}{q:Str}{y:Dz}{is:L9 Nat}
namespace _f
mutual
noncomputable def eR:Dz->Bool
 | .none=>true
 | .int _=>true
 | .str x=>PyData.strOk x
 | .tuple xs=>fM xs
 | _=>false
noncomputable def fM:L9 Dz->Bool
 | []=>true
 | x::t=>eR x && fM t
end
mutual
noncomputable def uP(w:W9):Dz->Int
 | .none=>reduceHash 0xFCA86420
 | .int i=>hashInt i
 | .str x=>hashStr w x
 | .tuple xs=>reduceHash (Builtin.Tuple.tupleHashOf (pJ w xs))
 | _=>0
noncomputable def pJ(w:W9):L9 Dz->L9 Int
 | []=>[]
 | x::t=>uP w x::pJ w t
end
mutual
noncomputable def sO:Dz->Nat
 | .tuple xs=>sP xs+1
 | _=>1
noncomputable def sP:L9 Dz->Nat
 | []=>0
 | x::t=>sO x+sP t
end
mutual
theorem pK:∀ {d:Dz},eR d=true->d.canLay0=true
 | .none,_=>rfl
 | .int _,_=>rfl
 | .str x,h=>h
 | .tuple xs,h=>by
  have h':fM xs=true:=h
  exact NP h'
theorem NP:∀ {xs:L9 Dz},fM xs=true->PyData.canLayAll0 xs=true
 | [],_=>rfl
 | x::t,h=>by
  have h':(eR x && fM t)=true:=h
  rw[BA]at h'
  show(x.canLay0 && PyData.canLayAll0 t)=true
  rw[pK h'.1,NP h'.2];rfl
end
mutual
theorem zV:∀ {d e:Dz},eR d=true->eR e=true->(PyData.eqv d e=true↔d=e)
 | .none,e,_,he=>by cases e<;>simp[PyData.eqv]<;>cases he
 | .int i,e,_,he=>by cases e<;>simp[PyData.eqv]<;>cases he
 | .str x,e,_,he=>by cases e<;>simp[PyData.eqv]<;>cases he
 | .tuple xs,e,hd,he=>by
  have OV:fM xs=true:=hd
  cases e with
  | tuple ys=>
   have a:fM ys=true:=he
   have:=NG OV a
   show PyData.eqvAll xs ys=true↔_
   rw[this]
   exact⟨λz=>by rw[z],λz=>by cases z;rfl⟩
  | _=>simp[PyData.eqv]<;>cases he
theorem NG:∀ {xs ys:L9 Dz},fM xs=true->fM ys=true->(PyData.eqvAll xs ys=true↔xs=ys)
 | [],ys,_,_=>by cases ys<;>simp[PyData.eqvAll]
 | x::t,ys,hx,hy=>by
  have Gn:(eR x && fM t)=true:=hx
  rw[BA]at Gn
  cases ys with
  | nil=>simp[PyData.eqvAll]
  | cons y u=>
   have c:(eR y && fM u)=true:=hy
   rw[BA]at c
   rw[PyData.eqvAll,BA,zV Gn.1 c.1,NG Gn.2 c.2]
   exact⟨λ⟨a,b⟩=>by rw[a,b],λz=>by cases z;exact⟨rfl,rfl⟩⟩
end
noncomputable instance yf:DecidableEq Dz:=λa b=>Classical.propDecidable (a=b)
theorem UC{d e:Dz}(a:eR d=true)(b:eR e=true):PyData.eqv d e=decide (d=e):=by
 by_cases h:d=e
 .rw[A2 h,(zV a b).mpr h]
 .rw[BB h]
  cases q:PyData.eqv d e with
  | false=>rfl
  | true=>exact absurd ((zV a b).mp q) h
def lZ(prog:P9)(w:W9)(E:V9->S9->Prop)(d:Dz):Prop:=∀ (v:V9) (as:L9 Az) (A:U9) (s:S9) (Q:Int->S9->Prop),eR d=true->Reads s.heap v d as->A.units+d.depth < cLine->Q (uP w d) {s with toks:=s.toks+sO d}->
 wpAny (model prog w) A (pyHash v) Q E s
theorem RI{prog:P9}{w:W9}{E:V9->S9->Prop}:∀ (xs:L9 Dz) (ih:∀ x∈xs,lZ prog w E x) (vs:L9 V9) (as:L9 Az) (A:U9) (s:S9) (b:Array Int) (Q:Array Int->S9->Prop),fM xs=true->ReadsAll s.heap vs xs as->A.units+PyData.depthAll xs < cLine->
  (∀ b',b'.toList=b.toList++pJ w xs->Q b' {s with toks:=s.toks+sP xs})->
  wpAny (model prog w) A (forIn vs b λx r=>do let h <-pyHash x;pure PUnit.unit;pure (ForInStep.yield (r.push h))) Q E s:=by
 intro xs
 induction xs with
 | nil=>
  intro ih vs as A s b Q _ x _ h
  cases x
  exact AC (h b (by simp[pJ]))
 | cons k xs OQ=>
  intro ih vs as A s b Q c x e h
  cases x with
  | @cons v vs _ _ as bs x1 x2=>
   have a:(eR k && fM xs)=true:=c
   rw[BA]at a
   have g:A.units+max k.depth _ < cLine:=e
   rw[D4]
   refine AA (AA (ih k A5 _ _ A s _ a.1 x1 (by ext) ?_))
   refine AA (AC (AC ?_))
   refine OQ (λx f=>ih x (AU _ f)) _ _ A {s with toks:=s.toks+sO k} _ Q a.2 x2 (by ext) λb' d=>?_
   have q:=h b' (by rw[d];simp[pJ])
   rw[show sP _=sO k+sP xs by rfl,<-Nat.add_assoc]at q
   ext
theorem V0{prog:P9}{w:W9}{E:V9->S9->Prop}(i:Int):lZ prog w E (.int i):=λv a A s Q _ r _ h=>by
 cases r
 exact wpAny_pyHash_int h
theorem VZ{prog:P9}{w:W9}{E:V9->S9->Prop}(i:Str):lZ prog w E (.str i):=λv a A s Q _ r _ h=>by
 cases r
 exact wpAny_pyHash_str h
theorem Ww{prog:P9}{w:W9}{E:V9->S9->Prop}(xs:L9 Dz)(d:∀ x∈xs,lZ prog w E x):lZ prog w E (.tuple xs):=λv c A s Q e r g h=>by
 cases r with
 | @tuple a o vs n _ c h1 h2 h3 h4=>
  have i:A.units+(PyData.depthAll xs+1) < cLine:=g
  refine pyHash_slot ⟨o,h1,h2⟩ F.slot_tuple_hash F.entry_tuple_hash (F.args_tuple_hash_1 _) (beq_builtin_none _) (.inr (by ext)) ?_
  show wpAny _ _ (Builtin.Tuple.tupleItemsOf _ >>= _) _ _ s
  refine AA (wpAny_tupleItemsOf h1 h3 ?_)
  refine AA ?_
  rw[<-Array.forIn_toList]
  refine RI xs d vs.toList c A.in1 s #[] _ e h4 (by ext) λb f=>?_
  show wpAny _ _ (retInt _) _ _ _
  rw[f]
  exact AA (wpAny_mkInt (AC ⟨_,_,rfl,h⟩))
theorem XM(w:W9):uP w .none=reduceHash 0xFCA86420:=by rfl
theorem Wv{prog:P9}{w:W9}{E:V9->S9->Prop}:lZ prog w E .none:=λv c A s Q _ r b h=>by
 rw[XM]at h
 generalize a:reduceHash 0xFCA86420=g at h
 cases r
 refine pyHash_slot rfl F.slot_NoneType_hash F.entry_NoneType_hash (F.args_NoneType_hash_1 _) (beq_builtin_none _) (.inr (by ext)) (AA (AC (AA (wpAny_mkInt (AC ⟨0xFCA86420,_,rfl,?_⟩)))))
 rw[a]
 exact h
theorem RH{prog:P9}{w:W9}{E:V9->S9->Prop}:∀ (n:Nat) (d:Dz),sizeOf d<=n->lZ prog w E d:=by
 intro n
 induction n with
 | zero=>intro d h;cases d<;>simp at h
 | succ n ih=>
  intro d h
  cases d with
  | none=>exact Wv
  | int i=>exact V0 i
  | str x=>exact VZ x
  | tuple xs=>
   refine Ww xs λx e=>ih x ?_
   have:=List.sizeOf_lt_of_mem e
   ext
  | bool b=>exact λv c A s Q a=>nomatch a
  | list xs=>exact λv c A s Q a=>nomatch a
  | dict xs=>exact λv c A s Q a=>nomatch a
theorem RG{prog:P9}{w:W9}{E:V9->S9->Prop}(d:Dz):lZ prog w E d:=RH _ d (AG _)
theorem UB{M:Model}{A:U9}{E:V9->S9->Prop}{s:S9}:∀ (n:Nat) (d:Dz) (v:V9) (as:L9 Az) (Q:Bool->S9->Prop),eR d=true->Reads s.heap v d as->d.depth<=n->Q true s->wpAny M A (eqIsQuiet n v) Q E s:=by
 intro n
 induction n with
 | zero=>
  intro d v as Q c r g h
  cases d with
  | none=>cases r;exact AC h
  | int i=>cases r;exact AC h
  | str x=>cases r;exact AC h
  | tuple xs=>
   have f:PyData.depthAll xs+1<=0:=g
   ext
  | bool b=>exact nomatch c
  | list xs=>exact nomatch c
  | dict xs=>exact nomatch c
 | succ n ih=>
  intro d v as Q c r g h
  cases d with
  | none=>cases r;exact AC h
  | int i=>cases r;exact AC h
  | str x=>cases r;exact AC h
  | bool b=>exact nomatch c
  | list xs=>exact nomatch c
  | dict xs=>exact nomatch c
  | tuple xs=>
   cases r with
   | @tuple a o vs m _ as h1 h2 h3 h4=>
    have f:PyData.depthAll xs+1<=n+1:=g
    unfold eqIsQuiet
    refine AA (GJ (⟨o,h1,h2⟩) F.slot_tuple_eq.lookup ?_)
    refine AA (ET (⟨o,h1,h2⟩) isSubtype_tuple_tuple ?_)
    refine AA (DD h1 h3 ?_)
    refine AA ?_
    rw[<-Array.forIn_toList]
    refine wpAny_forIn_list _ (λrest r s'=>r.1=none/\s'=s/\∃ ys bs,fM ys=true/\PyData.depthAll ys<=n/\ReadsAll s.heap rest ys bs) _ ?_ ?_ _ _ ⟨rfl,rfl,xs,_,c,by ext,h4⟩
    .rintro v rest r s' ⟨hr,rfl,ys,bs,hy,OU,ry⟩
     cases ry with
     | @cons _ _ y yt cs ds r1 r2=>
      have e:(eR y && fM yt)=true:=hy
      rw[BA]at e
      have j:max y.depth _<=n:=OU
      refine AA (ih y v _ _ e.1 r1 (by ext) ?_)
      exact AC ⟨rfl,rfl,yt,_,e.2,by ext,r2⟩
    .rintro ⟨r1,r2⟩ s' ⟨hr,rfl,_⟩
     subst hr
     exact AC h
def YN(h:Hz)(d:Dz)(a:Az):Prop:=eR d=true/\d.depth<=8/\∃ as,Reads h (.ref a) d as
theorem XJ{h h':Hz}{a:Az}{o:Obj}{es:Array DictEntry}{ep:Nat}(q:h.get? a=some o)(u:o.data=.dict es ep)(m:Heap.SameBut a h h'){v:V9}{d:Dz}{e:L9 Az}(c:eR d=true)(r:Reads h v d e):Reads h' v d e:=by
 refine Reads.rec (motive_1:=λv d e _=>eR d=true->Reads h' v d e) (motive_2:=λvs xs e _=>fM xs=true->ReadsAll h' vs xs e) ?_ ?_ ?_ ?_ ?_ ?_ ?_ ?_ ?_ r c
 .exact λ_=>.none
 .intro b c;cases c
 .exact λi t _=>.int i t
 .exact λi t _=>.str i t
 .intro b o' vs n xs e h1 h2 f l k c;cases c
 .intro b o' vs n xs e h1 h2 f l k c
  exact .tuple ((m.2 b (λz=>by subst z;rw[q]at h1;cases h1;rw[u]at f;cases f)).trans h1) h2 f (k c)
 .intro b o' s n p e bs h1 h2 f l w g j c;cases c
 .exact λ_=>.nil
 .intro v vs d ds e bs r1 r2 g j c
  exact .cons (g ((BA ..).mp c).1) (j ((BA ..).mp c).2)
def j4(prog:P9)(w:W9):HeapKind prog w Dz where
 is:=YN
 hash:=uP w
 draws:=sO
 room:=λA=>A.units+9 < cLine
 inj:=λ{h a x y} hx hy=>by
  obtain⟨k1,_,as,r1⟩:=hx
  obtain⟨k2,_,bs,r2⟩:=hy
  exact PySem.SeqAt.Reads.unique x y _ _ _ (pK k1) r1 r2
 keeps:=λ{h h' k a d o es ep} hx ho hd hs=>by
  obtain⟨k1,k2,as,r1⟩:=hx
  exact⟨k1,k2,as,XJ ho hd hs k1 r1⟩
 pyHash:=λ{A E s k a Q} hu hk h=>by
  obtain⟨k1,k2,as,r1⟩:=hk
  exact RG k _ as A s Q k1 r1 (by ext) h
 eqBool:=λ{A E s x y a b Q} hu hx hy h=>by
  obtain⟨k1,k2,as,r1⟩:=hx
  obtain⟨l1,l2,bs,r2⟩:=hy
  refine PySem.SeqAt.eqAt_reads x y A s _ _ as bs r1 r2 (pK k1) (pK l1) ?_ prog w E Q ?_
  .have:min x.depth y.depth<=8:=A6 (GM _ _) k2
   ext
  .rw[UC k1 l1];exact h
 quiet:=λ{A E s k a Q} hk h=>by
  obtain⟨k1,k2,as,r1⟩:=hk
  exact UB 8 k _ as Q k1 r1 k2 h
abbrev Ent:=Dz×V×V
def qQ(w:W9)(p:Ent)(en:DictEntry):Prop:=en.hash=uP w p.1/\aR p.2.1 en.key/\aR p.2.2 en.val
def eS(w:W9)(a:Az)(es:L9 Ent)(ep:Nat):HO:=.ext λh=>(a == sysModules)=false/\∃ o ar,h.get? a=some o/\o.ExactDict/\o.data=.dict ar ep/\Paired (qQ w) es ar.toList
theorem mV{P:P9}{w:W9}{H:Hp}{h:Hz}{a:Az}{es:L9 Ent}{ep:Nat}(c:(a == sysModules)=false)(b:∃ o ar,h.get? a=some o/\o.ExactDict/\o.data=.dict ar ep/\Paired (qQ w) es ar.toList):cI P w H h a (eS w a es ep):=
 ⟨⟨c,b⟩,let ⟨o,_,e,_⟩:=b;⟨o,e⟩,λh1 h2 q d=>by obtain⟨q,o,es,e⟩:=q;exact⟨q,o,es,d _ e.1,e.2⟩⟩
noncomputable def mF:Dz->Bool
 | .tuple xs=>eR (.tuple xs) && decide ((PyData.tuple xs).depth<=8)
 | _=>false
noncomputable def wV:Dz->Bool
 | .int _=>true
 | .str _=>true
 | _=>false
def cZ(k:Dz)(ks:L9 Dz):Bool:=(mF k && ks.all mF) || (wV k && ks.all wV)
theorem UA{d:Dz}(h:mF d=true):∃ xs,d=.tuple xs/\eR d=true/\d.depth<=8:=by
 cases d with
 | tuple xs=>
  have h':(eR _ && decide _)=true:=h
  ext
 | _=>cases h
def kN:Key->Dz
 | .inl i=>.int i
 | .inr x=>.str x
theorem MA{d:Dz}(h:wV d=true):∃ k,d=kN k:=by
 cases d with
 | int i=>exact⟨.inl i,rfl⟩
 | str i=>exact⟨.inr i,rfl⟩
 | _=>cases h
theorem Oe{a b:Key}(h:kN a=kN b):a=b:=by
 cases a<;>cases b<;>cases h<;>rfl
theorem M0{K:Frag}{H:Hp}{v:V}{k:Key}(h:b5 K H v (kN k)):v=kV k:=by
 cases k with
 | inl i=>exact h.cA
 | inr x=>exact h.df
theorem NF{P:P9}{w:W9}(k:Key):uP w (kN k)=(dM P w).hash k:=by
 cases k with
 | inl i=>rfl
 | inr x=>rfl
def zW:Ent->(Dz×Az×V9)->Prop:=λe x=>e.1=x.1/\e.2.1=.ref x.2.1/\aR e.2.2 x.2.2
def zX:Ent->(Key×V9)->Prop:=λe x=>e.1=kN x.1/\e.2.1=kV x.1/\aR e.2.2 x.2
theorem LB{P:P9}{w:W9}:∀ {es:L9 Ent} {su:L9 DictEntry},Paired (qQ w) es su->(∀ e∈es,∃ b,e.2.1=.ref b)->∃ xs,su=xs.map (entryOfKey (j4 P w))/\Paired zW es xs
 | _,_,.nil,_=>⟨[],rfl,.nil⟩
 | e::es,en::su,.cons h t,hb=>by
  obtain⟨xs,h1⟩:=LB (P:=P) t λe j=>hb e (AU _ j)
  obtain⟨b,a⟩:=hb e A5
  obtain⟨g,f,i⟩:=h
  rw[a]at f
  obtain⟨d,k,c⟩:=en
  subst f g
  exact⟨(e.1,b,c)::xs,by rw[h1.1];rfl,.cons ⟨rfl,a,i⟩ h1.2⟩
theorem wW{P:P9}{w:W9}:∀ {es:L9 Ent} {xs:L9 (Dz×Az×V9)},Paired zW es xs->Paired (qQ w) es (xs.map (entryOfKey (j4 P w)))
 | _,_,.nil=>.nil
 | _,_,.cons h t=>.cons ⟨by rw[h.1];rfl,by rw[h.2.1];rfl,h.2.2⟩ (wW t)
theorem LA{P:P9}{w:W9}:∀ {es:L9 Ent} {su:L9 DictEntry},Paired (qQ w) es su->(∀ e∈es,∃ k,e.1=kN k/\e.2.1=kV k)->∃ xs,Pairs (dM P w) su xs/\Paired zX es xs/\∀ en∈su,∃ k,(dM P w).is k en.key=true/\en.hash=(dM P w).hash k
 | _,_,.nil,_=>⟨[],.nil,.nil,λ_ h=>by cases h⟩
 | e::es,en::su,.cons h t,hb=>by
  obtain⟨xs,h1⟩:=LA (P:=P) t λe f=>hb e (AU _ f)
  obtain⟨k,a⟩:=hb e A5
  obtain⟨d,g⟩:=h
  refine⟨(k,en.val)::xs,.cons (HQ (by simp_all)) rfl h1.1,.cons ⟨a.1,a.2,g.2⟩ h1.2.1,λc b=>?_⟩
  rcases AQ.mp b with z|z
  · subst z; exact⟨k, (HQ (by simp_all)), by rw [d, a.1, NF ]⟩
  · exact h1.2.2 c z
theorem Uz{P:P9}{w:W9}{k:Key}{v:V9}(h:(dM P w).is k v=true):aR (kV k) v:=by
 rcases c3 h with ⟨i,t,rfl,rfl⟩|⟨x,t,rfl,rfl⟩
 all_goals exact⟨t,rfl⟩
theorem wX{P:P9}{w:W9}:∀ {es:L9 Ent} {xs:L9 (Key×V9)} {su:L9 DictEntry},Paired zX es xs->Pairs (dM P w) su xs->(∀ en∈su,∃ k,(dM P w).is k en.key=true/\en.hash=(dM P w).hash k)->Paired (qQ w) es su
 | _,_,_,.nil,.nil,_=>.nil
 | _,_,_,.cons h t,.cons p1 p2 ps,hk=>by
  obtain⟨k,vc⟩:=hk _ A5
  obtain rfl:=(dM P w).inj _ _ _ vc.1 p1
  refine .cons ⟨by rw[vc.2,h.1,NF ],by rw[h.2.1];exact Uz vc.1,by rw[p2];exact h.2.2⟩ (wX t ps λen a=>hk en (AU _ a))
def pL(es:L9 Ent)(k:Dz):O9 V:=(es.find? λe=>decide (e.1=k)).map (·.2.2)
def qR(es:L9 Ent)(k:Dz)(kv v:V):L9 Ent:=if (pL es k).isSome then es.map (λe=>if e.1=k then(e.1,e.2.1,v)else e)else es++[(k,kv,v)]
theorem sQ{k:Dz}:∀ {es:L9 Ent} {xs:L9 (Dz×Az×V9)},Paired zW es xs->gU (pL es k) ((atKey xs k).map (·.2))
 | _,_,.nil=>trivial
 | e::es,x::xs,.cons h t=>by
  have ih:=sQ (k:=k) t
  unfold pL atKey at ih ⊢
  rw[DI,DI,h.1]
  by_cases q:x.1=k
  · rw [A2 q]; exact h.2.2
  · rw [BB q]; ext
theorem sR{k:Key}:∀ {es:L9 Ent} {xs:L9 (Key×V9)},Paired zX es xs->gU (pL es (kN k)) (valueAt xs k)
 | _,_,.nil=>trivial
 | e::es,x::xs,.cons h t=>by
  have ih:=sR (k:=k) t
  unfold pL valueAt at ih ⊢
  rw[DI,DI,h.1]
  by_cases q:x.1=k
  · rw [A2 q, A2 (by rw [q])]; exact h.2.2
  · rw [BB q, BB (λz => q (Oe z))]; ext
theorem kF{o:O9 V}{u:O9 V9}(h:gU o u):o.isSome=u.isSome:=by
 cases o<;>cases u<;>first|rfl|exact h.elim
theorem qS{α β:Type}{f:α->β->Prop}{g:α->α}{k:β->β}(hg:∀ a b,f a b->f (g a) (k b)):∀ {xs:L9 α} {ys:L9 β},Paired f xs ys->Paired f (xs.map g) (ys.map k)
 | _,_,.nil=>.nil
 | _,_,.cons h t=>.cons (hg _ _ h) (qS hg t)
theorem qT{α β:Type}{f:α->β->Prop}{a:α}{b:β}(h:f a b):∀ {xs:L9 α} {ys:L9 β},Paired f xs ys->Paired f (xs++[a]) (ys++[b])
 | _,_,.nil=>.cons h .nil
 | _,_,.cons q t=>.cons q (qT h t)
theorem KH{k:Dz}{b:Az}{v:V}{u:V9}{es:L9 Ent}{xs:L9 (Dz×Az×V9)}(r:aR v u)(h:Paired zW es xs):Paired zW (qR es k (.ref b) v) (storedH xs k b u):=by
 have q:=kF (sQ (k:=k) h)
 rw[FP]at q
 unfold qR storedH
 rw[q]
 cases(atKey xs k).isSome with
 | true=>
  refine qS (λe x a=>?_) h
  unfold putAt
  rw[a.1]
  by_cases z:x.1=k
  · rw [AI z, AI z]; exact⟨rfl, a.2.1, r⟩
  ext
 | false=>exact qT ⟨rfl,rfl,r⟩ h
theorem KG{k:Key}:∀ {xs:L9 (Key×V9)},xs.any (λkv=>decide (kv.1=k))=(valueAt xs k).isSome
 | []=>rfl
 | x::xs=>by
  have ih:=KG (k:=k) (xs:=xs)
  unfold valueAt at ih ⊢
  rw[List.any_cons,DI]
  by_cases q:x.1=k
  · rw [A2 q]; rfl
  · rw [BB q]; exact ih
theorem KD{k:Key}{v:V}{u:V9}{es:L9 Ent}{xs:L9 (Key×V9)}(r:aR v u)(h:Paired zX es xs):Paired zX (qR es (kN k) (kV k) v) (stored xs k u):=by
 unfold qR stored
 rw[(kF (sR (k:=k) h)),KG]
 cases(valueAt xs k).isSome with
 | true=>
  refine qS (λe x a=>?_) h
  by_cases z:x.1=k
  · rw [AI z, AI (by rw [a.1, z])]; exact⟨by rw [a.1], a.2.1, r⟩
  · rw [AM z, AM (λy => z (Oe (a.1.symm.trans y)))]; ext
 | false=>exact qT ⟨rfl,rfl,r⟩ h
section
variable{X:Cx}{av:L9 (Az×Obj)}{Z:_a.St}{H:Hp}{s:S9}{a:Az}{es:L9 Ent}{k:Dz}{kv v:V}{ku u:V9}{A:U9}{E:V9->S9->Prop}
structure gv(X:Cx)(H:Hp)(a:Az)(es:List Ent)(k:Dz)(kv:V):Prop where
 o:∃ ep,H a=some (eS X.w a es ep)
 ks:∀ e∈es,b5 X.K H e.2.1 e.1
 nd:(es.map (·.1)).Nodup
 dk:b5 X.K H kv k
 one:cZ k (es.map (·.1))=true
theorem yL{f:α->β->Prop}{y:β}:∀ {xs:L9 α} {ys:L9 β},Paired f xs ys->y∈ys->∃ x,x∈xs/\f x y
 | _,_,.nil,h=>by cases h
 | _,_,.cons q t,h=>by
  rcases AQ.mp h with z|z
  .grind
  .obtain ⟨x,h1⟩:=yL t z
   ext
theorem qU{γ:Type}{f:α->β->Prop}{g:α->γ}{k:β->γ}(h:∀ a b,f a b->g a=k b):∀ {xs:L9 α} {ys:L9 β},Paired f xs ys->xs.map g=ys.map k
 | _,_,.nil=>rfl
 | _,_,.cons q t=>by rw[AV,AV,h _ _ q,qU h t]
theorem Od{f:α->β}:∀ {xs:L9 α},(xs.map f).Nodup->xs.Nodup
 | [],_=>DS
 | x::t,h=>by
  rw[AV,BY]at h
  exact BY.mpr ⟨λz=>h.1 (EH z),Od h.2⟩
theorem gv.cases (D : gv X H a es k kv) (I : Inv X av Z H s) (G : aR kv ku) : (a == sysModules) = false /\
    ((∃ b xs, kv = .ref b /\ ku = .ref b /\ Paired zW es xs /\ (j4 X.prog X.w).is s.heap k b /\ s.heap.DictOfH (j4 X.prog X.w) a xs) \/
     (∃ kk xs, k = kN kk /\ kv = kV kk /\ Paired zX es xs /\ (dM X.prog X.w).is kk ku = true /\ s.heap.DictOf (dM X.prog X.w) a xs)) := by
  obtain⟨ep, F⟩ := D.o
  obtain⟨⟨t, o, ar, h1, h2, B, z⟩, _, _⟩ := ((I.cj a _ F))
  refine⟨t, ?_⟩
  have f := D.one
  unfold cZ at f
  rw [D5, BA, BA, B7, B7]at f
  rcases f with ⟨p, m⟩ | ⟨p, m⟩
  · have i : ∀ d v, mF d = true -> b5 X.K H v d -> ∃ j, v = .ref j /\ (j4 X.prog X.w).is s.heap d j := λd v t A => by
      obtain⟨ws, rfl, u⟩ := UA t
      obtain⟨j, vs, rfl, _, _⟩ := A.dz
      obtain⟨E, r⟩ := A.reads I (pK u.1) rfl
      exact⟨j, rfl, u.1, u.2, E, r⟩
    obtain⟨b, rfl, n⟩ := i _ _ p D.dk
    cases((G))
    obtain⟨xs, c⟩ := LB z λe g => by
      obtain⟨j, e1⟩ := i e.1 e.2.1 (m _ (EH g)) (D.ks e g)
      exact⟨j, e1.1⟩
    refine .inl ⟨b, xs, rfl, rfl, c.2, n, o, ar, ep, h1, h2, B, c.1, λx C => ?_, ?_⟩
    · obtain⟨e, g⟩ := yL c.2 C
      obtain⟨j, e1, q⟩ := i e.1 e.2.1 (m _ (EH g.1)) (D.ks e g.1)
      rw [g.2.2.1]at e1
      cases e1
      rw [<- g.2.1]; ext
    · rw [<- qU (λa b h => h.1) c.2]; exact D.nd
  · obtain⟨kk, rfl⟩ := MA p
    have y := M0 D.dk
    obtain⟨xs, c⟩ := LA z λe g => by
      obtain⟨J, l⟩ := MA (m _ (EH g))
      have q := D.ks e g
      rw [l]at q
      exact⟨J, l, M0 q⟩
    refine .inr ⟨kk, xs, rfl, y, c.2.1, HQ (by simp_all), o, ar, ep, h1, h2, B, λL M => c.2.2 L (by simp_all), c.1, ?_⟩
    have : es.map (·.1) = (xs.map (·.1)).map kN := by rw [B1]; exact qU (λa b h => h.1) c.2.1
    have nd := D.nd
    rw [this]at nd
    exact Od nd
theorem oF{A:U9}(a:A.units+64 < cLine):(j4 X.prog X.w).room A.in1:=by show A.in1.units+9 < cLine;ext
theorem RF(g:A.units+64 < cLine)(D:gv X H a es k kv)(I:Inv X av Z H s)(f:aR kv ku)(h:∀ s',Inv X av Z H s'->Q (.bool (pL es k).isSome) s'):wpAny (model X.prog X.w) A (compareOp .In ku (.ref a)) Q E s:=by
 obtain⟨e,⟨b,xs,rfl,rfl,d,c,dd⟩|⟨i,xs,rfl,rfl,d,c,dd⟩⟩:=D.cases I f
 .refine wpAny_in_heap (oF g) c e dd ?_
  have q:=kF (sQ (k:=k) d)
  rw[FP]at q
  rw[<-q];exact h _ (I.tok _)
 .refine wpAny_in_of c e dd.mapOf ?_
  rw[<-kF (sR d)];exact h _ (I.tok _)
theorem Uy(g:A.units+64 < cLine)(D:gv X H a es k kv)(I:Inv X av Z H s)(f:aR kv ku)(h:∀ s',Inv X av Z H s'->Q (.bool (!(pL es k).isSome)) s'):wpAny (model X.prog X.w) A (compareOp .NotIn ku (.ref a)) Q E s:=by
 obtain⟨e,⟨b,xs,rfl,rfl,d,c,dd⟩|⟨i,xs,rfl,rfl,d,c,dd⟩⟩:=D.cases I f
 .refine wpAny_notIn_heap (oF g) c e dd ?_
  have q:=kF (sQ (k:=k) d)
  rw[FP]at q
  rw[<-q];exact h _ (I.tok _)
 .refine wpAny_notIn_of c e dd.mapOf ?_
  rw[<-kF (sR d)];exact h _ (I.tok _)
theorem Ux(j:A.units+64 < cLine)(D:gv X H a es k kv)(I:Inv X av Z H s)(l:aR kv ku)(g:pL es k=some v)(h:∀ w' s',Inv X av Z H s'->aR v w'->Q w' s'):wpAny (model X.prog X.w) A (getItem (.ref a) ku) Q E s:=by
 obtain⟨m,⟨b,xs,rfl,rfl,e,d,dd⟩|⟨i,xs,rfl,rfl,e,d,dd⟩⟩:=D.cases I l
 .have q:=sQ (k:=k) e
  rw[g]at q
  obtain⟨w',c⟩:=gU.some_of q
  obtain⟨p,f⟩:=Option.map_eq_some_iff.mp c.1
  refine wpAny_getItem_heap (oF j) d dd f.1 ?_
  rw[f.2];exact h w' _ (I.tok _) c.2
 .have q:=sR (k:=i) e
  rw[g]at q
  obtain⟨w',c⟩:=gU.some_of q
  exact wpAny_getItem_of d dd.mapOf c.1 (h w' _ (I.tok _) c.2)
theorem Uw{Q:Unit->S9->Prop}(p:A.units+64 < cLine)(D:gv X H a es k kv)(I:Inv X av Z H s)(q:aR kv ku)(m:aR v u)(y:es.length<=sizeLine)(h:∀ ep s',Inv X av Z (upd H a (eS X.w a (qR es k kv v) ep)) s'->Q () s') :
  wpAny (model X.prog X.w) A (setItem (.ref a) ku u) Q E s:=by
 obtain⟨n,⟨b,xs,rfl,rfl,e,l,dd⟩|⟨z,xs,rfl,rfl,e,l,dd⟩⟩:=D.cases I q
 .have r:xs.length<=sizeLine:=by rw[<-Paired.length e];ext
  refine wpAny_setItem_heap (oF p) l dd λh' d j=>?_
  obtain⟨f,ar,ep,c⟩:=d
  obtain⟨g,i⟩:=D.o
  refine h ep _ (uL I (by rw[i];exact True.intro) j ⟨f,c.1⟩ (mV n ⟨f,ar,c.1,c.2.1,c.2.2.1,?_⟩))
  rw[c.2.2.2.1]
  exact wW (KH m e)
 .have r:xs.length<=sizeLine:=by rw[<-Paired.length e];ext
  refine wpAny_setItem_pairs l dd λh' d j=>?_
  obtain⟨f,ar,ep,c⟩:=d
  obtain⟨g,i⟩:=D.o
  refine h ep _ (uL I (by rw[i];exact True.intro) j ⟨f,c.1⟩ (mV n ⟨f,ar,c.1,c.2.1,c.2.2.1,?_⟩))
  exact wX (KD m e) c.2.2.2.2.1 λt x=>c.2.2.2.1 t (by simp_all)
end
structure Er where
 c:Str
 fs:List (Str×Dz)
inductive R(α:Type) where
 | bad|ok (a:α)|ex (e:Er)
noncomputable def R.bind{α β:Type}:R α->(α->R β)->R β
 | .bad,_=>.bad
 | .ok a,f=>f a
 | .ex e,_=>.ex e
@[simp] theorem R.cf{α β:Type}(a:α)(f:α->R β):(R.ok a).bind f=f a:=id rfl
@[simp] theorem R.Ak{α β:Type}(f:α->R β):(R.bad:R α).bind f=.bad:=id rfl
@[simp] theorem R.Dk{α β:Type}(e:Er)(f:α->R β):(R.ex e:R α).bind f=.ex e:=id rfl
inductive A where
 | d (x:Dz)|l (xs:List Dz)|m (bd:List (Dz×Dz))|x (e:Er)|g (k n:Nat) (f:List Dz->R Dz)|k (q:Str)|f (bd:List (Dz×Dz))|o (e:Er)|w (a:Az)|h (k n:Nat) (f:List Dz->R Dz) (ds:List Dz)
abbrev Sg:=L9 (O9 A)
structure Gb where
 B:Az->Hp->Nat->Nat->(List Dz->R Dz)->Prop
 T:Hp
 w:World
structure Ct where
 K:Frag
 mg:Str->Option V9
 w:World
 F0:Hp
 H0:Hp
 g:Gb
 cells:List (Str×Az)
 cls:Str->Option ej
theorem ND{w:W9}{p:Az}{es:L9 Ent}{ep:Nat}{q:Str}(h:eS w p es ep=.nq q):False:=by cases h
theorem bP(H:Hp):aH H H:=λ_ _ h=>h
theorem aY{H H':Hp}(s:aH H H'){a:Az}(h:H' a=none):H a=none:=by
 cases e:H a with
 | none=>rfl
 | some o=>rw[s a o e]at h;ext
def oG(H:Hp)(a:Az):Prop:=H a=none\/∃ q,H a=some (.nq q)
theorem oG.back{H H1:Hp}{a:Az}(s:aH H H1)(h:oG H1 a):oG H a:=by
 cases e:H a with
 | none=>exact .inl e
 | some o=>
  have e1:=s a o e
  rcases h with z|⟨q,z⟩
  · ext
  · rw [e1]at z; cases z; exact .inr ⟨q, e⟩
structure Ext(F H F' H':Hp):Prop where
 hh:aH H H'
 ff:aH F F'
 fh:aH F' H'
 nw:∀ a,F a=none->F' a≠none->oG H a
theorem Ext.refl{F H:Hp}(h:aH F H):Ext F H F H:=⟨bP H,bP F,h,λa e n=>absurd e n⟩
theorem Ext.trans{F H c H1 d H2:Hp}(a:Ext F H c H1)(b:Ext c H1 d H2):Ext F H d H2:=
 ⟨λx o e=>b.hh x o (a.hh x o e),λx o e=>b.ff x o (a.ff x o e),b.fh,λx e n=>by
  cases q:c x with
  | none=>exact(b.nw x q n).back a.hh
  | some o=>exact a.nw x e (by ext)⟩
theorem Ext.d6{F H a H':Hp}(s:Ext F H a H'){p:Az}{o:HO}(c:F p=none)(h2:H p=some o)(b:∀ q,o≠.nq q):a p=none:=by
 cases q:a p with
 | none=>rfl
 | some o=>
  rcases s.nw p c (by ext)with z|⟨d,z⟩<;>ext
theorem Wu{F H:Hp}{p:Az}{o:HO}(s:aH F H):aH (upd F p o) (upd H p o):=λa u e=>by
 by_cases q:a=p
 · subst q; rw [aI]at e ⊢; ext
 · rw [aE q]at e ⊢; exact s a u e
theorem Ext.new{F H:Hp}{p:Az}{o:HO}(s:aH F H)(b:H p=none):Ext F H (upd F p o) (upd H p o):=
 ⟨aH.upd b,aH.upd (aY s b),Wu s,λa e n=>by
  by_cases q:a=p
  · subst q; exact .inl b
  · rw [aE q]at n; simp_all⟩
theorem Ext.own{F H:Hp}{p:Az}{o:HO}(s:aH F H)(b:H p=none):Ext F H F (upd H p o):=
 ⟨aH.upd b,bP F,λa u e=>by
  rw[aE (aW (s a u e) b)];exact s a u e,λa e n=>absurd e n⟩
def lD(K:Frag)(mg:Str->O9 V9)(F:Hp)(e:Er)(a C:Az):Prop:=mg e.c=some (.ref C)/\∃ od,F a=some (mv a C od)/\((e.fs=[]/\od=none)\/∃ d nk,od=some d/\F d=some (.xd nk)/\nk.map (·.1)=e.fs.map (·.1)/\a_ K F (nk.map (·.2)) (e.fs.map (·.2)))
theorem lD.same{K:Frag}{mg:Str->O9 V9}{F b:Hp}{e:Er}{a C:Az}(s:aH F b)(h:lD K mg F e a C):lD K mg b e a C:=by
 obtain⟨m,od,h1⟩:=h
 refine⟨m,od,s _ _ h1.1,h1.2.imp id ?_⟩
 rintro ⟨d,nk,e1,e2,e3,e4⟩
 exact⟨d,nk,e1,s _ _ e2,e3,e4.same s⟩
def Eb(K:Frag)(mg:Str->O9 V9)(F:Hp)(e:Er)(a:Az):Prop:=∃ C dx nk,mg e.c=some (.ref C)/\F a=some (.ins C dx nk)/\nk.map (·.1)=e.fs.map (·.1)/\a_ K F (nk.map (·.2)) (e.fs.map (·.2))
theorem Eb.same{K:Frag}{mg:Str->O9 V9}{F c:Hp}{e:Er}{a:Az}(s:aH F c)(h:Eb K mg F e a):Eb K mg c e a:=by
 obtain⟨C,dx,b,h1⟩:=h
 exact⟨C,dx,b,h1.1,s _ _ h1.2.1,h1.2.2.1,h1.2.2.2.same s⟩
structure dq(K:Frag)(F:Hp)(es:List Ent)(bd:List (Dz×Dz)):Prop where
 k1:es.map (·.1)=bd.map (·.1)
 k2:a_ K F (es.map (·.2.1)) (bd.map (·.1))
 vs:a_ K F (es.map (·.2.2)) (bd.map (·.2))
 nd:(bd.map (·.1)).Nodup
theorem dq.same{K:Frag}{F b:Hp}{es:L9 Ent}{a:L9 (Dz×Dz)}(s:aH F b)(h:dq K F es a):dq K b es a:=⟨h.k1,h.k2.same s,h.vs.same s,h.nd⟩
def AF(g:Gb)(K:Frag)(mg:Str->O9 V9)(F:Hp):A->V->Prop
 | .d x,v=>b5 K F v x
 | .x e,v=>∃ a C,v=.ref a/\lD K mg F e a C
 | .g k n G,v=>∃ f F1,v=.ref f/\aH F1 F/\g.B f F1 k n G
 | .f bd,v=>∃ p es,v=.ref p/\(∃ ep,F p=some (eS g.w p es ep))/\dq K F es bd
 | .o e,v=>∃ a,v=.ref a/\Eb K mg F e a
 | .w a,v=>v=.ref a
 | .h k n G ds,v=>∃ p f F1 vs,v=.ref p/\F p=some (.lst (.ref f::vs))/\aH F1 F/\g.B f F1 k n G/\a_ K F vs ds
 | _,_=>False
theorem AF.same{g:Gb}{K:Frag}{mg:Str->O9 V9}{F i:Hp}(s:aH F i){a:A}{v:V}(h:AF g K mg F a v):AF g K mg i a v:=by
 cases a with
 | d x=>exact b5.same s h
 | x e=>obtain⟨a,C,h1,h2⟩:=h;exact⟨a,C,h1,h2.same s⟩
 | g k n G=>obtain⟨f,c,h1,h2,b⟩:=h;exact⟨f,c,h1,λa o z=>s a o (h2 a o z),b⟩
 | f bd=>obtain⟨p,es,h1,⟨ep,h2⟩,b⟩:=h;exact⟨p,es,h1,⟨ep,s _ _ h2⟩,b.same s⟩
 | o e=>obtain⟨a,h1,h2⟩:=h;exact⟨a,h1,h2.same s⟩
 | h k n G ds=>obtain⟨p,f,c,vs,h1,h2,b,l,j⟩:=h;exact⟨p,f,c,vs,h1,s _ _ h2,λa o z=>s a o (b a o z),l,j.same s⟩
 | _=>exact h
noncomputable def A.own:A->Bool
 | .l _=>true
 | .m _=>true
 | _=>false
def AO(c:Ct)(F H:Hp):A->V->Prop
 | .l xs,v=>∃ p vs,v=.ref p/\H p=some (.lst vs)/\F p=none/\c.H0 p=none/\a_ c.K F vs xs
 | .m bd,v=>∃ p es,v=.ref p/\(∃ ep,H p=some (eS c.w p es ep))/\F p=none/\c.H0 p=none/\dq c.K F es bd
 | .k q,v=>∃ S f cl doc pm cc ct,c.cls q=some S/\v=.ref f/\F f=some (mW f (S.obj cl doc pm cc ct))/\F cc=some (.nq S.qual)/\u2 c.cells S.scope cl
 | a,v=>AF c.g c.K c.mg F a v
theorem AO.ext{c:Ct}{F H r H':Hp}(s:Ext F H r H'){a:A}{v:V}(h:AO c F H a v):AO c r H' a v:=by
 cases a with
 | k q=>obtain⟨S,f,cl,doc,pm,u,ct,t,h1,h2,i,b⟩:=h;exact⟨S,f,cl,doc,pm,u,ct,t,h1,s.ff _ _ h2,s.ff _ _ i,b⟩
 | l xs=>obtain⟨p,vs,h1,h2,i,b,j⟩:=h;exact⟨p,vs,h1,s.hh _ _ h2,s.d6 i h2 (λ_ z=>nomatch z),b,j.same s.ff⟩
 | m bd=>obtain⟨p,vs,h1,⟨ep,h2⟩,i,b,j⟩:=h;exact⟨p,vs,h1,⟨ep,s.hh _ _ h2⟩,s.d6 i h2 (λ_ z=>ND z),b,j.same s.ff⟩
 | w a=>exact h
 | d x=>exact b5.same s.ff h
 | x e=>exact AF.same (g:=c.g) (a:=.x e) s.ff h
 | g k n G=>exact AF.same (K:=c.K) (mg:=c.mg) (a:=.g k n G) s.ff h
 | f bd=>exact AF.same (mg:=c.mg) (a:=.f bd) s.ff h
 | o e=>exact AF.same (g:=c.g) (a:=.o e) s.ff h
 | h k n G ds=>exact AF.same (mg:=c.mg) (a:=.h k n G ds) s.ff h
theorem AO.at{c:Ct}{F H:Hp}{a:A}{v:V}(h:AO c F H a v)(o:a.own=true):∃ p o,v=.ref p/\H p=some o/\F p=none/\c.H0 p=none:=by
 cases a with
 | l xs=>obtain⟨p,vs,h1⟩:=h;exact⟨p,_,h1.1,h1.2.1,h1.2.2.1,h1.2.2.2.1⟩
 | m xs=>obtain⟨p,vs,h1,⟨ep,h2⟩,i,b,j⟩:=h;exact⟨p,_,h1,h2,i,b⟩
 | d x=>cases o
 | x e=>cases o
 | g k n f=>cases o
 | k S=>cases o
 | f S=>cases o
 | o S=>cases o
 | w S=>cases o
 | h _ _ _ _=>cases o
theorem AO.off{c:Ct}{F H:Hp}{p:Az}{o:HO}{a:A}{v:V}(h:AO c F H a v)(n:v≠.ref p):AO c F (upd H p o) a v:=by
 cases a with
 | l xs=>obtain⟨q,vs,h1,h2,e,d,b⟩:=h;exact⟨q,vs,h1,by rw[aE (λz=>n (by simp_all))];exact h2,e,d,b⟩
 | m xs=>obtain⟨q,vs,h1,⟨ep,h2⟩,e,d,b⟩:=h;exact⟨q,vs,h1,⟨ep,by rw[aE (λz=>n (by simp_all))];exact h2⟩,e,d,b⟩
 | _=>exact h
structure Ab(c:Ct)(Y:Sg)(Z:_a.St)(F H:Hp):Prop where
 len:Y.length=Z.length
 fh:aH F H
 slot:∀ (i:Nat) (a:A),Y[i]? = some (some a)->∃ v,Z[i]? = some (some v)/\AO c F H a v
 apart:∀ (i j:Nat) (a b:A),i≠j->Y[i]? = some (some a)->Y[j]? = some (some b)->a.own=true->b.own=true->Z[i]? ≠ Z[j]?
 f0:aH c.F0 F
 h0:aH c.H0 H
 n0:∀ a,c.F0 a=none->F a≠none->oG c.H0 a
 t0:aH c.g.T c.F0
theorem Ab.all{c:Ct}{Y:Sg}{Z:_a.St}{F H:Hp}(b:Ab c Y Z F H):Ext c.F0 c.H0 F H:=⟨b.h0,b.f0,b.fh,b.n0⟩
theorem Ab.ext{c:Ct}{Y:Sg}{Z:_a.St}{F H d H':Hp}(b:Ab c Y Z F H)(e:Ext F H d H'):Ab c Y Z d H' where
 len:=b.len
 fh:=e.fh
 slot:=λi a h=>let ⟨v,h1,h2⟩:=b.slot i a h;⟨v,h1,h2.ext e⟩
 apart:=b.apart
 f0:=λx o h=>e.ff x o (b.f0 x o h)
 h0:=λx o h=>e.hh x o (b.h0 x o h)
 n0:=λa h n=>by
  cases q:F a with
  | none=>exact(e.nw a q n).back b.h0
  | some o=>exact b.n0 a h (by rw[q];exact λz=>nomatch z)
 t0:=b.t0
def XW(c:Ct)(E:XK)(e:Er):Prop:=∀ a C F' H',Ext c.F0 c.H0 F' H'->lD c.K c.mg F' e a C->E (.ref C) (some a) H'
def Rk{α:Type}(c:Ct)(E:XK)(F H:Hp)(r:R α)(k:α->Prop):Prop:=match r with
 | .bad=>False
 | .ok a=>k a
 | .ex e=>XW c E e
abbrev VR(α:Type):=α->V->Hp->Hp->Hp->Prop
def tV{α:Type}(Rel:VR α)(c:Ct)(E:XK)(f:Sg->R α):TE:=λZ H Q=>∃ Y F,Ab c Y Z F H/\Rk c E F H (f Y) λd=>∀ v F' H',Ext F H F' H'->Rel d v H F' H'->Q v H'
def b6(c:Ct):VR Dz:=λd v _ F _=>b5 c.K F v d
def aP(K:Frag)(F H:Hp)(v:V)(d:Dz):Prop:=b5 K F v d\/∃ p vs xs,v=.ref p/\d=.list xs/\H p=some (.lst vs)/\a_ K F vs xs
def bG(c:Ct):VR Dz:=λd v _ F H=>aP c.K F H v d
def Ea(c:Ct):VR A:=λa v _ F _=>AF c.g c.K c.mg F a v
def zY(c:Ct):VR (L9 Dz):=λxs v H F H'=>∃ p vs,v=.ref p/\H p=none/\H' p=some (.lst vs)/\F p=none/\a_ c.K F vs xs
abbrev PD(X:Cx)(c:Ct)(E:XK)(e:Ez)(f:Sg->R Dz):Prop:=PE X e (tV (b6 c) c E f)
abbrev PR(X:Cx)(c:Ct)(E:XK)(e:Ez)(f:Sg->R Dz):Prop:=PE X e (tV (bG c) c E f)
abbrev PV(X:Cx)(c:Ct)(E:XK)(e:Ez)(f:Sg->R A):Prop:=PE X e (tV (Ea c) c E f)
abbrev PN(X:Cx)(c:Ct)(E:XK)(e:Ez)(f:Sg->R (L9 Dz)):Prop:=PE X e (tV (zY c) c E f)
theorem PE.imp{X:Cx}{e:Ez}{t t':TE}(h:PE X e t)(i:∀ Z H Q,t' Z H Q->t Z H Q):PE X e t':=λav s Z H Q I q=>h av s Z H Q I (i Z H Q q)
theorem PT.imp{X:Cx}{e:Ez}{t t':TT}(h:PT X e t)(i:∀ Z H Q,t' Z H Q->t Z H Q):PT X e t':=λav s Z H Q I q=>h av s Z H Q I (i Z H Q q)
theorem PS.imp{X:Cx}{e:Stmt}{t t':TS}(h:PS X e t)(i:∀ D Z H,t' D Z H->t D Z H):PS X e t':=λav s Z H D I q=>h av s Z H D I (i D Z H q)
theorem ix.imp{X:Cx}{e:L9 Stmt}{t t':TS}(h:ix X e t)(i:∀ D Z H,t' D Z H->t D Z H):ix X e t':=λav s Z H D I q=>h av s Z H D I (i D Z H q)
def KC{α:Type}(Rel:VR α):Prop:=∀ d v H F H1 F2 H2,Ext F H1 F2 H2->Rel d v H F H1->Rel d v H F2 H2
theorem aP.ext{K:Frag}{F H a H':Hp}{v:V}{d:Dz}(e:Ext F H a H')(h:aP K F H v d):aP K a H' v d:=by
 rcases h with h|⟨p,vs,xs,h1,h2,c,b⟩
 · exact .inl (h.same e.ff)
 · exact .inr ⟨p, vs, xs, h1, h2, e.hh _ _ c, b.same e.ff⟩
theorem sS(c:Ct):KC (bG c):=λd v H F H1 a H2 e h=>aP.ext e h
theorem aP.heap{K:Frag}{F H:Hp}{v:V}{d:Dz}(s:aH F H)(h:aP K F H v d):b5 K H v d:=by
 rcases h with h|⟨p,vs,xs,h1,h2,b,a⟩
 · exact h.same s
 · subst h1 h2; exact .lst (d_.of b) (a.same s)
section
variable{X:Cx}{c:Ct}{E:XK}{α β γ:Type}{Ra:VR α}{Rb:VR β}{Rc:VR γ}{Z:_a.St}{H:Hp}{Q:VK}
theorem Rk.ok{F:Hp}{a:α}{k:α->Prop}(h:Rk c E F H (.ok a) k):k a:=h
theorem Rk.imp{F:Hp}{r:R α}{k b:α->Prop}(h:Rk c E F H r k)(i:∀ a,r=.ok a->k a->b a):Rk c E F H r b:=by
 cases r with
 | bad=>exact h
 | ok a=>exact i a rfl h
 | ex e=>exact h
theorem Rk.bind{F:Hp}{r:R α}{f:α->R β}{k:β->Prop}(h:Rk c E F H (r.bind f) k):Rk c E F H r λa=>Rk c E F H (f a) k:=by
 cases r with
 | bad=>exact h
 | ok a=>exact h
 | ex e=>exact h
theorem Rk.ext{F a H':Hp}{r:R α}{k:α->Prop}(e:Ext F H a H')(h:Rk c E F H r k):Rk c E a H' r k:=by
 assumption
end
def A_{α:Type}(Rel:VR α):Prop:=∀ d v H H1 F' H',aH H H1->Rel d v H1 F' H'->Rel d v H F' H'
theorem oH(c:Ct):A_ (b6 c):=λ_ _ _ _ _ _ _ h=>h
theorem QB(c:Ct):A_ (zY c):=λ_ _ _ _ _ _ s h=>by
 obtain⟨p,vs,h1⟩:=h
 exact⟨p,vs,h1.1,aY s h1.2.1,h1.2.2⟩
section
variable{X:Cx}{c:Ct}{E:XK}{α β γ:Type}{Ra:VR α}{Rb:VR β}{Rc:VR γ}
def Ox(c:Ct)(Ra:VR α)(Rb:VR β)(g:α->R β)(r:V->Hp->VK->Prop):Prop:=
 ∀ (H0 F H:Hp) (a:α) (b:β) (v:V) (Q:VK),aH F H->Ra a v H0 F H->g a=.ok b->(∀ w F' H',Ext F H F' H'->Rb b w H F' H'->Q w H')->r v H Q
def Ow(c:Ct)(Ra:VR α)(Rb:VR β)(Rc:VR γ)(g:α->β->R γ)(r:R2):Prop:=
 ∀ (H0 H1 F H:Hp) (a:α) (b:β) (d:γ) (v u:V) (Q:VK),aH F H->Ra a v H0 F H->Rb b u H1 F H->g a b=.ok d->(∀ w F' H',Ext F H F' H'->Rc d w H F' H'->Q w H')->r v u H Q
def sT(g:α->R β):Prop:=∀ a e,g a≠.ex e
def cV(g:α->β->R γ):Prop:=∀ a b e,g a b≠.ex e
theorem Fx{f:Sg->R α}{g:α->R β}{r:V->Hp->VK->Prop}(m:Ox c Ra Rb g r)(j:sT g)(l:A_ Rb){Z:_a.St}{H:Hp}{Q:VK}(h:tV Rb c E (λY=>(f Y).bind g) Z H Q) :
  tV Ra c E f Z H λv H1=>r v H1 Q:=by
 obtain⟨Y,F,ab⟩:=h
 refine⟨Y,F,ab.1,(Rk.bind ab.2).imp λa p q v o H1 e1 k=>?_⟩
 cases d:g a with
 | bad=>rw[d]at q;exact q.elim
 | ex e=>exact absurd d (j a e)
 | ok b=>
  rw[d]at q
  exact m H o H1 a b v Q e1.fh k d λw n H' e2 i=>q w n H' (e1.trans e2) (l _ _ _ _ _ _ e1.hh i)
theorem zb{f:Sg->R α}{k:Sg->R β}{g:α->β->R γ}{r:R2}(B:Ow c Ra Rb Rc g r)(t:cV g)(s:KC Ra)(m:A_ Rc){Z:_a.St}{H:Hp}{Q:VK}(h:tV Rc c E (λY=>(f Y).bind λa=>(k Y).bind λb=>g a b) Z H Q) :
  vk r (tV Ra c E f) (tV Rb c E k) Z H Q:=by
 obtain⟨Y,F,ab⟩:=h
 refine⟨Y,F,ab.1,(Rk.bind ab.2).imp λa G q v n H1 e1 y=>?_⟩
 refine⟨Y,n,ab.1.ext e1,((Rk.bind q).ext e1).imp λb D q u l H2 e2 A=>?_⟩
 cases i:g a b with
 | bad=>rw[i]at q;exact q.elim
 | ex e=>exact absurd i (t a b e)
 | ok d=>
  rw[i]at q
  exact B H H1 l H2 a b d v u Q e2.fh (s _ _ _ _ _ _ _ e2 y) A i λw C H' p j=>q w C H' ((e1.trans e2).trans p) (m _ _ _ _ _ _ (λx o z=>e2.hh x o (e1.hh x o z)) j)
end
section
variable{K:Frag}{F H:Hp}{v:V}
theorem b5.kL{b:Bool}(h:b5 K H v (.bool b)):v=.bl b:=by cases h;rfl
theorem b5.qq(h:b5 K H v .none):v=.fg:=by cases h;rfl
theorem aP.cA{i:Int}(h:aP K F H v (.int i)):v=.int i:=by
 rcases h with h|⟨_,_,_,_,h,_⟩
 · exact h.cA
 simp_all
theorem aP.df{i:Str}(h:aP K F H v (.str i)):v=.str i:=by
 rcases h with h|⟨_,_,_,_,h,_⟩
 · exact h.df
 simp_all
theorem aP.kL{i:Bool}(h:aP K F H v (.bool i)):v=.bl i:=by
 rcases h with h|⟨_,_,_,_,h,_⟩
 · exact b5.kL h
 simp_all
theorem aP.qq(h:aP K F H v .none):v=.fg:=by
 rcases h with h|⟨_,_,_,_,h,_⟩
 · exact b5.qq h
 simp_all
theorem aP.dz(s:aH F H)(h:aP K F H v (.tuple xs)):∃ a vs,v=.ref a/\fq K F a vs/\fq K H a vs/\a_ K F vs xs:=by
 rcases h with h|⟨_,_,_,_,h,_⟩
 .obtain ⟨a,vs,h1⟩:=h.dz
  exact⟨a,vs,h1.1,h1.2.1,h1.2.1.same s,h1.2.2⟩
 simp_all
theorem aP.d3(s:aH F H)(h:aP K F H v (.list xs)):∃ a vs,v=.ref a/\d_ K H a vs/\a_ K F vs xs:=by
 rcases h with h|⟨p,vs,ys,h1,h2,c,b⟩
 .obtain ⟨a,vs,h1⟩:=h.d3
  exact⟨a,vs,h1.1,h1.2.1.same s,h1.2.2⟩
 .cases h2
  exact⟨p,vs,h1,d_.of c,b⟩
theorem NC{vs:L9 V}{i:Int}{d:Dz}(h:a_ K F vs xs)(e:j1 xs i=some d):∃ x,j1 vs i=some x/\b5 K F x d:=by
 unfold j1 at e ⊢
 rw[h.length]
 cases q:ni xs.length i with
 | none=>simp_all
 | some j=>
  rw[q]at e
  exact h.get' e
end
noncomputable def eV(i:Nat):Sg->R Dz:=λY=>match Y[i]? with
 | some (some (.d x))=>.ok x
 | _=>.bad
noncomputable def rV(i:Nat):Sg->R Dz:=λY=>match Y[i]? with
 | some (some (.d x))=>.ok x
 | some (some (.l xs))=>.ok (.list xs)
 | _=>.bad
noncomputable def vV(i:Nat):Sg->R A:=λY=>match Y[i]? with
 | some (some (.d x))=>.ok (.d x)
 | some (some (.x e))=>.ok (.x e)
 | some (some (.g k n f))=>.ok (.g k n f)
 | some (some (.f bd))=>.ok (.f bd)
 | _=>.bad
def eC(d:Dz):Sg->R Dz:=λ_=>.ok d
section
variable{X:Cx}{c:Ct}{E:XK}{e a b:Ez}
theorem sU(h:PE X e (bU i)):PD X c E e (eV i):=PE.imp h λZ H Q ⟨Y,F,ab,k⟩=>by
 unfold eV at k
 split at k
 .rename_i x a
  obtain⟨v,h1⟩:=ab.slot i _ a
  exact⟨v,h1.1,k v F H (Ext.refl ab.fh) h1.2⟩
 .exact k.elim
theorem dO(h:PE X e (bU i)):PR X c E e (rV i):=PE.imp h λZ H Q ⟨Y,F,ab,k⟩=>by
 unfold rV at k
 split at k
 .rename_i x a
  obtain⟨v,h1⟩:=ab.slot i _ a
  exact⟨v,h1.1,k v F H (Ext.refl ab.fh) (.inl h1.2)⟩
 .rename_i x a
  obtain⟨v,h1,p,vs,h2⟩:=ab.slot i _ a
  exact⟨v,h1,k v F H (Ext.refl ab.fh) (.inr ⟨p,vs,x,h2.1,rfl,h2.2.1,h2.2.2.2.2⟩)⟩
 .exact k.elim
theorem R5(h:PE X e (bU i)):PV X c E e (vV i):=PE.imp h λZ H Q ⟨Y,F,ab,k⟩=>by
 unfold vV at k
 split at k
 .rename_i x a
  obtain⟨v,h1,h2⟩:=ab.slot i _ a
  exact⟨v,h1,k v F H (Ext.refl ab.fh) h2⟩
 .rename_i x a
  obtain⟨v,h1,h2⟩:=ab.slot i _ a
  exact⟨v,h1,k v F H (Ext.refl ab.fh) h2⟩
 .rename_i d f g a
  obtain⟨v,h1⟩:=ab.slot i _ a
  exact⟨v,h1.1,k v F H (Ext.refl ab.fh) h1.2⟩
 .rename_i b a
  obtain⟨v,h1,h2⟩:=ab.slot i _ a
  exact⟨v,h1,k v F H (Ext.refl ab.fh) h2⟩
 .exact k.elim
theorem iZ{v:V}{d:Dz}(h:PE X e (tC v))(a:∀ F,b5 c.K F v d):PD X c E e (eC d):=PE.imp h λZ H Q Y=>by obtain⟨Y,F,ab⟩:=Y;exact ab.2 v F H (Ext.refl ab.1.fh) (a F)
theorem gL{i j pos}:PD X c E (.Constant (.int i) j pos) (eC (.int i)):=iZ R_ λ_=>.int i
theorem uQ{i j pos}:PD X c E (.Constant (.bool i) j pos) (eC (.bool i)):=iZ Qc λ_=>.bl i
theorem cW{i j pos}:PD X c E (.Constant (.str i) j pos) (eC (.str i)):=iZ Iz λ_=>.str i
theorem R4{j pos}:PD X c E (.Constant .none j pos) (eC .none):=iZ R9 λ_=>.fg
theorem bV{f:Sg->R Dz}(h:PD X c E e f):PR X c E e f:=PE.imp h λZ H Q Y=>by obtain⟨Y,F,ab⟩:=Y;exact⟨Y,F,ab.1,ab.2.imp λd _ q v a H' s r=>q v a H' s (.inl r)⟩
def vD(f:Sg->R Dz):Sg->R A:=λY=>(f Y).bind λx=>.ok (.d x)
theorem cS{f:Sg->R Dz}(h:PD X c E e f):PV X c E e (vD f):=PE.imp h λZ H Q Y=>by obtain⟨Y,F,ab⟩:=Y;exact⟨Y,F,ab.1,(Rk.bind ab.2).imp λd _ q v a H' s r=>Rk.ok q v a H' s r⟩
def getD:A->R Dz
 | .d x=>.ok x
 | _=>.bad
def eA(f:Sg->R A):Sg->R Dz:=λY=>(f Y).bind getD
theorem yM{f:Sg->R A}(h:PV X c E e f):PD X c E e (eA f):=PE.imp h λZ H Q ⟨Y,F,ab,k⟩=>⟨Y,F,ab,(Rk.bind k).imp λd _ q v a H' s r=>by
 cases d with
 | d x=>exact Rk.ok q v a H' s r
 | _=>exact False.elim q⟩
def eL(f:Sg->R (L9 Dz)):Sg->R Dz:=λY=>(f Y).bind λxs=>.ok (.list xs)
theorem pM{f:Sg->R (L9 Dz)}(h:PN X c E e f):PD X c E e (eL f):=PE.imp h λZ H Q ⟨Y,F,ab,k⟩=>⟨Y,F,ab,(Rk.bind k).imp λxs _ q v b H' s r=>by
 obtain⟨p,vs,h1,h2⟩:=r
 subst h1
 refine Rk.ok q _ _ H' ⟨s.hh,λa o z=>?_,λa o z=>?_,λa z n=>?_⟩ (.lst (d_.of aI) (h2.2.2.2.same (aH.upd h2.2.2.1)))
 .rw[aE (aW (s.ff a o z) h2.2.2.1)];exact s.ff a o z
 .by_cases w:a=p
  · subst w; rw [aI]at z; rw [h2.2.1]; ext
  · rw [aE w]at z; exact s.fh a o z
 .by_cases w:a=p
  · subst w; exact .inl h2.1
  · rw [aE w]at n; exact s.nw a z n⟩
def e1(g:α->R β)(f:Sg->R α):Sg->R β:=λY=>(f Y).bind g
def e2{γ:Type}(g:α->β->R γ)(f:Sg->R α)(f':Sg->R β):Sg->R γ:=λY=>(f Y).bind λx=>(f' Y).bind λy=>g x y
noncomputable def bN:Dz->Dz->R Dz
 | .int i,.int j=>.ok (.int (i+j))
 | .str x,.str y=>if x.length+y.length<=sizeLine then .ok (.str (x++y))else .bad
 | .tuple xs,.tuple ys=>if xs.isEmpty=false/\xs.length+ys.length<=sizeLine then .ok (.tuple (xs++ys))else .bad
 | _,_=>.bad
def fj:Dz->Dz->R Dz
 | .int i,.int j=>.ok (.int (i - j))
 | _,_=>.bad
noncomputable def hF:Dz->Dz->R Dz
 | .int i,.int j=>if (-18446744073709551616 < i/\i < 18446744073709551616)\/(-18446744073709551616 < j/\j < 18446744073709551616)then .ok (.int (i * j))else .bad
 | _,_=>.bad
def eT:Dz->Dz->R Dz
 | .int i,.int j=>if 0 < j/\j < 18446744073709551616 then .ok (.int (i / j))else .bad
 | _,_=>.bad
def cy:Dz->Dz->R Dz
 | .int i,.int j=>if 0 < j then .ok (.int (i % j))else .bad
 | _,_=>.bad
def hW:Dz->R Dz
 | .int i=>.ok (.int (-i))
 | _=>.bad
def uf:Dz->Dz->R Dz
 | .int i,.int j=>.ok (.bool (decide (i < j)))
 | _,_=>.bad
def qg:Dz->Dz->R Dz
 | .int i,.int j=>.ok (.bool (decide (j < i)))
 | _,_=>.bad
def vw:Dz->Dz->R Dz
 | .int i,.int j=>.ok (.bool (decide (j<=i)))
 | _,_=>.bad
def ey(x y:Dz):R Dz:=if shaped x=true/\shaped y=true then .ok (.bool (PyData.eqv x y))else .bad
def ou(x y:Dz):R Dz:=if shaped x=true/\shaped y=true then .ok (.bool (!PyData.eqv x y))else .bad
def jX:Dz->Bool
 | .none=>true
 | _=>false
def Jt(x y:Dz):R Dz:=if jX y=true then .ok (.bool (jX x))else .bad
def mh(x y:Dz):R Dz:=if jX y=true then .ok (.bool (!jX x))else .bad
noncomputable def inD:Dz->Dz->O9 Bool
 | .str i,.str j=>some (!(Builtin.Str.occurrences j i 0 j.length 1).isEmpty)
 | x,.list xs=>if shaped x=true/\shaped (.list xs)=true then some (xs.any λy=>PyData.eqv y x)else none
 | x,.tuple xs=>if shaped x=true/\shaped (.tuple xs)=true then some (xs.any λy=>PyData.eqv y x)else none
 | _,_=>none
def ug(x y:Dz):R Dz:=match inD x y with
 | some b=>.ok (.bool b)
 | none=>.bad
def ot(x y:Dz):R Dz:=match inD x y with
 | some b=>.ok (.bool (!b))
 | none=>.bad
noncomputable def b_:Dz->Dz->R Dz
 | .list xs,.int i=>match j1 xs i with
  | some v=>.ok v
  | none=>.bad
 | .tuple xs,.int i=>match j1 xs i with
  | some v=>.ok v
  | none=>.bad
 | .str z,.int i=>if z.length<=sizeLine then match j1 z.cps.toList i with
  | some u=>.ok (.str ⟨#[u]⟩)
  | none=>.bad else .bad
 | _,_=>.bad
end
section
variable{X:Cx}{c:Ct}{E:XK}{e a b:Ez}{α β γ:Type}{Ra:VR α}{Rb:VR β}{Rc:VR γ}{pos:Pos}
def mr(Ra:VR α)(Rb:VR β)(Rc:VR γ)(g:α->β->R γ):R2:=λv u H Q=>∃ H0 H1 F a b d,aH F H/\Ra a v H0 F H/\Rb b u H1 F H/\g a b=.ok d/\∀ w F' H',Ext F H F' H'->Rc d w H F' H'->Q w H'
def F3(Ra:VR α)(Rb:VR β)(g:α->R β):V->Hp->VK->Prop:=λv H Q=>∃ H0 F a b,aH F H/\Ra a v H0 F H/\g a=.ok b/\∀ w F' H',Ext F H F' H'->Rb b w H F' H'->Q w H'
theorem yN{g:α->β->R γ}:Ow c Ra Rb Rc g (mr Ra Rb Rc g):=λe H1 F H a b d v u Q h i j f q=>⟨e,H1,F,a,b,d,h,i,j,f,q⟩
theorem HP{g:α->R β}:Ox c Ra Rb g (F3 Ra Rb g):=λd F H a b v Q f h e q=>⟨d,F,a,b,f,h,e,q⟩
theorem fG{e:Operator}{g:Dz->Dz->R Dz}{d fb:Sg->R Dz}(f:e_ X (binaryOp e) (mr (bG c) (bG c) (b6 c) g))(j:cV g)(i:PR X c E a d)(hb:PR X c E b fb):PD X c E (.BinOp a e b pos) (e2 g d fb):=
 PE.imp (Fd f i hb) λZ H Q h=>zb yN j (sS c) (oH c) h
theorem QA{d:UnaryOp}{g:Dz->R Dz}{b:Sg->R Dz}(e:Bj X (unaryOp d) (F3 (bG c) (b6 c) g))(i:sT g)(f:PR X c E a b):PD X c E (.UnaryOp d a pos) (e1 g b):=
 PE.imp (P8 e f) λZ H Q h=>Fx HP i (oH c) h
theorem nF{d:CmpOp}{g:Dz->Dz->R Dz}{e fb:Sg->R Dz}(f:e_ X (compareOp d) (mr (bG c) (bG c) (b6 c) g))(k:cV g)(i:PR X c E a e)(hb:PR X c E b fb)(j:behindInMarks d b=false):PD X c E (.Compare a [d] [b] pos) (e2 g e fb):=
 PE.imp (U1 f i hb j) λZ H Q h=>zb yN k (sS c) (oH c) h
theorem yO{g:Dz->Dz->R Dz}{d fb:Sg->R Dz}(e:uv X (mr (bG c) (bG c) (b6 c) g))(i:cV g)(f:PR X c E a d)(hb:PR X c E b fb)(j:MK b:=by exact λ_ _=>rfl):PD X c E (.Subscript a b pos) (e2 g d fb):=
 PE.imp (_a.Kq e f hb j) λZ H Q h=>zb yN i (sS c) (oH c) h
theorem uR(D:X.K=c.K):e_ X (binaryOp .Add) (mr (bG c) (bG c) (b6 c) bN):=by
 intro av s Z H v u x y Q I n o h
 obtain⟨G,H1,F,a,b,d,f,r,m,e,q⟩:=h
 unfold bN at e
 split at e
 .rename_i i j
  cases e
  obtain rfl:=aP.cA r
  obtain rfl:=aP.cA m
  exact SH av s Z H _ _ x y Q I n o ⟨i,j,rfl,rfl,q _ F H (Ext.refl f) (.int _)⟩
 .rename_i i j
  split at e
  .rename_i l
   cases e
   obtain rfl:=aP.df r
   obtain rfl:=aP.df m
   exact X8 av s Z H _ _ x y Q I n o ⟨i,j,rfl,rfl,l,q _ F H (Ext.refl f) (.str _)⟩
  simp_all
 .rename_i xs ys
  split at e
  .rename_i l
   cases e
   obtain⟨E,vs,rfl,B,t,g⟩:=aP.dz f r
   obtain⟨C,us,rfl,fb,A,k⟩:=aP.dz f m
   rw[<-D]at t A
   refine U8 av s Z H _ _ x y Q I n o ⟨E,C,vs,us,rfl,rfl,t,A,?_,by rw[g.length,k.length];exact l.2,λz=>?_,λz p w=>?_⟩
   .intro z;subst z;obtain rfl:xs=[]:=by cases g;rfl
    ext
   .subst z
    obtain rfl:ys=[]:=by cases k;rfl
    exact q _ F H (Ext.refl f) (by rw[CO];exact .tup B g)
   .exact q _ _ _ (Ext.new f w) (.tup (fq.of aI) ((g.append k).same (aH.upd (aY f w))))
  simp_all
 simp_all
theorem oI:cV bN:=by
 intro a b e h
 unfold bN at h
 ext
theorem l6{f:V9->V9->Sem V9}{g:Dz->Dz->R Dz}{C:Int->Int->Prop}{k:Int->Int->Dz}{kv:Int->Int->V}(w:e_ X f (rI C kv))(p:∀ i j F,b5 c.K F (kv i j) (k i j))
  (n:∀ a b d,g a b=.ok d->∃ i j,a=.int i/\b=.int j/\C i j/\d=k i j):e_ X f (mr (bG c) (bG c) (b6 c) g):=by
 intro av s Z H v u x y Q I o r h
 obtain⟨A,H1,F,a,b,d,t,z,m,e,q⟩:=h
 obtain⟨i,j,rfl,rfl,l,rfl⟩:=n a b d e
 obtain rfl:=aP.cA z
 obtain rfl:=aP.cA m
 exact w av s Z H _ _ x y Q I o r ⟨i,j,rfl,rfl,l,q _ F H (Ext.refl t) (p i j F)⟩
theorem Eu{f:V9->V9->Sem V9}{kv:Int->Int->V}(a:e_ X f (v_ kv)):e_ X f (rI (λ_ _=>True) kv):=λav s Z H x y v u Q I b c i=>by obtain⟨i,j,h1⟩:=i;exact a av s Z H x y v u Q I b c ⟨i,j,h1.1,h1.2.1,h1.2.2.2⟩
theorem Uv:e_ X (binaryOp .Sub) (mr (bG c) (bG c) (b6 c) fj):=l6 (Eu SG) (λ_ _ _=>.int _) λa b d h=>by
 unfold fj at h;split at h<;>simp_all
theorem Uu:e_ X (binaryOp .Mult) (mr (bG c) (bG c) (b6 c) hF):=l6 SF (λ_ _ _=>.int _) λa b d h=>by
 unfold hF at h;split at h
 .split at h
  · rename_i e; cases h; exact⟨_, _, rfl, rfl, e, rfl⟩
  simp_all
 simp_all
theorem Ut:e_ X (binaryOp .FloorDiv) (mr (bG c) (bG c) (b6 c) eT):=l6 V8 (λ_ _ _=>.int _) λa b d h=>by
 unfold eT at h;split at h
 .split at h
  · rename_i e; cases h; exact⟨_, _, rfl, rfl, e, rfl⟩
  simp_all
 simp_all
theorem lE:e_ X (binaryOp .Mod) (mr (bG c) (bG c) (b6 c) cy):=l6 SE (λ_ _ _=>.int _) λa b d h=>by
 unfold cy at h;split at h
 · ext
 simp_all
theorem Lz:e_ X (compareOp .Lt) (mr (bG c) (bG c) (b6 c) uf):=l6 (Eu P7) (λ_ _ _=>.bl _) λa b d h=>by
 unfold uf at h;split at h<;>simp_all
theorem Ly:e_ X (compareOp .Gt) (mr (bG c) (bG c) (b6 c) qg):=l6 (Eu P6) (λ_ _ _=>.bl _) λa b d h=>by
 unfold qg at h;split at h<;>simp_all
theorem R3:e_ X (compareOp .GtE) (mr (bG c) (bG c) (b6 c) vw):=l6 (Eu P5) (λ_ _ _=>.bl _) λa b d h=>by
 unfold vw at h;split at h<;>simp_all
theorem Xs:cV fj:=by intro a b e h;unfold fj at h;split at h<;>cases h
theorem Xr:cV hF:=by intro a b e h;unfold hF at h;split at h<;>(try split at h)<;>cases h
theorem Xq:cV eT:=by intro a b e h;unfold eT at h;split at h<;>(try split at h)<;>cases h
theorem i6:cV cy:=by intro a b e h;unfold cy at h;split at h<;>(try split at h)<;>cases h
theorem NB:cV uf:=by intro a b e h;unfold uf at h;split at h<;>cases h
theorem NA:cV qg:=by intro a b e h;unfold qg at h;split at h<;>cases h
theorem Wt:cV vw:=by intro a b e h;unfold vw at h;split at h<;>cases h
theorem wY:cV ey:=by intro a b e h;unfold ey at h;ext
theorem i7:cV ou:=by intro a b e h;unfold ou at h;ext
theorem XI:cV mh:=by intro a b e h;unfold mh at h;ext
theorem Nz:cV ug:=by intro a b e h;unfold ug at h;split at h<;>cases h
theorem Oc:cV ot:=by intro a b e h;unfold ot at h;split at h<;>cases h
theorem Xp:sT hW:=by intro a e h;unfold hW at h;split at h<;>cases h
theorem nG:cV b_:=by
 intro a b e h
 unfold b_ at h
 ext
theorem Us:Bj X (unaryOp .USub) (F3 (bG c) (b6 c) hW):=by
 intro av s Z H v x Q I e h
 obtain⟨j,F,a,d,f,g,b,q⟩:=h
 unfold hW at b
 split at b
 .rename_i i
  cases b
  obtain rfl:=aP.cA g
  exact RX av s Z H _ x Q I e ⟨i,rfl,q _ F H (Ext.refl f) (.int _)⟩
 simp_all
theorem Ip(g:X.K=c.K)(l:X.A.units+64 < cLine):e_ X (compareOp .Eq) (mr (bG c) (bG c) (b6 c) ey):=by
 intro av s Z H v u x y Q I j k h
 obtain⟨o,H1,F,a,b,d,f,m,n,e,q⟩:=h
 unfold ey at e
 split at e
 .rename_i i
  cases e
  exact RS l av s Z H _ _ x y Q I j k ⟨a,b,by rw[g];exact aP.heap f m,by rw[g];exact aP.heap f n,i.1,i.2,q _ F H (Ext.refl f) (.bl _)⟩
 simp_all
theorem l7(g:X.K=c.K)(l:X.A.units+64 < cLine):e_ X (compareOp .NotEq) (mr (bG c) (bG c) (b6 c) ou):=by
 intro av s Z H v u x y Q I j k h
 obtain⟨o,H1,F,a,b,d,f,m,n,e,q⟩:=h
 unfold ou at e
 split at e
 .rename_i i
  cases e
  exact RQ l av s Z H _ _ x y Q I j k ⟨a,b,by rw[g];exact aP.heap f m,by rw[g];exact aP.heap f n,i.1,i.2,q _ F H (Ext.refl f) (.bl _)⟩
 simp_all
theorem Ob{F H:Hp}{v:V}{d:Dz}(h:aP K F H v d):decide (v=.fg)=jX d:=by
 rcases h with h|⟨p,vs,xs,h1,h2,_⟩
 · cases h <;> rfl
 · subst h1 h2; rfl
theorem Ws:e_ X (compareOp .IsNot) (mr (bG c) (bG c) (b6 c) mh):=by
 intro av s Z H v u x y Q I f g h
 obtain⟨m,H1,F,a,b,d,i,j,l,e,q⟩:=h
 unfold mh at e
 split at e
 .rename_i k
  cases e
  have e2:=Ob l
  rw[k]at e2
  refine U2 av s Z H _ _ x y Q I f g ⟨BH e2,q _ F H (Ext.refl i) ?_⟩
  rw[Ob j];exact .bl _
 simp_all
theorem gW(h:shaped (.list xs)=true):PyData.canLayAll0 xs=true/\PyData.depthAll xs<=63:=by
 have h':(PyData.canLay0 _ && decide _)=true:=h
 rw[BA]at h'
 have a:PyData.depthAll xs+1<=64:=BH h'.2
 exact⟨h'.1,by ext⟩
theorem lR(h:shaped (.tuple xs)=true):PyData.canLayAll0 xs=true/\PyData.depthAll xs<=63:=by
 have h':(PyData.canLay0 _ && decide _)=true:=h
 rw[BA]at h'
 have a:PyData.depthAll xs+1<=64:=BH h'.2
 exact⟨h'.1,by ext⟩
theorem cO{d:Dz}(h:shaped d=true):d.canLay0=true:=by
 have h':(PyData.canLay0 d && decide _)=true:=h
 ext
theorem nj{x:Dz}{b:Bool}(h:inD x y=some b):(∃ i j,x=.str i/\y=.str j/\b = !(Builtin.Str.occurrences j i 0 j.length 1).isEmpty) \/
  (∃ xs,y=.list xs/\shaped x=true/\shaped (.list xs)=true/\b=xs.any λz=>PyData.eqv z x)\/(∃ xs,y=.tuple xs/\shaped x=true/\shaped (.tuple xs)=true/\b=xs.any λz=>PyData.eqv z x):=by
 unfold inD at h
 ext
theorem nH{a b:Nat}(h:a<=63):min a b<=63:=A6 (GM _ _) h
theorem Lx(g:X.K=c.K)(B:X.A.units+64 < cLine):e_ X (compareOp .In) (mr (bG c) (bG c) (b6 c) ug):=by
 intro av s Z H v u x y Q I m n h
 obtain⟨z,H1,F,a,b,d,e,o,l,k,q⟩:=h
 unfold ug at k
 split at k
 .rename_i p t
  cases k
  have f:EP X av Z Q _ s:=⟨.bl p,H,I,rfl,q _ F H (Ext.refl e) (.bl _)⟩
  rcases nj t with ⟨i,j,rfl,rfl,rfl⟩|⟨xs,rfl,h1,h2,rfl⟩|⟨xs,rfl,h1,h2,rfl⟩
  .obtain rfl:=aP.df o
   obtain rfl:=aP.df l
   exact XD av s Z H _ _ x y Q I m n ⟨i,j,rfl,rfl,q _ F H (Ext.refl e) (.bl _)⟩
  .obtain ⟨w,r1⟩:=b5.reads I (by rw[g];exact aP.heap e o) (cO h1) m
   obtain⟨bs,r2⟩:=b5.reads I (by rw[g];exact aP.heap e l) (cO h2) n
   have r:=nH (b:=a.depth) (gW h2).2
   exact SeqAt.in_list_reads r2 r1 (gW h2).1 (cO h1) (by ext) f
  .obtain ⟨w,r1⟩:=b5.reads I (by rw[g];exact aP.heap e o) (cO h1) m
   obtain⟨bs,r2⟩:=b5.reads I (by rw[g];exact aP.heap e l) (cO h2) n
   have r:=nH (b:=a.depth) (lR h2).2
   exact SeqAt.in_tuple_reads r2 r1 (lR h2).1 (cO h1) (by ext) f
 simp_all
theorem MZ(f:X.K=c.K)(z:X.A.units+64 < cLine):e_ X (compareOp .NotIn) (mr (bG c) (bG c) (b6 c) ot):=by
 intro av s Z H v u x y Q I l m h
 obtain⟨t,H1,F,a,b,d,e,n,k,g,q⟩:=h
 unfold ot at g
 split at g
 .rename_i w p
  cases g
  rcases nj p with ⟨i,j,rfl,rfl,rfl⟩|⟨xs,rfl,h1,h2,rfl⟩|⟨xs,rfl,h1,h2,rfl⟩
  .obtain rfl:=aP.df n
   obtain rfl:=aP.df k
   exact Yu av s Z H _ _ x y Q I l m ⟨i,j,rfl,rfl,q _ F H (Ext.refl e) (.bl _)⟩
  .obtain ⟨r,r1⟩:=b5.reads I (by rw[f];exact aP.heap e n) (cO h1) l
   obtain⟨bs,r2⟩:=b5.reads I (by rw[f];exact aP.heap e k) (cO h2) m
   have o:=nH (b:=a.depth) (gW h2).2
   exact SeqAt.notIn_list_reads r2 r1 (gW h2).1 (cO h1) (by ext) (⟨.bl _,H,I,rfl,q _ F H (Ext.refl e) (.bl _)⟩)
  .obtain ⟨r,r1⟩:=b5.reads I (by rw[f];exact aP.heap e n) (cO h1) l
   obtain⟨bs,r2⟩:=b5.reads I (by rw[f];exact aP.heap e k) (cO h2) m
   have o:=nH (b:=a.depth) (lR h2).2
   exact SeqAt.notIn_tuple_reads r2 r1 (lR h2).1 (cO h1) (by ext) (⟨.bl _,H,I,rfl,q _ F H (Ext.refl e) (.bl _)⟩)
 simp_all
theorem yP(t:X.K=c.K):uv X (mr (bG c) (bG c) (b6 c) b_):=by
 intro value e av s Z H v u x y Q I n o h l
 obtain⟨B,H1,F,a,b,d,j,r,m,f,q⟩:=h
 unfold b_ at f
 split at f
 .rename_i xs i
  split at f
  .rename_i w g
   cases f
   obtain⟨p,vs,rfl,h1,h2⟩:=aP.d3 j r
   obtain rfl:=aP.cA m
   obtain⟨z,k⟩:=NC h2 g
   rw[<-t]at h1
   exact MJ value e av s Z H _ _ x y Q I n o ⟨p,vs,i,z,rfl,rfl,h1,k.1,q _ F H (Ext.refl j) k.2⟩ l
  simp_all
 .rename_i xs i
  split at f
  .rename_i w g
   cases f
   obtain⟨p,vs,rfl,_,h1,h2⟩:=aP.dz j r
   obtain rfl:=aP.cA m
   obtain⟨z,k⟩:=NC h2 g
   rw[<-t]at h1
   exact LF value e av s Z H _ _ x y Q I n o ⟨p,vs,i,z,rfl,rfl,h1,k.1,q _ F H (Ext.refl j) k.2⟩ l
  simp_all
 .rename_i z i
  split at f
  .rename_i A
   split at f
   .rename_i w g
    cases f
    obtain rfl:=aP.df r
    obtain rfl:=aP.cA m
    exact LD value e av s Z H _ _ x y Q I n o ⟨z,i,w,rfl,rfl,A,g,q _ F H (Ext.refl j) (.str _)⟩ l
   simp_all
  simp_all
 simp_all
def qm(c:Ct)(E:XK)(f:Sg->R Bool):TT:=λZ H Q=>∃ Y F,Ab c Y Z F H/\Rk c E F H (f Y) λb=>∀ F' H',Ext F H F' H'->Q b H'
abbrev rz(X:Cx)(c:Ct)(E:XK)(e:Ez)(f:Sg->R Bool):Prop:=PT X e (qm c E f)
def dg:Dz->R Bool
 | .bool b=>.ok b
 | _=>.bad
theorem zZ{f:Sg->R Dz}{Z:_a.St}{H:Hp}{Q:Bool->Hp->Prop}(h:qm c E (e1 dg f) Z H Q):tV (b6 c) c E f Z H λx H'=>∃ k,x=.bl k/\Q k H':=by
 obtain⟨Y,F,ab⟩:=h
 refine⟨Y,F,ab.1,(Rk.bind ab.2).imp λd _ q v a H' s r=>?_⟩
 cases d with
 | bool b=>exact⟨b,b5.kL r,Rk.ok q a H' s⟩
 | _=>exact False.elim q
theorem fD{d:CmpOp}{g:Dz->Dz->R Dz}{e fb:Sg->R Dz}(f:e_ X (compareOp d) (mr (bG c) (bG c) (b6 c) g))(k:cV g)(i:PR X c E a e)(hb:PR X c E b fb)(j:behindInMarks d b=false):rz X c E (.Compare a [d] [b] pos) (e1 dg (e2 g e fb)):=
 PT.imp (zL f i hb j) λZ H Q h=>zb yN k (sS c) (oH c) (zZ h)
theorem o9{f:Sg->R Dz}(h:PD X c E e f)(a:∀ whole,isTrue e X.env whole=(do let v <-whole;standAt e.pos;holding [v] (truthy v)):=by intro _;rfl):rz X c E e (e1 dg f):=
 PT.imp (_a.o9 h a) λZ H Q h=>zZ h
def nI(f g:Sg->R Bool):Sg->R Bool:=λY=>(f Y).bind λb=>if b=true then g Y else .ok false
def uo(f g:Sg->R Bool):Sg->R Bool:=λY=>(f Y).bind λb=>if b=true then .ok true else g Y
def qV(f:Sg->R Bool):Sg->R Bool:=λY=>(f Y).bind λb=>.ok (!b)
abbrev xu(X:Cx)(c:Ct)(E:XK)(e:Ez)(f:Sg->R Bool):Prop:=PW X e (qm c E f)
theorem PW.imp{X:Cx}{e:Ez}{t t':TT}(h:PW X e t)(i:∀ Z H Q,t' Z H Q->t Z H Q):PW X e t':=λa av s Z H Q I q=>h a av s Z H Q I (i Z H Q q)
theorem YM{f g:Sg->R Bool}{Z:_a.St}{H:Hp}{Q:Bool->Hp->Prop}(h:qm c E (nI f g) Z H Q):JZ (qm c E f) (qm c E g) Z H Q:=by
 obtain⟨Y,F,ab⟩:=h
 refine⟨Y,F,ab.1,(Rk.bind ab.2).imp λb _ q a H' s=>?_⟩
 cases b with
 | true=>exact⟨Y,a,ab.1.ext s,(Rk.ext s q).imp λd _ z i H2 e=>z i H2 (s.trans e)⟩
 | false=>exact Rk.ok q a H' s
theorem OG{f g:Sg->R Bool}{Z:_a.St}{H:Hp}{Q:Bool->Hp->Prop}(h:qm c E (uo f g) Z H Q):Jj (qm c E f) (qm c E g) Z H Q:=by
 obtain⟨Y,F,ab⟩:=h
 refine⟨Y,F,ab.1,(Rk.bind ab.2).imp λb _ q a H' s=>?_⟩
 cases b with
 | false=>exact⟨Y,a,ab.1.ext s,(Rk.ext s q).imp λd _ z i H2 e=>z i H2 (s.trans e)⟩
 | true=>exact Rk.ok q a H' s
theorem uE{f:Sg->R Bool}(h:rz X c E a f):xu X c E (.BoolOp .And [a] pos) f:=_a.uE h
theorem r6{f:Sg->R Bool}(h:rz X c E a f):xu X c E (.BoolOp .Or [a] pos) f:=_a.r6 h
theorem xV{f g:Sg->R Bool}{rest:L9 Ez}(h:rz X c E a f)(h2:xu X c E (.BoolOp .And (b::rest) pos) g):xu X c E (.BoolOp .And (a::b::rest) pos) (nI f g):=PW.imp (_a.xV h h2) λ_ _ _ q=>YM q
theorem qF{f g:Sg->R Bool}{rest:L9 Ez}(h:rz X c E a f)(h2:xu X c E (.BoolOp .Or (b::rest) pos) g):xu X c E (.BoolOp .Or (a::b::rest) pos) (uo f g):=PW.imp (_a.qF h h2) λ_ _ _ q=>OG q
theorem r7{f:Sg->R Bool}(h:rz X c E a f):rz X c E (.UnaryOp .Not a pos) (qV f):=PT.imp (_a.r7 h) λZ H Q Y=>by obtain⟨Y,F,ab⟩:=Y;exact⟨Y,F,ab.1,(Rk.bind ab.2).imp λb _ q d H' s=>Rk.ok q d H' s⟩
noncomputable def sV(f g:Sg->R Dz):Sg->R Dz:=λY=>(f Y).bind λx=>(dg x).bind λb=>if b=true then g Y else .ok (.bool false)
def Ay(f:Sg->R Dz):Sg->R Dz:=λY=>(f Y).bind λx=>(dg x).bind λb=>.ok (.bool (!b))
def we{α:Type}(t:Sg->R Bool)(f g:Sg->R α):Sg->R α:=λY=>(t Y).bind λb=>if b=true then f Y else g Y
theorem pN{op}{f:Sg->R Dz}(h:PD X c E a f):PD X c E (.BoolOp op [a] pos) f:=R8 h
theorem pO{f g:Sg->R Dz}{rest:L9 Ez}(h:PD X c E a f)(h2:PD X c E (.BoolOp .And (b::rest) pos) g):PD X c E (.BoolOp .And (a::b::rest) pos) (sV f g):=PE.imp (R7 h h2) λZ H Q e=>by
 obtain⟨Y,F,ab,k⟩:=e
 refine⟨Y,F,ab,(Rk.bind k).imp λd _ q v i H' s r=>?_⟩
 cases d with
 | bool b=>
  refine⟨b,b5.kL r,?_⟩
  cases b with
  | true=>exact Bc ⟨Y,i,ab.ext s,(Rk.ext s q).imp λd _ z v j H2 l=>z v j H2 (s.trans l)⟩
  | false=>exact Bd (Rk.ok q _ i H' s (.bl false))
 | _=>exact False.elim q
theorem Io{f:Sg->R Dz}(h:PD X c E a f):PD X c E (.UnaryOp .Not a pos) (Ay f):=PE.imp (R6 h) λZ H Q e=>by
 obtain⟨Y,F,ab,k⟩:=e
 refine⟨Y,F,ab,(Rk.bind k).imp λd _ q v g H' s r=>?_⟩
 cases d with
 | bool b=>exact⟨b,b5.kL r,Rk.ok q _ g H' s (.bl _)⟩
 | _=>exact False.elim q
theorem Qz{t:Sg->R Bool}{f g:Sg->R Dz}{q:Ez}(m:rz X c E q t)(h:PD X c E a f)(h2:PD X c E b g):PD X c E (.IfExp q a b pos) (we t f g):=PE.imp (WM m h h2) λZ H Q e=>by
 obtain⟨Y,F,ab,k⟩:=e
 refine⟨Y,F,ab,(Rk.bind k).imp λb _ q l H' s=>?_⟩
 cases b with
 | true=>exact Bc ⟨Y,l,ab.ext s,(Rk.ext s q).imp λd _ z v i H2 j=>z v i H2 (s.trans j)⟩
 | false=>exact Bd ⟨Y,l,ab.ext s,(Rk.ext s q).imp λd _ z v i H2 j=>z v i H2 (s.trans j)⟩
end
def je(g:Gb)(K:Frag)(mg:Str->O9 V9)(F:Hp):L9 A->L9 V->Prop
 | [],[]=>True
 | a::as,v::vs=>AF g K mg F a v/\je g K mg F as vs
 | _,_=>False
theorem je.same{g:Gb}{K:Frag}{mg:Str->O9 V9}{F F':Hp}(s:aH F F'):∀ {as:L9 A} {vs:L9 V},je g K mg F as vs->je g K mg F' as vs
 | [],[],_=>trivial
 | a::as,v::vs,h=>⟨AF.same s h.1,je.same s h.2⟩
theorem je.len{g:Gb}{K:Frag}{mg:Str->O9 V9}{F:Hp}:∀ {as:L9 A} {vs:L9 V},je g K mg F as vs->vs.length=as.length
 | [],[],_=>rfl
 | a::as,v::vs,h=>by rw[AT,AT,je.len h.2]
theorem PA.imp{X:Cx}{es:L9 Ez}{t t':TA}(h:PA X es t)(i:∀ Z H Q,t' Z H Q->t Z H Q):PA X es t':=λpos av s Z H Q I q=>h pos av s Z H Q I (i Z H Q q)
def vm(c:Ct)(E:XK)(f:Sg->R (L9 Dz)):TA:=λZ H Q=>∃ Y F,Ab c Y Z F H/\Rk c E F H (f Y) λds=>∀ vs F' H',Ext F H F' H'->a_ c.K F' vs ds->Q vs H'
def ya(c:Ct)(E:XK)(f:Sg->R (L9 A)):TA:=λZ H Q=>∃ Y F,Ab c Y Z F H/\Rk c E F H (f Y) λds=>∀ vs F' H',Ext F H F' H'->je c.g c.K c.mg F' ds vs->Q vs H'
abbrev v8(X:Cx)(c:Ct)(E:XK)(es:L9 Ez)(f:Sg->R (L9 Dz)):Prop:=PA X es (vm c E f)
abbrev yy(X:Cx)(c:Ct)(E:XK)(es:L9 Ez)(f:Sg->R (L9 A)):Prop:=PA X es (ya c E f)
noncomputable def aF{α:Type}:Sg->R (L9 α):=λ_=>.ok []
def aC{α:Type}(f:Sg->R α)(g:Sg->R (L9 α)):Sg->R (L9 α):=λY=>(f Y).bind λx=>(g Y).bind λxs=>.ok (x::xs)
section
variable{X:Cx}{c:Ct}{E:XK}{e a b:Ez}{es:L9 Ez}{pos:Pos}
theorem cP:v8 X c E [] aF:=PA.imp bI λZ H Q Y=>by obtain⟨Y,F,ab⟩:=Y;exact Rk.ok ab.2 [] F H (Ext.refl ab.1.fh) .nil
theorem uS:yy X c E [] aF:=PA.imp bI λZ H Q Y=>by obtain⟨Y,F,ab⟩:=Y;exact Rk.ok ab.2 [] F H (Ext.refl ab.1.fh) trivial
theorem bD{f:Sg->R Dz}{g:Sg->R (L9 Dz)}(h:PD X c E e f)(h2:v8 X c E es g)(i:autoParam (starEach (e::es) X.env=(false,eval e X.env)::starEach es X.env) z3):v8 X c E (e::es) (aC f g):=PA.imp (aO h h2 i) λZ H Q a=>by
 obtain⟨Y,F,ab,k⟩:=a
 refine⟨Y,F,ab,(Rk.bind k).imp λx _ q v j H1 s1 r1=>⟨Y,j,ab.ext s1,((Rk.bind q).ext s1).imp λxs _ q vs d H2 b r2=>?_⟩⟩
 exact Rk.ok q _ d H2 (s1.trans b) (.cons (b5.same b.ff r1) r2)
theorem c6{f:Sg->R A}{g:Sg->R (L9 A)}(h:PV X c E e f)(h2:yy X c E es g)(i:autoParam (starEach (e::es) X.env=(false,eval e X.env)::starEach es X.env) z3):yy X c E (e::es) (aC f g):=PA.imp (aO h h2 i) λZ H Q a=>by
 obtain⟨Y,F,ab,k⟩:=a
 refine⟨Y,F,ab,(Rk.bind k).imp λx _ q v j H1 s1 r1=>⟨Y,j,ab.ext s1,((Rk.bind q).ext s1).imp λxs _ q vs d H2 b r2=>?_⟩⟩
 exact Rk.ok q _ d H2 (s1.trans b) ⟨AF.same b.ff r1,r2⟩
def bW(f:Sg->R (L9 Dz)):Sg->R Dz:=λY=>(f Y).bind λxs=>if xs.length<=16777216 then .ok (.tuple xs)else .bad
def gA(f:Sg->R (L9 Dz)):Sg->R (L9 Dz):=λY=>(f Y).bind λxs=>if xs.length<=16777216 then .ok xs else .bad
theorem iF:sizeLine=16777216:=CS
theorem pP{x1}{f:Sg->R (L9 Dz)}(h:v8 X c E es f):PD X c E (.Tuple es x1 pos) (bW f):=PE.imp (LG h) λZ H Q a=>by
 obtain⟨Y,F,ab,k⟩:=a
 refine⟨Y,F,ab,(Rk.bind k).imp λxs _ q vs e H1 s1 r1=>?_⟩
 by_cases b:xs.length<=16777216
 .rw[AI b]at q
  refine⟨by rw[r1.length];exact b,λp d=>?_⟩
  exact Rk.ok q _ _ _ (s1.trans (Ext.new s1.fh d)) (.tup (fq.of aI) (r1.same (aH.upd (aY s1.fh d))))
 .rw[AM b]at q;exact q.elim
theorem Lw{f:Sg->R (L9 Dz)}(h:v8 X c E es f):PN X c E (.List es pos) (gA f):=PE.imp (xZ h) λZ H Q a=>by
 obtain⟨Y,F,ab,k⟩:=a
 refine⟨Y,F,ab,(Rk.bind k).imp λxs _ q vs e H1 s1 r1=>?_⟩
 by_cases d:xs.length<=16777216
 .rw[AI d]at q
  refine⟨by rw[r1.length];exact d,λp b=>?_⟩
  exact Rk.ok q _ _ _ (s1.trans (Ext.own s1.fh b)) ⟨p,vs,rfl,aY s1.hh b,aI,aY s1.fh b,r1⟩
 .rw[AM d]at q;exact q.elim
noncomputable def dn:Dz->R Dz
 | .str z=>if z.length<=16777216 then .ok (.int z.length)else .bad
 | .list xs=>.ok (.int xs.length)
 | .tuple xs=>.ok (.int xs.length)
 | _=>.bad
theorem plain_len:sT dn:=by intro a e h;unfold dn at h;split at h<;>(try split at h)<;>cases h
theorem Lf{j:Sg->R Dz}(k:X.K=c.K)(h0:PE X e (rg (λxs H Q=>∃ x n,xs=[x]/\JU X.K x H n/\Q (.int n) H) (bR (tV (bG c) c E j) dP))):PD X c E e (e1 dn j):=
 PE.imp h0 λZ H Q h=>by
  obtain⟨Y,F,ab⟩:=Fx HP plain_len (oH c) h
  refine⟨Y,F,ab.1,ab.2.imp λd _ q v l H' s r=>?_⟩
  obtain⟨m,i,a,o,f,g,b,q⟩:=q v l H' s r
  unfold dn at b
  split at b
  .split at b
   .cases b
    obtain rfl:=aP.df g
    exact⟨_,_,rfl,⟨by assumption,rfl⟩,q _ i H' (Ext.refl f) (.int _)⟩
   simp_all
  .cases b
   obtain⟨p,vs,rfl,h1,h2⟩:=aP.d3 f g
   rw[<-k]at h1
   exact⟨_,vs.length,rfl,.inl ⟨vs,h1,rfl⟩,q _ i H' (Ext.refl f) (by rw[h2.length];exact .int _)⟩
  .cases b
   obtain⟨p,vs,rfl,_,h1,h2⟩:=aP.dz f g
   rw[<-k]at h1
   exact⟨_,vs.length,rfl,.inr ⟨vs,h1,rfl⟩,q _ i H' (Ext.refl f) (by rw[h2.length];exact .int _)⟩
  simp_all
noncomputable def ew:Dz->R Dz
 | .list xs=>.ok (.tuple xs)
 | .tuple xs=>.ok (.tuple xs)
 | _=>.bad
theorem W3:sT ew:=by intro a e h;unfold ew at h;split at h<;>cases h
theorem nJ{g:Sg->R Dz}(k:X.K=c.K)(h0:PE X e (rg (λxs H Q=>∃ p ys,xs=[.ref p]/\((d_ X.K H p ys/\∀ l,H l=none->Q (.ref l) (upd H l (.tup ys)))\/(fq X.K H p ys/\Q (.ref p) H))) (bR (tV (bG c) c E g) dP))):PD X c E e (e1 ew g):=
 PE.imp h0 λZ H Q h=>by
  obtain⟨Y,F,ab⟩:=Fx HP W3 (oH c) h
  refine⟨Y,F,ab.1,ab.2.imp λd _ q v o H' s r=>?_⟩
  obtain⟨t,n,a,u,b,j,f,q⟩:=q v o H' s r
  unfold ew at f
  split at f
  .cases f
   obtain⟨p,vs,rfl,h1,h2⟩:=aP.d3 b j
   rw[<-k]at h1
   exact⟨p,vs,rfl,.inl ⟨h1,λl i=>q _ _ _ (Ext.new b i) (.tup (fq.of aI) (h2.same (aH.upd (aY b i))))⟩⟩
  .cases f
   obtain⟨p,vs,rfl,m,h1,h2⟩:=aP.dz b j
   rw[<-k]at h1
   exact⟨p,vs,rfl,.inr ⟨h1,q _ n H' (Ext.refl b) (.tup m h2)⟩⟩
  simp_all
noncomputable def D_:Dz->R Dz
 | .int i=>.ok (.int i)
 | .bool b=>.ok (.int (if b=true then 1 else 0))
 | _=>.bad
end
inductive Fw where
 | nx (Y:Sg)|bk (Y:Sg)|ct (Y:Sg)|rt (a:A)
def AR(g:Gb)(K:Frag)(mg:Str->O9 V9)(H F' H':Hp):A->V->Prop
 | .l xs,v=>∃ p us,v=.ref p/\H p=none/\H' p=some (.lst us)/\F' p=none/\a_ K F' us xs
 | a,v=>AF g K mg F' a v
theorem AR.of{g:Gb}{K:Frag}{mg:Str->O9 V9}{H b H':Hp}{a:A}{v:V}(h:AF g K mg b a v):AR g K mg H b H' a v:=by
 cases a with
 | l xs=>exact False.elim h
 | _=>exact h
def o4(c:Ct)(F:Hp)(D:iL):Fw->Prop
 | .nx Y=>∀ Z' F' H',aH F F'->Ab c Y Z' F' H'->D.nx Z' H'
 | .bk Y=>∀ Z' F' H',aH F F'->Ab c Y Z' F' H'->D.bk Z' H'
 | .ct Y=>∀ Z' F' H',aH F F'->Ab c Y Z' F' H'->D.ct Z' H'
 | .rt a=>∀ v F' H',Ext c.F0 c.H0 F' H'->AR c.g c.K c.mg c.H0 F' H' a v->D.rt v H'
theorem o4.same{c:Ct}{F F1:Hp}{D:iL}(s:aH F F1):∀ {w:Fw},o4 c F D w->o4 c F1 D w
 | .nx Y,h=>λb d H' s' ab=>h b d H' (λa o z=>s' a o (s a o z)) ab
 | .bk Y,h=>λb d H' s' ab=>h b d H' (λa o z=>s' a o (s a o z)) ab
 | .ct Y,h=>λb d H' s' ab=>h b d H' (λa o z=>s' a o (s a o z)) ab
 | .rt a,h=>h
def zc(c:Ct)(E:XK)(f:Sg->R Fw):TS:=λD Z H=>∃ Y F,Ab c Y Z F H/\Rk c E F H (f Y) (o4 c F D)
abbrev gp(X:Cx)(c:Ct)(E:XK)(st:Stmt)(f:Sg->R Fw):Prop:=PS X st (zc c E f)
abbrev gc(X:Cx)(c:Ct)(E:XK)(st:L9 Stmt)(f:Sg->R Fw):Prop:=ix X st (zc c E f)
theorem get_set{α:Type}{l:L9 α}{i j:Nat}{x y:α}(h:(l.set i x)[j]? = some y):(i=j/\y=x/\i < l.length)\/(i≠j/\l[j]? = some y):=by ext
theorem Ab.vo{c:Ct}{Y:Sg}{Z:_a.St}{F H:Hp}{i:Nat}{a:A}{v:V}(b:Ab c Y Z F H)(u:AO c F H a v)(s:a.own=true->∀ (j:Nat) (a':A),j≠i->Y[j]? = some (some a')->a'.own=true->Z[j]? ≠ some (some v)):Ab c (Y.set i (some a)) (Z.set i (some v)) F H where
 len:=by rw[BJ,BJ];exact b.len
 fh:=b.fh
 slot:=λj a' h=>by
  rcases get_set h with ⟨e,q,p⟩|⟨m,q⟩
  .subst e
   cases q
   exact⟨v,BV (by rw[<-b.len];exact p),u⟩
  .rw[A1 m];exact b.slot j a' q
 apart:=λj k a' t d h1 h2 r o=>by
  rcases get_set h1 with ⟨e,q,p⟩|⟨m,q⟩
  .subst e
   cases q
   rcases get_set h2 with ⟨n,g,l⟩|⟨f,g⟩
   .exact absurd n d
   .rw[BV (by rw[<-b.len];exact p),A1 f]
    exact(s r k t (BD d) g o).symm
  .rcases get_set h2 with ⟨n,g,l⟩|⟨f,g⟩
   .subst n
    cases g
    rw[BV (by rw[<-b.len];exact l),A1 m]
    exact s o j a' d q r
   .rw[A1 m,A1 f]
    exact b.apart j k a' t d q g r o
 f0:=b.f0
 h0:=b.h0
 n0:=b.n0
 t0:=b.t0
theorem AO.of{c:Ct}{F H:Hp}{a:A}{v:V}(h:AF c.g c.K c.mg F a v):AO c F H a v:=by
 cases a with
 | k q=>exact h.elim
 | l q=>exact h.elim
 | m q=>exact h.elim
 | _=>exact h
theorem AF.ua{g:Gb}{K:Frag}{mg:Str->O9 V9}{F:Hp}:∀ {a:A} {v:V},AF g K mg F a v->a.own=false
 | .d x,v,h=>rfl
 | .x e,v,h=>rfl
 | .g k n G,v,h=>rfl
 | .f bd,v,h=>rfl
 | .o e,v,h=>rfl
 | .w e,v,h=>rfl
 | .h _ _ _ _,v,h=>rfl
theorem Ab.qo{c:Ct}{Y:Sg}{Z:_a.St}{F H:Hp}{i:Nat}{a:A}{v:V}(b:Ab c Y Z F H)(d:AF c.g c.K c.mg F a v):Ab c (Y.set i (some a)) (Z.set i (some v)) F H:=
 b.vo (AO.of d) λz=>by rw[AF.ua d]at z;ext
theorem Ab.FI{c:Ct}{Y:Sg}{Z:_a.St}{F H a H':Hp}{i:Nat}{xs:L9 Dz}{v:V}(b:Ab c Y Z F H)(e:Ext F H a H')(h:zY c xs v H a H'):Ab c (Y.set i (some (.l xs))) (Z.set i (some v)) a H':=by
 obtain⟨p,vs,rfl,h1,h2⟩:=h
 refine(b.ext e).vo ⟨p,vs,rfl,h2.1,h2.2.1,aY b.h0 h1,h2.2.2⟩ λ_ j k _ d g=>?_
 obtain⟨w,f⟩:=b.slot j k d
 rw[f.1]
 intro z
 obtain⟨o,o',m,n,_⟩:=f.2.at g
 ext
theorem Ab.tx{c:Ct}{Y:Sg}{Z:_a.St}{F H:Hp}{i:Nat}{a t:A}{p:Az}{o:HO}(b:Ab c Y Z F H)(hi:Y[i]? = some (some a))(B:a.own=true)(P:Z[i]? = some (some (.ref p)))(L:t.own=true)(T:AO c F (upd H p o) t (.ref p)) :
  Ab c (Y.set i (some t)) Z F (upd H p o):=by
 obtain⟨v,h1,q⟩:=b.slot i _ hi
 rw[P]at h1
 cases h1
 obtain⟨U,o',y,h2,V⟩:=q.at B
 cases y
 have C:∀ j a w,j≠i->Y[j]? = some (some a)->Z[j]? = some (some w)->AO c F H a w->AO c F (upd H p o) a w:=by
  intro j J w R N M r
  by_cases own:J.own=true
  .refine r.off λz=>?_
   exact b.apart j i _ _ R N hi own B (by simp_all)
  .cases J with
   | l zs=>exact absurd rfl own
   | m zs=>exact absurd rfl own
   | d x=>exact r
   | x e=>exact r
   | g k n f=>exact r
   | k S=>exact r
   | f S=>exact r
   | o S=>exact r
   | w S=>exact r
   | h _ _ _ _=>exact r
 exact {
  len:=by rw[BJ];exact b.len
  fh:=λa o z=>by rw[aE (λw=>by simp_all)];exact b.fh a o z
  slot:=λj a h=>by
   rcases get_set h with ⟨e,q,O⟩|⟨Q,q⟩
   .grind
   .obtain ⟨w,M,r⟩:=b.slot j a q
    ext
  apart:=λj k t K s h1 h2 I G=>by
   rcases get_set h1 with ⟨e,q,O⟩|⟨Q,q⟩
   .subst e
    rcases get_set h2 with ⟨y,u,E⟩|⟨D,u⟩
    .grind
    .exact b.apart _ k _ K s hi u B G
   .rcases get_set h2 with ⟨y,u,E⟩|⟨D,u⟩
    .subst y
     exact b.apart j _ t _ s q hi I B
    .exact b.apart j k t K s q u I G
  f0:=b.f0
  h0:=λa o z=>by rw[aE (λw=>by simp_all)];exact b.h0 a o z
  n0:=b.n0
  t0:=b.t0}
theorem Ab.putL{c:Ct}{Y:Sg}{Z:_a.St}{F H:Hp}{i:Nat}{xs ys:L9 Dz}{p:Az}{vs:L9 V}(b:Ab c Y Z F H)(hi:Y[i]? = some (some (.l xs)))(a:Z[i]? = some (some (.ref p)))(d:a_ c.K F vs ys) :
  Ab c (Y.set i (some (.l ys))) Z F (upd H p (.lst vs)):=by
 obtain⟨v,h1,e,us,rfl,h2⟩:=b.slot i _ hi
 rw[a]at h1
 cases h1
 exact b.tx hi rfl a rfl ⟨p,vs,rfl,aI,h2.2.1,h2.2.2.1,d⟩
theorem Ab.iu{c:Ct}{Y:Sg}{Z:_a.St}{F H:Hp}{i:Nat}{d a:L9 (Dz×Dz)}{p:Az}{es:L9 Ent}{ep:Nat}(b:Ab c Y Z F H)(hi:Y[i]? = some (some (.m d)))(e:Z[i]? = some (some (.ref p)))(f:dq c.K F es a) :
  Ab c (Y.set i (some (.m a))) Z F (upd H p (eS c.w p es ep)):=by
 obtain⟨v,h1,g,us,rfl,h2⟩:=b.slot i _ hi
 rw[e]at h1
 cases h1
 exact b.tx hi rfl e rfl ⟨p,es,rfl,⟨ep,aI⟩,h2.2.1,h2.2.2.1,f⟩
theorem Ab.setM{c:Ct}{Y:Sg}{Z:_a.St}{F H d H':Hp}{i:Nat}{a:L9 (Dz×Dz)}{p:Az}{es:L9 Ent}{ep:Nat}(b:Ab c Y Z F H)(e:Ext F H d H')(h1:H p=none)(h2:H' p=some (eS c.w p es ep))(n:d p=none)(h:dq c.K d es a):Ab c (Y.set i (some (.m a))) (Z.set i (some (.ref p))) d H':=by
 refine(b.ext e).vo ⟨p,es,rfl,⟨ep,h2⟩,n,aY b.h0 h1,h⟩ λ_ j l _ f k=>?_
 obtain⟨w,g⟩:=b.slot j l f
 rw[g.1]
 intro z
 obtain⟨q,o',o⟩:=g.2.at k
 ext
noncomputable def fz(i:Nat)(Y:Sg):Sg:=match Y[i]? with
 | some (some (.l xs))=>Y.set i (some (.d (.list xs)))
 | _=>Y
theorem Ab.F5{c:Ct}{Y:Sg}{Z:_a.St}{F H:Hp}{i:Nat}{a0 a1:A}{p:Az}{o:HO}(b:Ab c Y Z F H)(hi:Y[i]? = some (some a0))(T:Z[i]? = some (some (.ref p)))(P:a0.own=true)(h2:H p=some o)(Q:F p=none)(N:c.H0 p=none)(U:a1.own=false)(hr:AO c (upd F p o) H a1 (.ref p)):Ab c (Y.set i (some a1)) Z (upd F p o) H:=by
 have s:aH F (upd F p o):=aH.upd Q
 exact {
  len:=by rw[BJ];exact b.len
  fh:=λa o' z=>by
   by_cases w:a=p
   .subst w;rw[aI]at z;rw[h2];ext
   .rw[aE w]at z;exact b.fh a o' z
  slot:=λj a h=>by
   rcases get_set h with ⟨e,q,G⟩|⟨y,q⟩
   .grind
   .obtain ⟨w,D,t⟩:=b.slot j a q
    refine⟨w,D,?_⟩
    have off:∀ r,a.own=true->w=.ref r->F r=none->upd F p o r=none:=λr B e f=>by
     rw[aE]
     .omega
     .intro z
      exact b.apart j i _ _ (BD y) q hi B P (by simp_all)
    cases a with
    | l zs=>obtain⟨r,ws,e⟩:=t;exact⟨r,ws,e.1,e.2.1,off r rfl e.1 e.2.2.1,e.2.2.2.1,e.2.2.2.2.same s⟩
    | m bd=>obtain⟨r,ws,e⟩:=t;exact⟨r,ws,e.1,e.2.1,off r rfl e.1 e.2.2.1,e.2.2.2.1,e.2.2.2.2.same s⟩
    | d x=>exact b5.same s t
    | x e=>exact AF.same (g:=c.g) (a:=.x e) s t
    | g k n f=>exact AF.same (K:=c.K) (mg:=c.mg) (a:=.g k n f) s t
    | k S=>obtain⟨S,f,cl,doc,pm,L,ct,h0⟩:=t;exact⟨S,f,cl,doc,pm,L,ct,h0.1,h0.2.1,s _ _ h0.2.2.1,s _ _ h0.2.2.2.1,h0.2.2.2.2⟩
    | f bd=>exact AF.same (mg:=c.mg) (a:=.f bd) s t
    | o e=>exact AF.same (g:=c.g) (a:=.o e) s t
    | w e=>exact t
    | h k n f ds=>exact AF.same (mg:=c.mg) (a:=.h k n f ds) s t
  apart:=λj k I O u h1 h2 M E=>by
   rcases get_set h1 with ⟨e,q,G⟩|⟨y,q⟩
   .grind
   .rcases get_set h2 with ⟨R,v,J⟩|⟨C,v⟩
    .grind
    .exact b.apart j k I O u q v M E
  f0:=λa o z=>s a o (b.f0 a o z)
  h0:=b.h0
  n0:=λa z n=>by
   by_cases w:a=p
   .subst w;exact .inl N
   .rw[aE w]at n;exact b.n0 a z n
  t0:=b.t0}
theorem Ab.pd{c:Ct}{Y:Sg}{Z:_a.St}{F H:Hp}(b:Ab c Y Z F H)(i:Nat):∃ F',aH F F'/\Ab c (fz i Y) Z F' H:=by
 unfold fz
 split
 .rename_i xs hi
  obtain⟨v,a,p,vs,rfl,h2⟩:=b.slot i _ hi
  exact⟨_,aH.upd h2.2.1,b.F5 hi a rfl h2.1 h2.2.1 h2.2.2.1 rfl (.lst (d_.of aI) (h2.2.2.2.same (aH.upd h2.2.1)))⟩
 .exact ⟨F,bP F,b⟩
noncomputable def uT:Dz->Dz->R Dz
 | .int i,.int j=>.ok (.int (i+j))
 | _,_=>.bad
section
variable{X:Cx}{c:Ct}{E:XK}{e a b:Ez}{st:Stmt}{rest:L9 Stmt}{pos:Pos}
def ri(i:Nat)(f:Sg->R Fw):Sg->R Fw:=λY=>f (fz i Y)
theorem KA(i:Nat){f:Sg->R Fw}(h:gp X c E st f):gp X c E st (ri i f):=PS.imp h λD Z H b=>by
 obtain⟨Y,F,ab,k⟩:=b
 obtain⟨d,s⟩:=ab.pd i
 refine⟨fz i Y,d,s.2,?_⟩
 have a:Rk c E F H (f _) _:=k
 cases q:f _ with
 | bad=>rw[q]at a;exact a
 | ok w=>rw[q]at a;exact o4.same s.1 a
 | ex e=>rw[q]at a;exact a
noncomputable def gb:Sg->R Fw:=λY=>.ok (.nx Y)
def aG(f g:Sg->R Fw):Sg->R Fw:=λY=>(f Y).bind λw=>match w with
 | .nx Y'=>g Y'
 | w=>.ok w
theorem iE:gc X c E [] gb:=ix.imp _a.iE λD Z H Y=>by obtain⟨Y,F,ab⟩:=Y;exact Rk.ok ab.2 Z F H (bP F) ab.1
theorem bC{f:Sg->R Fw}(h:gp X c E st f):gc X c E [st] f:=_a.bC h
theorem aJ{f g:Sg->R Fw}(h:gp X c E st f)(h2:gc X c E rest g):gc X c E (st::rest) (aG f g):=ix.imp (_a.aJ h h2) λD Z H d=>by
 obtain⟨Y,F,ab,k⟩:=d
 refine⟨Y,F,ab,(Rk.bind k).imp λw _ q=>?_⟩
 cases w with
 | nx Y'=>
  intro m l H' s j
  refine⟨Y',l,j,?_⟩
  have b:Rk c E F H (g Y') _:=q
  cases i:g Y' with
  | bad=>rw[i]at b;exact b
  | ok w=>rw[i]at b;exact o4.same s b
  | ex e=>rw[i]at b;exact b
 | bk Y'=>exact q
 | ct Y'=>exact q
 | rt a=>exact q
def aM(f:Sg->R A):Sg->R Fw:=λY=>(f Y).bind λa=>.ok (.rt a)
theorem cB{f:Sg->R A}(h:PV X c E e f):gp X c E (.Return (some e) pos) (aM f):=PS.imp (_a.cB h) λD Z H Y=>
 by obtain⟨Y,F,ab⟩:=Y;exact⟨Y,F,ab.1,(Rk.bind ab.2).imp λa _ q v b H' s r=>Rk.ok q v b H' (ab.1.all.trans s) (AR.of r)⟩
def fu(t:Sg->R Bool)(f g:Sg->R Fw):Sg->R Fw:=λY=>(t Y).bind λb=>if b=true then f Y else g Y
theorem Rk.fw{F a H H1:Hp}{D:iL}{r:R Fw}(s:aH F a)(k:Rk c E F H r (o4 c F D)):Rk c E a H1 r (o4 c a D):=by
 cases r with
 | bad=>exact k
 | ok w=>exact o4.same s k
 | ex e=>exact k
theorem lQ{q:Ez}{h d:L9 Stmt}{t:Sg->R Bool}{f g:Sg->R Fw}(j:rz X c E q t)(i:gc X c E h f)(hb:gc X c E d g):gp X c E (.If q h d pos) (fu t f g):=PS.imp (_a.lQ j i hb) λD Z H a=>by
 obtain⟨Y,F,ab,k⟩:=a
 refine⟨Y,F,ab,(Rk.bind k).imp λb _ q e H' s=>?_⟩
 cases b with
 | true=>exact Bc ⟨Y,e,ab.ext s,Rk.fw s.ff q⟩
 | false=>exact Bd ⟨Y,e,ab.ext s,Rk.fw s.ff q⟩
def aV(i:Nat)(f:Sg->R A):Sg->R Fw:=λY=>(f Y).bind λa=>.ok (.nx (Y.set i (some a)))
theorem dA{i:Nat}{f:Sg->R A}(h:PS X st (jR (tV (Ea c) c E f) (fQ i))):gp X c E st (aV i f):=PS.imp h λD Z H Y=>
 by obtain⟨Y,F,ab⟩:=Y;exact⟨Y,F,ab.1,(Rk.bind ab.2).imp λa _ q v b H' s r=>Rk.ok q _ b H' s.ff ((ab.1.ext s).qo r)⟩
def dX(i:Nat)(f:Sg->R (L9 Dz)):Sg->R Fw:=λY=>(f Y).bind λxs=>.ok (.nx (Y.set i (some (.l xs))))
theorem MY{f:Sg->R (L9 Dz)}(h:PS X st (jR (tV (zY c) c E f) (fQ i))):gp X c E st (dX i f):=PS.imp h λD Z H Y=>
 by obtain⟨Y,F,ab⟩:=Y;exact⟨Y,F,ab.1,(Rk.bind ab.2).imp λa _ q v b H' s r=>Rk.ok q _ b H' s.ff (ab.1.FI s r)⟩
def oJ(f:Sg->R A):Sg->R Fw:=λY=>(f Y).bind λ_=>.ok (.nx Y)
theorem kC{f:Sg->R A}(h:PS X st (uF (tV (Ea c) c E f))):gp X c E st (oJ f):=PS.imp h λD Z H Y=>
 by obtain⟨Y,F,ab⟩:=Y;exact⟨Y,F,ab.1,(Rk.bind ab.2).imp λa _ q v b H' s r=>Rk.ok q _ b H' s.ff (ab.1.ext s)⟩
def kO(i:Nat)(f:Sg->R Dz):Sg->R Fw:=λY=>match Y[i]? with
 | some (some (.l xs))=>(f Y).bind λx=>if xs.length < 16777216 then .ok (.nx (Y.set i (some (.l (xs++[x])))))else .bad
 | _=>.bad
theorem R1{f:Sg->R Dz}(e:X.K=c.K)(h:PS X st (uF (x_ X.K "list" zQ (bU i) (bR (tV (b6 c) c E f) dP)))):gp X c E st (kO i f):=PS.imp h λD Z H ⟨Y,F,ab,k⟩=>by
 unfold kO at k
 split at k
 .rename_i xs hi
  obtain⟨v,b,p,vs,rfl,h2⟩:=ab.slot i _ hi
  refine⟨_,b,.inl ⟨rfl,vs,d_.of h2.1⟩,Y,F,ab,(Rk.bind k).imp λx _ q u d H1 s1 r1=>?_⟩
  by_cases a:xs.length < 16777216
  .rw[AI a]at q
   refine⟨p,vs,u,rfl,rfl,s1.hh _ _ h2.1,by rw[h2.2.2.2.length];exact a,?_⟩
   exact Rk.ok q Z d _ s1.ff ((ab.ext s1).putL hi b ((h2.2.2.2.same s1.ff).append (.cons r1 .nil)))
  .rw[AM a]at q;exact q.elim
 .exact k.elim
def Dy(i:Nat)(f g:Sg->R Dz):Sg->R Fw:=λY=>(g Y).bind λx=>match Y[i]? with
 | some (some (.l xs))=>(f Y).bind λk=>match k with
  | .int k=>match ni xs.length k with
   | some j=>.ok (.nx (Y.set i (some (.l (xs.set j x)))))
   | none=>.bad
  | _=>.bad
 | _=>.bad
theorem Oa{F:Hp}{x:V}{d:Dz}(h:b5 K F x d):∀ {vs:L9 V} {xs:L9 Dz} (j:Nat),a_ K F vs xs->a_ K F (vs.set j x) (xs.set j d)
 | _,_,_,.nil=>.nil
 | _,_,0,.cons _ t=>.cons h t
 | _,_,j+1,.cons q t=>.cons q (Oa h j t)
theorem R0{f g:Sg->R Dz}(h:PS X st (jR (tV (b6 c) c E g) (Hq (bU i) (tV (bG c) c E f) Kp))):gp X c E st (Dy i f g):=PS.imp h λD Z H ⟨Y,F,ab,k⟩=>by
 refine⟨Y,F,ab,(Rk.bind k).imp λx _ q v l H1 s1 r1=>?_⟩
 split at q
 .rename_i xs hi
  obtain⟨_,d,p,vs,rfl,h2⟩:=(ab.ext s1).slot i _ hi
  refine⟨_,d,Y,l,(ab.ext s1),((Rk.bind q).ext s1).imp λk _ q u e H2 a r2=>?_⟩
  cases k with
  | int kk=>
   have b:Rk c E F H (match ni xs.length kk with|some j=>R.ok _|none=>.bad) _:=q
   split at b
   .rename_i j m
    obtain rfl:=aP.cA r2
    refine⟨p,vs,kk,j,rfl,rfl,a.hh _ _ h2.1,by rw[h2.2.2.2.length];ext,?_⟩
    exact Rk.ok b Z e _ (s1.trans a).ff (((ab.ext s1).ext a).putL hi d (Oa (b5.same a.ff r1) j (h2.2.2.2.same a.ff)))
   .exact b.elim
  | _=>exact q.elim
 .exact q.elim
def Dx(i:Nat)(g:Dz->Dz->R Dz)(f:Sg->R Dz):Sg->R Fw:=λY=>(eV i Y).bind λx=>(f Y).bind λy=>(g x y).bind λz=>.ok (.nx (Y.set i (some (.d z))))
theorem sA{i:Nat}{k:Int->Int->Int}{g:Dz->Dz->R Dz}{f:Sg->R Dz}(d:∀ x y,(∃ i j,x=.int i/\y=.int j/\g x y=.ok (.int (k i j)))\/g x y=.bad)(h:PS X st (J1 i (tV (bG c) c E f) (Gj k))):gp X c E st (Dx i g f):=PS.imp h λD Z H ⟨Y,F,ab,k⟩=>by
 have a:=Rk.bind k
 unfold eV at a
 split at a
 .rename_i x b
  obtain⟨v,h1⟩:=ab.slot i _ b
  refine⟨v,h1.1,Y,F,ab,(Rk.bind a).imp λy _ q u l H1 s1 r1=>?_⟩
  rcases d x y with ⟨m,n,rfl,rfl,e⟩|e
  .rw[e]at q
   obtain rfl:=b5.cA h1.2
   obtain rfl:=aP.cA r1
   exact⟨m,n,rfl,rfl,Rk.ok q _ l H1 s1.ff ((ab.ext s1).qo (.int _))⟩
  .rw[e]at q;exact q.elim
 .exact a.elim
theorem Ur(x y:Dz):(∃ i j,x=.int i/\y=.int j/\uT x y=.ok (.int (i+j)))\/uT x y=.bad:=by
 unfold uT
 ext
theorem Uq(x y:Dz):(∃ i j,x=.int i/\y=.int j/\fj x y=.ok (.int (i - j)))\/fj x y=.bad:=by
 unfold fj
 ext
end
def Tg(c:Ct)(g:TG)(fs:Dz->Sg->O9 Sg)(is:L9 Nat):Prop:=∀ (v:V) (x:Dz) (Y Y':Sg) (Z:_a.St) (F H:Hp) (Q:_a.St->Hp->Prop),Ab c Y Z F H->b5 c.K F v x->fs x Y=some Y'->
 (∀ Z':_a.St,Z'.length=Z.length->(∀ j:Nat,j∉is->Z'[j]? = Z[j]?)->Ab c Y' Z' F H->Q Z' H)->g v Z H Q
noncomputable def stN(i:Nat):Dz->Sg->O9 Sg:=λx Y=>some (Y.set i (some (.d x)))
theorem mX{c:Ct}(i:Nat):Tg c (fQ i) (stN i) [i]:=λv x Y b Z F H Q ab r e q=>by
 cases e
 exact q _ BJ (λj a=>A1 (by ext)) (ab.qo r)
noncomputable def u_:L9 (Dz->Sg->O9 Sg)->L9 Dz->Sg->O9 Sg
 | [],[],Y=>some Y
 | f::fs,x::xs,Y=>(f x Y).bind (u_ fs xs)
 | _,_,_=>none
def yw(c:Ct)(g:vd)(fs:L9 (Dz->Sg->O9 Sg))(is:L9 Nat):Prop:=∀ (vs:L9 V) (xs:L9 Dz) (Y Y':Sg) (Z:_a.St) (F H:Hp) (Q:_a.St->Hp->Prop),Ab c Y Z F H->a_ c.K F vs xs->u_ fs xs Y=some Y'->
 (∀ Z':_a.St,Z'.length=Z.length->(∀ j:Nat,j∉is->Z'[j]? = Z[j]?)->Ab c Y' Z' F H->Q Z' H)->g vs Z H Q
theorem MX{c:Ct}:yw c Hr [] []:=λvs xs Y a Z F H Q ab r e q=>by
 cases xs with
 | nil=>cases e;exact⟨by cases r;rfl,q Z rfl (λ_ _=>rfl) ab⟩
 | cons x t=>cases e
theorem wZ{c:Ct}{g:TG}{gs:vd}{f:Dz->Sg->O9 Sg}{fs:L9 (Dz->Sg->O9 Sg)}{is js:L9 Nat}(h:Tg c g f is)(h2:yw c gs fs js):yw c (Kv g gs) (f::fs) (is++js):=λvs xs Y k Z F H Q ab r e q=>by
 cases r with
 | nil=>cases e
 | cons r1 r2=>
  rename_i x d vs ds
  have i:(f d Y).bind _=some k:=e
  cases e1:f d Y with
  | none=>simp_all
  | some Y1=>
   rw[e1]at i
   refine⟨_,_,rfl,h _ _ Y Y1 Z F H _ ab r1 e1 λn o k1 b=>h2 _ _ Y1 k n F H _ b r2 i λl m k2 a=>q l (m.trans o) (λj p=>?_) a⟩
   ext
noncomputable def u6(fs:L9 (Dz->Sg->O9 Sg)):Dz->Sg->O9 Sg:=λx Y=>match x with
 | .tuple xs=>u_ fs xs Y
 | _=>none
theorem MW:∀ {fs:L9 (Dz->Sg->O9 Sg)} {xs:L9 Dz} {Y Y':Sg},u_ fs xs Y=some Y'->xs.length=fs.length
 | [],[],_,_,_=>rfl
 | [],_::_,_,_,h=>by cases h
 | _::_,[],_,_,h=>by cases h
 | f::fs,x::xs,Y,Y',h=>by
  have h':(f x Y).bind _=some Y':=h
  cases e:f x Y with
  | none=>ext
  | some Y1=>
   rw[e]at h'
   have:=MW h'
   simp[this]
theorem Le{c:Ct}{gs:vd}{fs:L9 (Dz->Sg->O9 Sg)}{is:L9 Nat}{n:Nat}{K:Frag}(d:K=c.K)(h:yw c gs fs is)(b:fs.length=n):Tg c (J2 K n gs) (u6 fs) is:=λv x Y f Z F H Q ab r e q=>by
 cases x with
 | tuple xs=>
  obtain⟨a,vs,rfl,h1⟩:=r.dz
  subst d
  exact⟨a,vs,rfl,h1.1.same ab.fh,by rw[h1.2.length,MW e,b],h vs xs Y f Z F H Q ab h1.2 e q⟩
 | _=>cases e
structure v3(K:Frag)(J:It)(F B:Hp)(xs:List Dz):Prop where
 len:xs.length<=sizeLine
 go:∀ (i:Nat) F1 H1,aH F F1->aH F1 H1->aH B H1->i < xs.length->J.go i H1
 oz:∀ (i:Nat) F1 H1 v H2 x,aH F F1->aH F1 H1->aH B H1->J.oz i H1 v H2->xs[i]? = some x->∃ F2,Ext F1 H1 F2 H2/\b5 K F2 v x
 stop:∀ F1 H1,aH F F1->aH F1 H1->aH B H1->J.stop xs.length H1
def tI(c:Ct)(E:XK)(f:Sg->R (L9 Dz)):TI:=λZ H Rr=>∃ Y F,Ab c Y Z F H/\Rk c E F H (f Y) λxs=>∀ J B F' H',Ext F H F' H'->aH B H'->v3 c.K J F' B xs->Rr J H'
def Bz(c:Ct)(E:XK)(f:Sg->R (L9 Dz)):TI:=λZ H Rr=>∃ Y F,Ab c Y Z F H/\Rk c E F H (f Y) λxs=>∀ J F' H',Ext F H F' H'->v3 c.K J F' (λ_=>none) xs->Rr J H'
theorem PI.imp{X:Cx}{tg e:Ez}{t t':TI}(h:PI X tg e t)(i:∀ Z H Q,t' Z H Q->t Z H Q):PI X tg e t':=λav s Z H Q I q=>h av s Z H Q I (i Z H Q q)
abbrev r0(X:Cx)(c:Ct)(E:XK)(tg e:Ez)(f:Sg->R (L9 Dz)):Prop:=PI X tg e (tI c E f)
abbrev v7(X:Cx)(c:Ct)(E:XK)(tg e:Ez)(f:Sg->R (L9 Dz)):Prop:=PI X tg e (Bz c E f)
theorem Kz{X:Cx}{c:Ct}{E:XK}{tg e:Ez}{f:Sg->R (L9 Dz)}(h:v7 X c E tg e f):r0 X c E tg e f:=PI.imp h λZ H Q Y=>
 by obtain⟨Y,F,ab⟩:=Y;exact⟨Y,F,ab.1,ab.2.imp λxs _ q J a H' s y=>q J (λ_=>none) a H' s (λ_ _ z=>nomatch z) y⟩
def kG{H:Hp}:aH (λ_=>none) H:=λ_ _ z=>nomatch z
noncomputable def bA:Dz->R (L9 Dz)
 | .list xs=>if xs.length<=16777216 then .ok xs else .bad
 | .tuple xs=>if xs.length<=16777216 then .ok xs else .bad
 | .str z=>if z.cps.toList.length<=16777216 then .ok (z.cps.toList.map λu=>.str ⟨#[u]⟩)else .bad
 | _=>.bad
theorem Ny{K:Frag}{F B H:Hp}{a:Az}{vs:L9 V}{xs:L9 Dz}(h:xs.length<=16777216)(c:∀ H1,aH F H1->aH B H1->d_ K H1 a vs)(f:a_ K F vs xs):v3 K (Br K a) F B xs where
 len:=by rw[iF];exact h
 go:=λi g H1 h1 h2 b hi=>by
  have q:=c H1 (λx o z=>h2 x o (h1 x o z)) b
  exact⟨vs,vs[i]'(by rw[f.length];exact hi),q,by simp⟩
 oz:=λi g H1 v H2 x h1 h2 b y e=>by
  obtain⟨rfl,y⟩:=y
  have q:=y vs (c _ (λx o z=>h2 x o (h1 x o z)) b)
  obtain⟨d,e2,r⟩:=f.get q
  rw[e]at e2
  cases e2
  exact⟨g,Ext.refl h2,r.same h1⟩
 stop:=λg H1 h1 h2 b=>⟨vs,c H1 (λx o z=>h2 x o (h1 x o z)) b,by rw[f.length];exact AG _⟩
theorem MV{K:Frag}{F B:Hp}{a:Az}{vs:L9 V}{xs:L9 Dz}(h:xs.length<=16777216)(b:fq K F a vs)(c:a_ K F vs xs):v3 K (Jb K a) F B xs where
 len:=by rw[iF];exact h
 go:=λi f H1 h1 h2 g hi=>by
  have q:=b.same (H':=H1) (λx o z=>h2 x o (h1 x o z))
  exact⟨vs,vs[i]'(by rw[c.length];exact hi),q,by simp⟩
 oz:=λi f H1 v H2 x h1 h2 g y e=>by
  obtain⟨rfl,y⟩:=y
  have q:=y vs (b.same (λx o z=>h2 x o (h1 x o z)))
  obtain⟨d,e2,r⟩:=c.get q
  rw[e]at e2
  cases e2
  exact⟨f,Ext.refl h2,r.same h1⟩
 stop:=λf H1 h1 h2 g=>⟨vs,b.same (λx o z=>h2 x o (h1 x o z)),by rw[c.length];exact AG _⟩
theorem MU{K:Frag}{F B:Hp}{z:Str}(d:z.cps.toList.length<=16777216):v3 K (Jc z) F B (z.cps.toList.map λu=>.str ⟨#[u]⟩) where
 len:=by rw[iF,AL];exact d
 go:=λi a H1 h1 h2 b hi=>by
  rw[AL,EG]at hi
  exact hi
 oz:=λi a H1 v H2 x h1 h2 b y e=>by
  obtain⟨rfl,u,c,rfl⟩:=y
  rw[AZ,D9,c]at e
  cases e
  exact⟨a,Ext.refl h2,.str _⟩
 stop:=λa H1 h1 h2 b=>by
  show(z.cps.toList.map _).length=z.cps.size
  ext
section
variable{X:Cx}{c:Ct}{E:XK}{tg e a b:Ez}{pos:Pos}
theorem JY{f:Sg->R Dz}(j:X.K=c.K)(h:PD X c E e f):v7 X c E tg e (e1 bA f):=PI.imp (PI.or (Lv h) (Lo h)) λZ H Q ⟨Y,F,ab,k⟩=>by
 have b:=Rk.bind k
 cases a:f Y with
 | bad=>rw[a]at b;exact b.elim
 | ex x=>rw[a]at b;exact .inl ⟨Y,F,ab,by rw[a];exact b⟩
 | ok d=>
  rw[a]at b
  have k2:=Rk.ok b
  unfold bA at k2
  split at k2
  .split at k2
   .rename_i g
    refine .inl ⟨Y,F,ab,?_⟩
    rw[a]
    intro v i H' s r
    obtain⟨p,vs,rfl,h1,h2⟩:=b5.d3 r
    refine⟨p,rfl,.inl ⟨⟨vs,?_⟩,?_⟩⟩
    · rw [j]; exact h1.same s.fh
    · rw [j]; exact Rk.ok k2 _ i H' s (Ny (H := H') g (λH1 q _ => h1.same q) h2)
   .exact k2.elim
  .split at k2
   .rename_i g
    refine .inl ⟨Y,F,ab,?_⟩
    rw[a]
    intro v i H' s r
    obtain⟨p,vs,rfl,h1,h2⟩:=b5.dz r
    refine⟨p,rfl,.inr ⟨⟨vs,?_⟩,?_⟩⟩
    · rw [j]; exact h1.same s.fh
    · rw [j]; exact Rk.ok k2 _ i H' s (MV g h1 h2)
   .exact k2.elim
  .rename_i z
   split at k2
   .rename_i g
    refine .inr ⟨Y,F,ab,?_⟩
    rw[a]
    intro v i H' s r
    obtain rfl:=b5.df r
    exact⟨z,rfl,Rk.ok k2 _ i H' s (MU g)⟩
   .exact k2.elim
  .exact k2.elim
theorem JX{f:Sg->R Dz}(j:X.K=c.K)(h:PR X c E e f):r0 X c E tg e (e1 bA f):=PI.imp (PI.or (Lv h) (Lo h)) λZ H Q ⟨Y,F,ab,k⟩=>by
 have b:=Rk.bind k
 cases a:f Y with
 | bad=>rw[a]at b;exact b.elim
 | ex x=>rw[a]at b;exact .inl ⟨Y,F,ab,by rw[a];exact b⟩
 | ok d=>
  rw[a]at b
  have k2:=Rk.ok b
  unfold bA at k2
  split at k2
  .split at k2
   .rename_i g
    refine .inl ⟨Y,F,ab,?_⟩
    rw[a]
    intro v i H' s r
    obtain⟨p,vs,rfl,h1,h2⟩:=aP.d3 s.fh r
    refine⟨p,rfl,.inl ⟨⟨vs,?_⟩,?_⟩⟩
    · ext
    · rw [j]; exact Rk.ok k2 _ H' i H' s (bP _) (Ny (H := H') g (λH1 _ q => h1.same q) h2)
   .exact k2.elim
  .split at k2
   .rename_i g
    refine .inl ⟨Y,F,ab,?_⟩
    rw[a]
    intro v i H' s r
    obtain⟨p,vs,rfl,h1,h2⟩:=aP.dz s.fh r
    refine⟨p,rfl,.inr ⟨⟨vs,?_⟩,?_⟩⟩
    · ext
    · rw [j]; exact Rk.ok k2 _ H' i H' s (bP _) (MV g h1 h2.2)
   .exact k2.elim
  .rename_i z
   split at k2
   .rename_i g
    refine .inr ⟨Y,F,ab,?_⟩
    rw[a]
    intro v i H' s r
    obtain rfl:=aP.df r
    exact⟨z,rfl,Rk.ok k2 _ H' i H' s (bP _) (MU g)⟩
   .exact k2.elim
  .exact k2.elim
noncomputable def nK(lo:Int)(n:Nat):L9 Dz:=(range n).map λi:Nat=>.int (lo+i)
def kP(lo hi:Int):R (L9 Dz):=if -4611686018427387904<=lo/\lo < 4611686018427387904 /\ -4611686018427387904<=hi/\hi < 4611686018427387904/\hi - lo<=16777216 then .ok (nK lo (hi - lo).toNat)else .bad
def dN(f:Sg->R Dz):Sg->R (L9 Dz):=λY=>(f Y).bind λx=>match x with
 | .int j=>kP 0 j
 | _=>.bad
theorem W2{F B:Hp}{lo:Int}(d:n<=16777216):v3 K (Fm lo n) F B (nK lo n) where
 len:=by unfold nK;rw[iF,AL,B8];exact d
 go:=λi a H1 h1 h2 c hi=>by unfold nK at hi;rw[AL,B8]at hi;exact hi
 oz:=λi a H1 v H2 x h1 h2 c y e=>by
  obtain⟨rfl,rfl⟩:=y
  unfold nK at e
  rw[AZ]at e
  cases q:(range n)[i]? with
  | none=>rw[q]at e;cases e
  | some j=>
   rw[q]at e
   cases e
   obtain⟨f,b⟩:=AH.mp q
   rw[List.getElem_range]at b
   subst b
   exact⟨a,Ext.refl h2,.int _⟩
 stop:=λa H1 h1 h2 c=>by show n<=_;unfold nK;rw[AL,B8];exact AG _
theorem MT{f:Sg->R Dz}(h:PI X tg e (Kt (bR (tV (bG c) c E f) dP))):v7 X c E tg e (dN f):=PI.imp h λZ H Q b=>by
 obtain⟨Y,F,ab,k⟩:=b
 refine⟨Y,F,ab,(Rk.bind k).imp λx _ q v d H' s r=>?_⟩
 cases x with
 | int j=>
  have a:Rk c E F H (kP 0 j) _:=q
  unfold kP at a
  split at a
  .obtain rfl:=aP.cA r
   refine⟨j,rfl,by ext,by ext,?_⟩
   have e0:(j - 0).toNat=j.toNat:=by rw[Int.sub_zero]
   rw[<-e0]
   exact Rk.ok a _ d H' s (W2 (by ext))
  .exact a.elim
 | _=>exact q.elim
end
noncomputable def eH(js:L9 (O9 Nat))(Y:Sg):Sg:=js.map λo=>o.bind λj=>(Y[j]?).join
theorem z7{α:Type}{js:L9 (O9 Nat)}{Y:L9 (O9 α)}{i:Nat}{a:α}(h:(js.map λo=>o.bind λj=>(Y[j]?).join)[i]? = some (some a)):∃ j,js[i]? = some (some j)/\Y[j]? = some (some a):=by
 rw[AZ]at h
 cases e:js[i]? with
 | none=>simp_all
 | some o=>
  rw[e]at h
  cases o with
  | none=>cases(CB h)
  | some j=>
   ext
theorem z8{α:Type}{js:L9 (O9 Nat)}{Y:L9 (O9 α)}{i j:Nat}{a:α}(h:js[i]? = some (some j))(h2:Y[j]? = some (some a)):(js.map λo=>o.bind λj=>(Y[j]?).join)[i]? = some (some a):=by
 simp_all
def z9(js:L9 (O9 Nat)):Prop:=∀ (i k j:Nat),js[i]? = some (some j)->js[k]? = some (some j)->i=k
theorem qX{js:L9 (O9 Nat)}(h:js.Pairwise λa b=>a=none\/a≠b):z9 js:=λi k j h1 h2=>by
 obtain⟨d,e1⟩:=AH.mp h1
 obtain⟨c,e2⟩:=AH.mp h2
 rw[EJ]at h
 ext
theorem Ab.uj{c:Ct}{Y:Sg}{Z n:_a.St}{F H:Hp}{js:L9 (O9 Nat)}(b:Ab c Y Z F H)(u:z9 js)(k:dZ (k9 js Z) n):Ab c (eH js Y) n F H where
 len:=by rw[k.1];unfold eH k9;rw[AL,AL]
 fh:=b.fh
 slot:=λi a h=>by
  obtain⟨j,h1,h2⟩:=z7 h
  obtain⟨v,g,s⟩:=b.slot j a h2
  exact⟨v,k.2 i v (z8 h1 g),s⟩
 apart:=λi p a q m h h' o o'=>by
  obtain⟨j,h1,h2⟩:=z7 h
  obtain⟨l,d,f⟩:=z7 h'
  have t:j≠l:=λz=>m (u i p j h1 (by rw[d,z]))
  obtain⟨v,g,_⟩:=b.slot j a h2
  obtain⟨r,e,_⟩:=b.slot l q f
  rw[k.2 i v (z8 h1 g),k.2 p r (z8 d e),<-g,<-e]
  exact b.apart j l a q t h2 f o o'
 f0:=b.f0
 h0:=b.h0
 n0:=b.n0
 t0:=b.t0
noncomputable def R.qr{α:Type}:R α->R α
 | .ex _=>.bad
 | r=>r
@[simp] theorem R.vq{α:Type}(a:α):(R.ok a).qr=.ok a:=id rfl
noncomputable def yq{α:Type}:O9 α->R α
 | some a=>.ok a
 | none=>.bad
@[simp] theorem l8{α:Type}(a:α):yq (some a)=.ok a:=id rfl
noncomputable def di(fs:Dz->Sg->O9 Sg)(ft:Sg->R Bool)(fe:Sg->R Dz)(Y0:Sg):L9 Dz->R (L9 Dz)
 | []=>.ok []
 | x::t=>(yq (fs x Y0)).bind λY1=>(ft Y1).qr.bind λb=>if b=true then(fe Y1).qr.bind λy=>(di fs ft fe Y0 t).bind λys=>.ok (y::ys)else di fs ft fe Y0 t
theorem qY{fs:Dz->Sg->O9 Sg}{ft:Sg->R Bool}{fe:Sg->R Dz}{Y0:Sg}{e:Er}:∀ {xs:L9 Dz},di fs ft fe Y0 xs≠.ex e
 | []=>λh=>by cases h
 | x::t=>λh=>by
  unfold di at h
  cases h1:fs x Y0 with
  | none=>rw[h1]at h;cases h
  | some Y1=>
   rw[h1]at h
   have h:((ft Y1).qr.bind λb=>if b=true then(fe Y1).qr.bind λy=>(di fs ft fe Y0 t).bind λys=>.ok _ else di fs ft fe Y0 t)=.ex e:=h
   cases h2:ft Y1 with
   | bad=>rw[h2]at h;cases h
   | ex _=>rw[h2]at h;cases h
   | ok b=>
    rw[h2]at h
    cases b with
    | false=>exact qY h
    | true=>
     cases c:fe Y1 with
     | bad=>rw[c]at h;cases h
     | ex _=>rw[c]at h;cases h
     | ok y=>
      rw[c]at h
      have h:((di fs ft fe Y0 t).bind λys=>.ok _)=.ex e:=h
      cases a:di fs ft fe Y0 t with
      | bad=>rw[a]at h;cases h
      | ex e'=>exact qY a
      | ok ys=>rw[a]at h;cases h
theorem XH{fs:Dz->Sg->O9 Sg}{ft:Sg->R Bool}{fe:Sg->R Dz}{Y0:Sg}{x:Dz}{t ys:L9 Dz}(h:di fs ft fe Y0 (x::t)=.ok ys) :
  ∃ Y1 b,fs x Y0=some Y1/\ft Y1=.ok b/\((b=true/\∃ y zs,fe Y1=.ok y/\di fs ft fe Y0 t=.ok zs/\ys=y::zs)\/(b=false/\di fs ft fe Y0 t=.ok ys)):=by
 unfold di at h
 cases h1:fs x Y0 with
 | none=>rw[h1]at h;cases h
 | some Y1=>
  rw[h1]at h
  have h:((ft Y1).qr.bind λb=>if b=true then(fe Y1).qr.bind λy=>(di fs ft fe Y0 t).bind λys=>.ok _ else di fs ft fe Y0 t)=.ok ys:=h
  cases h2:ft Y1 with
  | bad=>rw[h2]at h;cases h
  | ex _=>rw[h2]at h;cases h
  | ok b=>
   rw[h2]at h
   refine⟨Y1,b,rfl,h2,?_⟩
   cases b with
   | false=>exact .inr ⟨rfl,h⟩
   | true=>
    refine .inl ⟨rfl,?_⟩
    cases c:fe Y1 with
    | bad=>rw[c]at h;cases h
    | ex _=>rw[c]at h;cases h
    | ok y=>
     rw[c]at h
     cases a:di fs ft fe Y0 t with
     | bad=>rw[a]at h;cases h
     | ex e'=>rw[a]at h;cases h
     | ok zs=>rw[a]at h;cases h;exact⟨y,zs,rfl,rfl,rfl⟩
def cJ(js:L9 (O9 Nat))(fi:Sg->R (L9 Dz))(fs:Dz->Sg->O9 Sg)(ft:Sg->R Bool)(fe:Sg->R Dz):Sg->R (L9 Dz):=λY=>(fi Y).bind λxs=>di fs ft fe (eH js Y) xs
noncomputable def dS:Sg->R Bool:=λ_=>.ok true
section
variable{X:Cx}{c:Ct}{E:XK}{e a b:Ez}{pos:Pos}
theorem lA:_a.r0 X [] (qm c E dS):=λav s Z H Q I Y=>by obtain⟨Y,F,ab⟩:=Y;exact _a.lA av s Z H Q I (Rk.ok ab.2 F H (Ext.refl ab.1.fh))
theorem w4{is:L9 Nat}{Z b a:_a.St}(k:dZ (k9 js Z) b)(c:a.length=b.length)(h:∀ j:Nat,j∉is->a[j]? = b[j]?)(hi:∀ i∈is,js[i]? = some none):dZ (k9 js Z) a:=
 ⟨c.trans k.1,λi v e=>by
  by_cases q:i∈is
  .unfold k9 at e
   simp_all
  .rw[h i q];exact k.2 i v e⟩
theorem N_{tg elt:Ez}{ifs:L9 Ez}{fi:Sg->R (L9 Dz)}{fs:Dz->Sg->O9 Sg}{ft:Sg->R Bool}{fe:Sg->R Dz}(V:z9 js)(hi:∀ i∈is,js[i]? = some none)
  (hb:∀ (cl:L9 (Str×Az)) (C:Az) (s:S9) (H0:Hp) (fp:L9 Az),∃ g,PG (dB X N scope cl C s H0 fp) tg g/\Tg c g fs is/\_a.r0 (dB X N scope cl C s H0 fp) ifs (qm c E0 ft)/\PD (dB X N scope cl C s H0 fp) c E0 elt fe)
  {Z:_a.St} {H:Hp} {Q:VK} (h:tV (zY c) c E (cJ js fi fs ft fe) Z H Q):qG X N scope js tg elt ifs (tI c E fi) Z H Q:=by
 obtain⟨Y,F,ab⟩:=h
 refine⟨Y,F,ab.1,(Rk.bind ab.2).imp λxs _ q J B M H1 s1 D m=>?_⟩
 cases n:di fs ft fe _ xs with
 | bad=>rw[n]at q;exact q.elim
 | ex e=>exact absurd n qY
 | ok ys=>
  rw[n]at q
  refine zR (λi b H'=>∃ F',Ext M H1 F' H'/\b.length<=i/\∃ zs rest,a_ c.K F' b zs/\di fs ft fe _ (xs.drop i)=.ok rest/\zs++rest=ys) m.len ⟨M,Ext.refl s1.fh,AG _,[],ys,.nil,n,rfl⟩ ?_ ?_ ?_ ?_ ?_
  .rintro i b H' _ ⟨F',_,h,_⟩;ext
  .rintro i b H' d ⟨F',e1,_⟩
   exact m.go i F' H' e1.ff e1.fh (λa o z=>e1.hh a o (D a o z)) d
  .rintro b H' ⟨F',e1,_⟩
   exact m.stop F' H' e1.ff e1.fh (λa o z=>e1.hh a o (D a o z))
  .rintro i v b Ha Hb d ⟨F',e1,hlen,zs,rest,hd,hr,hz⟩ hy
   obtain⟨I,e2⟩:=m.oz i F' Ha v Hb xs[i] e1.ff e1.fh (λa o z=>e1.hh a o (D a o z)) hy (AJ d)
   rw[(EK d)]at hr
   obtain⟨G,bb,U,P,j⟩:=XH hr
   intro cl C s H0 fp
   obtain⟨g,r⟩:=hb cl C s H0 fp
   refine⟨g,_,_,r.1,r.2.2.1,r.2.2.2,λS k0=>?_⟩
   refine r.2.1 v xs[i] _ G S I Hb _ ((ab.1.ext (s1.trans (e1.trans e2.1))).uj V k0) e2.2 U λW u x l=>⟨w4 k0 u x hi,G,I,l,?_⟩
   rw[P]
   intro O H3 k
   rcases j with ⟨rfl,y,ws,A,f,rfl⟩|⟨rfl,f⟩
   .refine Bc ⟨G,O,l.ext k,?_⟩
    rw[A]
    intro w T H4 L t
    refine⟨T,e1.trans (e2.1.trans (k.trans L)),by ext,zs++[y],ws,(hd.same (e2.1.trans (k.trans L)).ff).append (.cons t .nil),f,by simp_all⟩
   .exact Bd ⟨O,e1.trans (e2.1.trans k),by ext,zs,rest,hd.same (e2.1.trans k).ff,f,hz⟩
  .rintro b H' ⟨F',e1,_,zs,rest,hd,hr,hz⟩ p hp
   rw[EU]at hr
   cases hr
   rw[CO]at hz
   subst hz
   exact Rk.ok q _ F' _ (s1.trans (e1.trans (Ext.own e1.fh hp))) ⟨p,b,rfl,aY (s1.trans e1).hh hp,aI,aY e1.fh hp,hd⟩
theorem IW{tg elt:Ez}{ifs:L9 Ez}{fi:Sg->R (L9 Dz)}{fs:Dz->Sg->O9 Sg}{ft:Sg->R Bool}{fe:Sg->R Dz}(h:PE X e (qG X N scope js tg elt ifs (tI c E fi)))(d:js.Pairwise λa b=>a=none\/a≠b)(hi:∀ i∈is,js[i]? = some none)
 (hb:∀ (cl:L9 (Str×Az)) (C:Az) (s:S9) (H0:Hp) (fp:L9 Az),∃ g,PG (dB X N scope cl C s H0 fp) tg g/\Tg c g fs is/\_a.r0 (dB X N scope cl C s H0 fp) ifs (qm c E0 ft)/\PD (dB X N scope cl C s H0 fp) c E0 elt fe) :
 PN X c E e (cJ js fi fs ft fe):=PE.imp h λZ H Q q=>N_ (qX d) hi hb q
theorem Up{tg elt:Ez}{ifs:L9 Ez}{fi:Sg->R (L9 Dz)}{fs:Dz->Sg->O9 Sg}{ft:Sg->R Bool}{fe:Sg->R Dz}(h:PS X st (jR (qG X N scope js tg elt ifs (tI c E fi)) (fQ i)))(d:js.Pairwise λa b=>a=none\/a≠b)(hi:∀ i∈is,js[i]? = some none)
 (hb:∀ (cl:L9 (Str×Az)) (C:Az) (s:S9) (H0:Hp) (fp:L9 Az),∃ g,PG (dB X N scope cl C s H0 fp) tg g/\Tg c g fs is/\_a.r0 (dB X N scope cl C s H0 fp) ifs (qm c E0 ft)/\PD (dB X N scope cl C s H0 fp) c E0 elt fe) :
 gp X c E st (dX i (cJ js fi fs ft fe)):=MY (PS.imp h λD Z H q=>N_ (qX d) hi hb q)
end
noncomputable def iK(fs:Dz->Sg->O9 Sg)(fb:Sg->R Fw):L9 Dz->Sg->R Fw
 | [],Y=>.ok (.nx Y)
 | x::t,Y=>(yq (fs x Y)).bind λY1=>(fb Y1).bind λw=>match w with
  | .nx Y2=>iK fs fb t Y2
  | .ct Y2=>iK fs fb t Y2
  | .bk Y2=>.ok (.nx Y2)
  | .rt a=>.ok (.rt a)
def j5(fi:Sg->R (L9 Dz))(fs:Dz->Sg->O9 Sg)(fb:Sg->R Fw):Sg->R Fw:=λY=>(fi Y).bind λxs=>iK fs fb xs Y
section
variable{X:Cx}{c:Ct}{E:XK}{e a b:Ez}{pos:Pos}{st:Stmt}
theorem lV{g:TG}{fi:Sg->R (L9 Dz)}{fs:Dz->Sg->O9 Sg}{fb:Sg->R Fw}(A:Tg c g fs is)(h:PS X st (Ho (Bz c E fi) g (zc c E fb))):gp X c E st (j5 fi fs fb):=PS.imp h λD Z H s=>by
 obtain⟨Y,F,ab,k⟩:=s
 refine⟨Y,F,ab,(Rk.bind k).imp λxs _ q J p H1 s1 n=>?_⟩
 refine⟨λi m Z H=>m=xs.length - i/\i<=xs.length/\∃ Y' b,aH p b/\Ab c Y' Z b H/\Rk c E b H (iK fs fb (xs.drop i) Y') _,⟨xs.length,by rfl,CT _,Y,p,bP _,ab.ext s1,Rk.ext s1 q⟩,?_⟩
 rintro i m u H2 ⟨rfl,hi,Y2,F2,s2,Ar,k2⟩
 by_cases f:i < xs.length
 .refine .inr ⟨n.go i F2 H2 s2 Ar.fh kG f,λj H'=>∃ Y' b,aH p b/\Ab c Y' j b H'/\Rk c E b H' _ _,λj H' w=>⟨xs.length - (i+1),by ext,rfl,f,w⟩,λv H3 y=>?_⟩
  obtain⟨x,l⟩:=n.oz i F2 H2 v H3 xs[i] s2 Ar.fh kG y (AJ f)
  rw[(EK f)]at k2
  unfold iK at k2
  cases h1:fs xs[i] Y2 with
  | none=>rw[h1]at k2;exact k2.elim
  | some Y3=>
   rw[h1]at k2
   refine A v xs[i] Y2 Y3 u x H3 _ (Ar.ext l.1) l.2 h1 λB _ _ r=>⟨Y3,x,r,?_⟩
   have k3:Rk c E F2 H2 (fb Y3) _:=Rk.bind k2
   cases h2:fb Y3 with
   | bad=>rw[h2]at k3;exact k3.elim
   | ex e=>rw[h2]at k3;exact k3
   | ok w=>
    rw[h2]at k3
    have t:=Rk.ok k3
    cases w with
    | nx Y4=>exact λj b H' s' d=>⟨Y4,b,λa o z=>s' a o (l.1.ff a o (s2 a o z)),d,t⟩
    | ct Y4=>exact λj b H' s' d=>⟨Y4,b,λa o z=>s' a o (l.1.ff a o (s2 a o z)),d,t⟩
    | bk Y4=>exact λj b H' s' d=>Rk.ok t j b H' (λa o z=>s' a o ((λa o z=>l.1.ff a o (s2 a o (s1.ff a o z))) a o z)) d
    | rt a=>assumption
 .have e:i=xs.length:=by ext
  subst e
  rw[EU]at k2
  exact .inl ⟨n.stop F2 H2 s2 Ar.fh kG,Rk.ok k2 u F2 H2 (λa o z=>s2 a o (s1.ff a o z)) Ar⟩
end
noncomputable def dI(t:Sg->R Bool)(b:Sg->R Fw):Nat->Sg->R Fw
 | 0,_=>.bad
 | n+1,Y=>(t Y).bind λk=>if k=true then(b Y).bind λw=>match w with
   | .nx Y'=>dI t b n Y'
   | .ct Y'=>dI t b n Y'
   | .bk Y'=>.ok (.nx Y')
   | .rt a=>.ok (.rt a)
  else .ok (.nx Y)
open Classical in
def bF(t:Sg->R Bool)(b:Sg->R Fw):Sg->R Fw:=λY=>if h:∃ n,dI t b n Y≠.bad then dI t b h.choose Y else .bad
theorem R.bind_mono{α β:Type}{r:R α}{f g:α->R β}(h:r.bind f≠.bad)(b:∀ a,f a≠.bad->g a=f a):r.bind g=r.bind f:=by
 cases r with
 | bad=>rfl
 | ex e=>rfl
 | ok a=>exact b a h
theorem lS{t:Sg->R Bool}{b:Sg->R Fw}:∀ {n m:Nat} {Y:Sg},n<=m->dI t b n Y≠.bad->dI t b m Y=dI t b n Y
 | 0,_,_,_,h=>absurd rfl h
 | n+1,0,_,hm,_=>absurd hm (by simp)
 | n+1,m+1,Y,hm,h=>by
  refine R.bind_mono h λk d=>?_
  cases k with
  | false=>rfl
  | true=>
   refine R.bind_mono d λw c=>?_
   cases w with
   | nx Y'=>exact lS (by ext) c
   | ct Y'=>exact lS (by ext) c
   | bk Y'=>rfl
   | rt a=>rfl
theorem sW{t:Sg->R Bool}{b:Sg->R Fw}{Y:Sg}{n:Nat}(h:dI t b n Y≠.bad):bF t b Y=dI t b n Y:=by
 have a:∃ n,dI t b n Y≠.bad:=⟨n,h⟩
 unfold bF
 rw[dif_pos a]
 rcases Nat.le_total n a.choose with q|q
 · exact lS q h
 · exact(lS q a.choose_spec).symm
theorem sX (t : Sg -> R Bool) (b : Sg -> R Fw) (Y : Sg) : bF t b Y = (t Y).bind λk => if k = true then(b Y).bind λw => match w with
      | .nx Y' => bF t b Y'
      | .ct Y' => bF t b Y'
      | .bk Y' => .ok (.nx Y')
      | .rt a => .ok (.rt a)
    else .ok (.nx Y) := by
  have l : ∀ n, (∀ k, t Y = .ok k -> k = true -> ∀ w, b Y = .ok w -> ∀ Y', (w = .nx Y' \/ w = .ct Y') -> bF t b Y' = dI t b n Y') -> dI t b (n + 1) Y = (t Y).bind λk => if k = true then(b Y).bind λw => match w with
      | .nx Y' => bF t b Y'
      | .ct Y' => bF t b Y'
      | .bk Y' => .ok (.nx Y')
      | .rt a => .ok (.rt a)
    else .ok (.nx Y) := by
    intro n h
    unfold dI
    cases d : t Y with
    | bad => rfl
    | ex e => rfl
    | ok k =>
      cases k with
      | false => rfl
      | true =>
        cases f : b Y with
        | bad => rfl
        | ex e => rfl
        | ok w =>
          cases w with
          | nx Y' => exact(h true d rfl _ f Y' (.inl rfl)).symm
          | ct Y' => exact(h true d rfl _ f Y' (.inr rfl)).symm
          | bk Y' => rfl
          | rt a => rfl
  by_cases m : ∃ n, dI t b n Y ≠ .bad
  · obtain⟨n, g⟩ := m
    cases n with
    | zero => exact absurd rfl g
    | succ n =>
      rw [sW g]
      refine l n λk d o w f Y' j => ?_
      subst o
      refine sW λz => g ?_
      unfold dI
      rw [d]
      rw [f]
      rcases j with rfl | rfl <;> assumption
  · have p : bF t b Y = .bad := by unfold bF; rw [dif_neg m]
    rw [p]
    have c := λn => FT λz => m ⟨n, z⟩
    cases d : t Y with
    | bad => rfl
    | ex e => simp_all
    | ok k =>
      cases k with
      | false => simp_all
      | true =>
        cases f : b Y with
        | bad => rfl
        | ex e => simp_all
        | ok w =>
          have i : ∀ Y', (w = .nx Y' \/ w = .ct Y') -> bF t b Y' = .bad := λY' j => by
            unfold bF
            rw [dif_neg]
            rintro ⟨n, g⟩
            refine g ?_
            have := c (n + 1)
            unfold dI at this
            rw [d]at this
            rw [f]at this
            rcases j with rfl | rfl <;> exact this
          cases w with
          | nx Y' => exact(i Y' (.inl rfl)).symm
          | ct Y' => exact(i Y' (.inr rfl)).symm
          | bk Y' => have := c 1; unfold dI at this; rw [d]at this; change ((b Y).bind _) = _ at this; rw [f]at this; cases this
          | rt a => have := c 1; unfold dI at this; rw [d]at this; change ((b Y).bind _) = _ at this; rw [f]at this; cases this
section
variable{X:Cx}{c:Ct}{E:XK}{st:Stmt}
theorem fF{t:Sg->R Bool}{fb:Sg->R Fw}(h:PS X st (LH (qm c E t) (zc c E fb))):gp X c E st (bF t fb):=PS.imp h λD Z H j=>by
 obtain⟨Y,F,ab,k⟩:=j
 have s:=FT λz=>by
  have:bF t fb Y=.bad:=by unfold bF;rw[dif_neg z]
  rw[this]at k
  exact k
 obtain⟨n,u⟩:=s
 rw[sW u]at k
 refine⟨λm Z H=>∃ Y' d,aH F d/\Ab c Y' Z d H/\Rk c E d H (dI t fb m Y') _,⟨n,Y,F,bP F,ab,k⟩,?_⟩
 rintro m v H1 ⟨Y1,F1,s1,G9,k1⟩
 cases m with
 | zero=>exact k1.elim
 | succ m=>
  refine⟨Y1,F1,G9,(Rk.bind k1).imp λb _ q r H2 e2=>?_⟩
  cases b with
  | false=>exact Bd (Rk.ok q v r H2 (λa o z=>e2.ff a o (s1 a o z)) (G9.ext e2))
  | true=>
   refine Bc ⟨λg H'=>∃ Y' d,aH F d/\Ab c Y' g d H'/\Rk c E d H' _ _,λg H' w=>⟨m,by simp,w⟩,Y1,r,(G9.ext e2),?_⟩
   have i:=Rk.bind q
   cases h2:fb Y1 with
   | bad=>rw[h2]at i;exact i.elim
   | ex e=>rw[h2]at i;exact i
   | ok w=>
    rw[h2]at i
    have p:=Rk.ok i
    have l:=λa o z=>e2.ff a o (s1 a o z)
    cases w with
    | nx Y4=>exact λg d H' s' f=>⟨Y4,d,λa o z=>s' a o (l a o z),f,p⟩
    | ct Y4=>exact λg d H' s' f=>⟨Y4,d,λa o z=>s' a o (l a o z),f,p⟩
    | bk Y4=>exact λg d H' s' f=>Rk.ok p g d H' (λa o z=>s' a o (l a o z)) f
    | rt a=>assumption
end
def OK(K:Frag)(mg:Str->O9 V9)(T F1:Hp)(n:Nat)(G:L9 Dz->R Dz):Sp:=λvs H Q E=>∃ F ds,aH F1 F/\aH T F/\aH F H/\a_ K F vs ds/\ds.length=n/\match G ds with
 | .bad=>False
 | .ok d=>∀ v F' H',Ext F H F' H'->b5 K F' v d->Q v H'
 | .ex e=>∀ a C F' H',Ext F H F' H'->lD K mg F' e a C->E (.ref C) (some a) H'
def OB(P:P9)(w:W9)(K:Frag)(mg:Str->O9 V9)(base:Hz)(T:Hp)(f:Az)(F1:Hp)(k n:Nat)(G:L9 Dz->R Dz):Prop:=
 ∃ fd ps,ps.length=n/\cG K fd ps []/\c5 P w K mg base (d4 P w) k f fd ps (OK K mg T F1 n G)/\(keepIn K (.ref f)=true\/∃ oc od OZ sl,F1 f=some (mW f ⟨oc,od,.func OZ,sl⟩))
def g6(P:P9)(w:W9)(K:Frag)(mg:Str->O9 V9)(base:Hz)(T:Hp):Gb:=⟨OB P w K mg base T,T,w⟩
def nh(g:Gb)(K:Frag)(mg:Str->O9 V9)(n:Nat)(G:L9 A->R A):Sp:=λvs H Q E=>∃ F as,aH g.T F/\aH F H/\je g K mg F as vs/\as.length=n/\match G as with
 | .bad=>False
 | .ok a=>∀ v F' H',Ext F H F' H'->AF g K mg F' a v->Q v H'
 | .ex e=>∀ a C F' H',Ext F H F' H'->lD K mg F' e a C->E (.ref C) (some a) H'
def cE(P:P9)(w:W9)(K:Frag)(mg:Str->O9 V9)(base:Hz)(T:Hp)(k:Nat)(x:Str)(ps:L9 Str)(G:L9 A->R A):Prop:=Calls P w K mg base (d4 P w) k x ps (nh (g6 P w K mg base T) K mg ps.length G)
def aK(n:Nat)(G:L9 A->R A)(f:Sg->R (L9 A)):Sg->R A:=λY=>(f Y).bind λas=>if as.length=n then G as else .bad
theorem Et{X:Cx}{c:Ct}{E:XK}{e:Ez}{n:Nat}{G:L9 A->R A}{g:Gb}{K:Frag}{mg:Str->O9 V9}{f:Sg->R (L9 A)}(p:g=c.g)(t:K=c.K)(m:mg=c.mg)(h:PE X e (uI (nh g K mg n G) [] E (ya c E f))):PV X c E e (aK n G f):=PE.imp h λZ H Q b=>by
 obtain⟨Y,F,ab,k⟩:=b
 subst p t m
 refine⟨Y,F,ab,(Rk.bind k).imp λl _ q vs u H1 s1 r1=>?_⟩
 by_cases d:l.length=n
 .rw[AI d]at q
  refine⟨u,l,λa o z=>s1.ff a o (ab.f0 a o (ab.t0 a o z)),s1.fh,by simp_all,d,?_⟩
  cases j:G l with
  | bad=>rw[j]at q;exact q
  | ok a=>rw[j]at q;exact λv i H' s r=>Rk.ok q v i H' (s1.trans s) r
  | ex e=>rw[j]at q;exact λa C i H' s r=>q a C i H' ((ab.all.trans s1).trans s) r
 .rw[AM d]at q;exact q.elim
def du(n:Nat)(fb:Sg->R Fw):L9 A->R A:=λas=>(fb (as.map some++replicate (n - as.length) none)).bind λw=>match w with
 | .rt (.l _)=>.bad
 | .rt a=>.ok a
 | .nx _=>.ok (.d .none)
 | _=>.bad
theorem je.get{g:Gb}{K:Frag}{mg:Str->O9 V9}{F:Hp}:∀ {as:L9 A} {vs:L9 V} {i:Nat} {a:A},je g K mg F as vs->as[i]? = some a->∃ v,vs[i]? = some v/\AF g K mg F a v:=by
 intro as
 induction as with
 | nil=>intro _ _ _ _ e;simp at e
 | cons a as ih=>
  intro vs i _ h e
  cases vs with
  | nil=>exact h.elim
  | cons v vs=>
   cases i with
   | zero=>simp at e;subst e;exact⟨v,rfl,h.1⟩
   | succ i=>obtain⟨w,h1,h2⟩:=ih h.2 (by assumption);exact⟨w,by assumption,h2⟩
theorem sY{α:Type}{b:L9 α}{n i:Nat}{a:α}(h:(b.map some++replicate n none)[i]? = some (some a)):b[i]? = some a:=by ext
theorem w6{g:Gb}{cells:L9 (Str×Az)}{cls:Str->O9 ej}{K:Frag}{mg:Str->O9 V9}{w:W9}{F H:Hp}{c:L9 A}{vs:L9 V}{n:Nat}(d:aH g.T F)(s:aH F H)(h:je g K mg F c vs):Ab ⟨K,mg,w,F,H,g,cells,cls⟩ (c.map some++replicate (n - c.length) none) (vs.map some++replicate (n - vs.length) none) F H where
 len:=by rw[AY,AY,AL,AL,CQ,CQ,h.len]
 fh:=s
 slot:=λi a e=>by
  obtain⟨v,h1,h2⟩:=h.get (sY e)
  refine⟨v,?_,AO.of h2⟩
  have hi:i < vs.length:=(AH.mp h1).1
  rw[A8 (by rw[AL];exact hi),AZ,h1];rfl
 apart:=λi j a b _ e1 _ o _=>by
  obtain⟨v,h1,h2⟩:=h.get (sY e1)
  rw[AF.ua h2]at o
  cases o
 f0:=bP F
 h0:=bP H
 n0:=λa e n=>absurd e n
 t0:=d
theorem mY{g:Gb}{cells:L9 (Str×Az)}{cls:Str->O9 ej}{K:Frag}{mg:Str->O9 V9}{w:W9}{n:Nat}{fb:Sg->R Fw}{vs:L9 V}{c:L9 A}{F H:Hp}{Q:VK}{E:XK}(h0:aH g.T F)(h1:aH F H)(h2:je g K mg F c vs)(b:match du n fb c with
 | .bad=>False
 | .ok a=>∀ v F' H',Ext F H F' H'->AF g K mg F' a v->Q v H'
 | .ex e=>∀ a C F' H',Ext F H F' H'->lD K mg F' e a C->E (.ref C) (some a) H'):zc ⟨K,mg,w,F,H,g,cells,cls⟩ E fb {nx:=λ_ H'=>Q .fg H',rt:=Q} (vs.map some++replicate (n - vs.length) none) H:=by
 refine⟨_,F,w6 h0 h1 h2,?_⟩
 unfold du at b
 cases e:fb _ with
 | bad=>rw[e]at b;exact b
 | ex x=>rw[e]at b;exact b
 | ok w=>
  rw[e]at b
  cases w with
  | nx Y'=>exact λd F' H' s ab=>b .fg F' H' ab.all .fg
  | rt a=>
   cases a with
   | l xs=>exact b.elim
   | _=>exact b
  | bk Y'=>exact b.elim
  | ct Y'=>exact b.elim
section
variable{P:P9}{w:W9}{K:Frag}{mg:Str->O9 V9}{base:Hz}{T:Hp}{x:Str}{st:Stmt}{N ps:L9 Str}{k:Nat}
theorem RZ{fb:Sg->R Fw}(D:jv K mg x st ps)(S:cb N ps (aD st))
  (a:∀ (f:Az) (c_:V9) (A:U9) (outer:L9 Env) (s:S9) (H F:Hp) (E:XK),cw k (A.deeper (envOfC x (aD st) s.heap.objs.size f c_))->
   gc ((cR (d4 P w) P w K mg base N x (aD st) f c_ A outer s H E).mf E) ⟨K,mg,w,F,H,g6 P w K mg base T,(envOfC x (aD st) s.heap.objs.size f c_).cells,λ_=>none⟩ E (aT st) fb):cE P w K mg base T (k+1) x ps (du N.length fb):=by
 refine D.xc S (λvs H Q E h=>?_) (λf c_ A outer s H vs Q E hr h=>?_)
 .obtain ⟨F,c,h2⟩:=h
  rw[h2.2.2.1.len,h2.2.2.2.1]
 .obtain ⟨F,c,b⟩:=h
  exact⟨_,a f c_ A outer s H F E hr,mY b.1 b.2.1 b.2.2.1 b.2.2.2.2⟩
theorem cE.imp{G a:L9 A->R A}(C:cE P w K mg base T k x ps G)(h:∀ as,a as≠.bad->G as=a as):cE P w K mg base T k x ps a:=Calls.imp C λvs H Q E=>by
 rintro ⟨F,as,h0,h1,h2,h3,h4⟩
 refine⟨F,as,h0,h1,h2,h3,?_⟩
 ext
end
def sZ(cn:Str)(fs:L9 Str)(f:Sg->R (L9 Dz)):Sg->R Fw:=λY=>(f Y).bind λxs=>if xs.length=fs.length then .ex ⟨cn,fs.zip xs⟩else .bad
theorem jH{α β:Type}:∀ {xs:L9 α} {ys:L9 β},ys.length=xs.length->(xs.zip ys).map (·.1)=xs
 | [],_,_=>by rfl
 | x::xs,[],h=>by simp_all
 | x::xs,y::ys,h=>by simp at h;simp[jH h]
theorem jI{α β:Type}:∀ {xs:L9 α} {ys:L9 β},ys.length=xs.length->(xs.zip ys).map (·.2)=ys
 | [],[],_=>by rfl
 | [],_::_,h=>by simp_all
 | x::xs,[],h=>by rfl
 | x::xs,y::ys,h=>by simp at h;simp[jI h]
theorem qJ{X:Cx}{c:Ct}{E:XK}{st:Stmt}{cn:Str}{C:Az}{fs:L9 Str}{f:Sg->R (L9 Dz)}(l:c.mg cn=some (.ref C))(o:fs.length<=1000)(h:PS X st (Iu C (vn C fs) E (vm c E f))):gp X c E st (sZ cn fs f):=PS.imp h λD Z H i=>by
 obtain⟨Y,F,ab,k⟩:=i
 refine⟨Y,F,ab,(Rk.bind k).imp λxs _ q vs n H1 s1 r1=>?_⟩
 by_cases b:xs.length=fs.length
 .rw[AI b]at q
  have j:vs.length=fs.length:=by rw[r1.length,b]
  refine yI j (by simp_all) λe d m p a=>?_
  have g:Ext n H1 _ (upd H1 e (mv e C (some d))):=Ext.new s1.fh m
  refine q e C _ _ ((ab.all.trans s1).trans (g.trans (Ext.new g.fh (by rw[aE a];ext)))) ⟨l,some d,?_,.inr ⟨d,fs.zip vs,rfl,aI,?_,?_⟩⟩
  .rw[aE (BD a),aI]
  .rw[jH j,jH b]
  .rw[jI j,jI b]
   exact r1.same (g.trans (Ext.new g.fh (by rw[aE a];ext))).ff
 .rw[AM b]at q;exact q.elim
def x4(c:Ct)(E:XK)(f:Sg->R (O9 Int)):TO:=λZ H Q=>∃ Y F,Ab c Y Z F H/\Rk c E F H (f Y) λo=>∀ F' H',Ext F H F' H'->Q o H'
noncomputable def qf:Sg->R (O9 Int):=λ_=>.ok none
def qe(f:Sg->R Dz):Sg->R (O9 Int):=λY=>(f Y).bind λx=>match x with
 | .int i=>.ok (some i)
 | _=>.bad
noncomputable def kQ{α:Type}(xs:L9 α)(lo hi:O9 Int):L9 α:=(xs.drop (_b.fo xs.length 0 lo)).take (_b.fo xs.length xs.length hi - _b.fo xs.length 0 lo)
noncomputable def ia:Dz->O9 Int->O9 Int->R Dz
 | .list xs,lo,hi=>.ok (.list (kQ xs lo hi))
 | .tuple xs,lo,hi=>if ¬ (_b.fo xs.length 0 lo=0/\_b.fo xs.length xs.length hi=xs.length)then .ok (.tuple (kQ xs lo hi))else .bad
 | .str z,lo,hi=>if z.length<=16777216 then .ok (.str (Txt.slice z lo hi))else .bad
 | _,_,_=>.bad
def o_{α:Type}(g:Dz->O9 Int->O9 Int->R α)(f:Sg->R Dz)(lo hi:Sg->R (O9 Int)):Sg->R α:=λY=>(f Y).bind λx=>(lo Y).bind λl=>(hi Y).bind λh=>g x l h
theorem Nx{K:Frag}{F:Hp}{vs:L9 V}{xs:L9 Dz}(h:a_ K F vs xs)(lo hi:O9 Int):a_ K F (zN vs lo hi) (kQ xs lo hi):=by
 unfold zN kQ
 rw[h.length]
 exact(h.drop _).take _
theorem PO.imp{X:Cx}{e:O9 Ez}{t t':TO}(h:PO X e t)(i:∀ Z H Q,t' Z H Q->t Z H Q):PO X e t':=λav s Z H Q I q=>h av s Z H Q I (i Z H Q q)
section
variable{X:Cx}{c:Ct}{E:XK}{e a b:Ez}{pos p2:Pos}{lo hi:O9 Ez}
theorem Ky:PO X none (x4 c E qf):=PO.imp Va λZ H Q Y=>by obtain⟨Y,F,ab⟩:=Y;exact Rk.ok ab.2 F H (Ext.refl ab.1.fh)
theorem Kx{f:Sg->R Dz}(h:PR X c E e f):PO X (some e) (x4 c E (qe f)):=PO.imp (U_ h) λZ H Q ⟨Y,F,ab,k⟩=>⟨Y,F,ab,(Rk.bind k).imp λx _ q v a H' s r=>by
 cases x with
 | int i=>exact⟨i,aP.cA r,Rk.ok q a H' s⟩
 | _=>exact q.elim⟩
def JW(c:Ct)(Rb:VR α)(g:Dz->O9 Int->O9 Int->R α):V->O9 Int->O9 Int->Hp->VK->Prop:=λv lo hi H Q=>∃ F x d,aH F H/\aP c.K F H v x/\g x lo hi=.ok d/\∀ w F' H',Ext F H F' H'->Rb d w H F' H'->Q w H'
theorem Qy(o:X.K=c.K):Bl X (JW c (b6 c) ia):=by
 intro av s Z H v x n k lo hi sl Q I j i g f h
 obtain⟨F,d,w,b,m,a,q⟩:=h
 unfold ia at a
 split at a
 .cases a
  obtain⟨p,vs,rfl,h1,h2⟩:=aP.d3 b m
  rw[<-o]at h1
  exact U7 av s Z H _ x n k lo hi sl Q I j i g f ⟨p,vs,rfl,h1,λl e=>q _ _ _ (Ext.new b e) (.lst (d_.of aI) ((Nx h2 lo hi).same (aH.upd (aY b e))))⟩
 .split at a
  .cases a
   obtain⟨p,vs,rfl,_,h1,h2⟩:=aP.dz b m
   rw[<-o]at h1
   exact RV av s Z H _ x n k lo hi sl Q I j i g f ⟨p,vs,rfl,h1,by rw[h2.length];ext,λl e=>q _ _ _ (Ext.new b e) (.tup (fq.of aI) ((Nx h2 lo hi).same (aH.upd (aY b e))))⟩
  simp_all
 .split at a
  .cases a
   obtain rfl:=aP.df m
   exact RO av s Z H _ x n k lo hi sl Q I j i g f ⟨_,rfl,by assumption,q _ F H (Ext.refl b) (.str _)⟩
  simp_all
 simp_all
theorem Uo{Rb:VR α}{g:Dz->O9 Int->O9 Int->R α}(t:∀ x l h e,g x l h≠.ex e)(n:A_ Rb){f:Sg->R Dz}{j fh:Sg->R (O9 Int)}{Z:_a.St}{H:Hp}{Q:VK}(h:tV Rb c E (o_ g f j fh) Z H Q) :
  Ji (JW c Rb g) (tV (bG c) c E f) (x4 c E j) (x4 c E fh) Z H Q:=by
 obtain⟨Y,F,ab⟩:=h
 refine⟨Y,F,ab.1,(Rk.bind ab.2).imp λx _ q v p H1 s1 r1=>⟨Y,p,ab.1.ext s1,((Rk.bind q).ext s1).imp λl _ q m H2 a=>⟨Y,m,ab.1.ext (s1.trans a),((Rk.bind q).ext (s1.trans a)).imp λhh _ q k H3 b=>?_⟩⟩⟩
 cases i:g x l hh with
 | bad=>rw[i]at q;exact q.elim
 | ex e=>simp_all
 | ok d=>
  rw[i]at q
  exact⟨k,x,d,b.fh,aP.ext (a.trans b) r1,i,λw o H' s r=>Rk.ok q w o H' (((s1.trans a).trans b).trans s) (n _ _ _ _ _ _ ((s1.trans a).trans b).hh r)⟩
theorem Wr:∀ x l h e,ia x l h≠.ex e:=by intro x l h e q;unfold ia at q;split at q<;>(try split at q)<;>cases q
theorem Nw{f:Sg->R Dz}{a fh:Sg->R (O9 Int)}(d:X.K=c.K)(b:PR X c E e f)(g:PO X lo (x4 c E a))(i:PO X hi (x4 c E fh)):PD X c E (.Subscript e (.Slice lo hi none p2) pos) (o_ ia f a fh):=
 PE.imp (Wg (Qy d) b g i) λZ H Q h=>Uo Wr (oH c) h
noncomputable def OF:Dz->String
 | .none=>"NoneType"
 | .bool _=>"bool"
 | .int _=>"int"
 | .str _=>"str"
 | .list _=>"list"
 | .tuple _=>"tuple"
 | .dict _=>"dict"
noncomputable def j6(t T:String):Bool:=t == T || (T == "int" && t == "bool")
noncomputable def j7(T:String)(x:Dz):R Dz:=match x with
 | .dict _=>.bad
 | x=>.ok (.bool (j6 (OF x) T))
structure Fl(K:Frag)(T:String):Prop where
 fg:kitOne K (.type "NoneType") (.type T)=some (j6 "NoneType" T)
 bl:kitOne K (.type "bool") (.type T)=some (j6 "bool" T)
 int:kitOne K (.type "int") (.type T)=some (j6 "int" T)
 str:kitOne K (.type "str") (.type T)=some (j6 "str" T)
 lst:kitOne K (.type "list") (.type T)=some (j6 "list" T)
 tup:kitOne K (.type "tuple") (.type T)=some (j6 "tuple" T)
theorem Um(K:Frag):Fl K "int":=⟨rfl,rfl,rfl,rfl,rfl,rfl⟩
theorem Wq(K:Frag):Fl K "bool":=⟨rfl,rfl,rfl,rfl,rfl,rfl⟩
theorem UY(K:Frag):Fl K "str":=⟨rfl,rfl,rfl,rfl,rfl,rfl⟩
theorem Wo{X:Cx}:gV X (.builtin "isinstance") (λxs H Q=>∃ a ys c cv b,xs=[.ref a,c]/\d_ X.K H a ys/\sI c=some cv/\kitOne X.K (.type "list") cv=some b/\Q (.bl b) H):=by
 intro av s Z H xs us Q I r h
 obtain⟨a,ys,c,cv,b,rfl,d⟩:=h
 obtain⟨u,v,rfl,f,e⟩:=uG r
 obtain rfl:=zS d.2.1 e
 cases((f))
 obtain⟨i,g⟩:=I.list d.1
 obtain⟨o,h1⟩:=g.2.1.isList
 exact B5 FK I.ee ⟨o,h1.1,h1.2.1⟩ d.2.2.1 (λz=>nomatch z) λj=>⟨.bl b,H,I.tok _,rfl,d.2.2.2⟩
def JV(c:Ct)(T:String):L9 V->Hp->VK->Prop:=λxs H Q=>∃ F x v d,xs=[v,.ty T]/\aH F H/\aP c.K F H v x/\j7 T x=.ok d/\∀ w F' H',Ext F H F' H'->b5 c.K F' w d->Q w H'
theorem w7(g:X.K=c.K){T:String}(k:Fl X.K T):gV X (.builtin "isinstance") (JV c T):=by
 intro av s Z H xs us Q I r h
 obtain⟨F,x,v,d,rfl,a,f,e,q⟩:=h
 cases x with
 | dict _=>cases e
 | none=>
  cases e
  obtain rfl:=aP.qq f
  exact eW av s Z H _ us Q I r ⟨_,_,_,_,_,rfl,.pl .fg,rfl,k.fg,q _ F H (Ext.refl a) (.bl _)⟩
 | bool b=>
  cases e
  obtain rfl:=aP.kL f
  exact eW av s Z H _ us Q I r ⟨_,_,_,_,_,rfl,.pl (.bl b),rfl,k.bl,q _ F H (Ext.refl a) (.bl _)⟩
 | int b=>
  cases e
  obtain rfl:=aP.cA f
  exact eW av s Z H _ us Q I r ⟨_,_,_,_,_,rfl,.pl (.int b),rfl,k.int,q _ F H (Ext.refl a) (.bl _)⟩
 | str b=>
  cases e
  obtain rfl:=aP.df f
  exact eW av s Z H _ us Q I r ⟨_,_,_,_,_,rfl,.pl (.str b),rfl,k.str,q _ F H (Ext.refl a) (.bl _)⟩
 | tuple xs=>
  cases e
  obtain⟨p,vs,rfl,_,h1,h2⟩:=aP.dz a f
  rw[<-g]at h1
  exact Yn av s Z H _ us Q I r ⟨p,vs,_,_,_,rfl,h1,rfl,k.tup,q _ F H (Ext.refl a) (.bl _)⟩
 | list xs=>
  cases e
  obtain⟨p,vs,rfl,h1,h2⟩:=aP.d3 a f
  rw[<-g]at h1
  exact Wo av s Z H _ us Q I r ⟨p,vs,_,_,_,rfl,h1,rfl,k.lst,q _ F H (Ext.refl a) (.bl _)⟩
theorem Im{T:String}{f:Sg->R Dz}(h:PE X e (rg (JV c T) (bR (tV (bG c) c E f) (bR (tC (.ty T)) dP)))):PD X c E e (e1 (j7 T) f):=PE.imp h λZ H Q d=>by
 obtain⟨Y,F,ab,k⟩:=d
 refine⟨Y,F,ab,(Rk.bind k).imp λx _ q v b H1 s1 r1=>?_⟩
 cases x with
 | dict _=>exact q.elim
 | none=>exact⟨b,_,v,_,rfl,s1.fh,r1,rfl,λw a H' s r=>Rk.ok q w a H' (s1.trans s) r⟩
 | bool _=>exact⟨b,_,v,_,rfl,s1.fh,r1,rfl,λw a H' s r=>Rk.ok q w a H' (s1.trans s) r⟩
 | int _=>exact⟨b,_,v,_,rfl,s1.fh,r1,rfl,λw a H' s r=>Rk.ok q w a H' (s1.trans s) r⟩
 | str _=>exact⟨b,_,v,_,rfl,s1.fh,r1,rfl,λw a H' s r=>Rk.ok q w a H' (s1.trans s) r⟩
 | list _=>exact⟨b,_,v,_,rfl,s1.fh,r1,rfl,λw a H' s r=>Rk.ok q w a H' (s1.trans s) r⟩
 | tuple _=>exact⟨b,_,v,_,rfl,s1.fh,r1,rfl,λw a H' s r=>Rk.ok q w a H' (s1.trans s) r⟩
noncomputable def qZ:L9 Dz->O9 (L9 Str)
 | []=>some []
 | .str s::t=>(qZ t).map (s :: ·)
 | _=>none
theorem pF{F:Hp}:∀ {vs:L9 V} {xs:L9 Dz} {ys:L9 Str},a_ K F vs xs->qZ xs=some ys->vs=ys.map V.str
 | _,_,ys,.nil,e=>by cases e;rfl
 | _,_,ys,.cons (d:=d) (ds:=t) h h2,e=>by
  cases d with
  | str b=>
   unfold qZ at e
   cases q:qZ t with
   | none=>simp_all
   | some cs=>
    rw[q]at e
    cases e
    rw[pF h2 q,h.df];rfl
  | _=>cases e
noncomputable def Es:Dz->Dz->R Dz
 | .str sep,.list xs=>match qZ xs with
  | some ys=>if (ys.map λy=>y.length).sum+ys.length * sep.length<=16777216 then .ok (.str (Txt.join sep ys))else .bad
  | none=>.bad
 | _,_=>.bad
theorem UX{f g:Sg->R Dz}(l:X.K=c.K)(h:PE X e (x_ X.K "str" (KI X.K) (tV (bG c) c E f) (bR (tV (bG c) c E g) dP)))(m:∀ Y x,f Y=.ok x->∃ z,x=.str z):PD X c E e (e2 Es f g):=PE.imp h λZ H Q ⟨Y,F,ab,k⟩=>by
 refine⟨Y,F,ab,(Rk.bind k).imp λx ex q v n H1 s1 r1=>?_⟩
 obtain⟨z,rfl⟩:=m Y x ex
 obtain rfl:=aP.df r1
 refine⟨rfl,Y,n,ab.ext s1,((Rk.bind q).ext s1).imp λy _ q u i H2 b r2=>?_⟩
 cases y with
 | list xs=>
  have a:Rk c E F H (match qZ xs with
   | some ys=>if (ys.map λy=>y.length).sum+ys.length * z.length<=16777216 then R.ok _ else .bad
   | none=>.bad) (λd=>∀ v F' H',Ext F H F' H'->b6 c d v H F' H'->Q v H'):=q
  split at a
  .rename_i ys o
   split at a
   .rename_i j
    obtain⟨p,vs,rfl,h1,h2⟩:=aP.d3 b.fh r2
    rw[<-l]at h1
    obtain rfl:=pF h2 o
    exact⟨z,p,ys,rfl,rfl,h1,j,Rk.ok a _ i H2 (s1.trans b) (.str _)⟩
   .exact a.elim
  .exact a.elim
 | _=>exact q.elim
noncomputable def gM:Dz->Dz->R Dz
 | .str z,.str y=>match Builtin.Str.occurrences z y 0 z.length 1 with
  | i::_=>.ok (.int i)
  | []=>.bad
 | _,_=>.bad
theorem Wn{f g:Sg->R Dz}(h:PE X e (x_ X.K "str" Lu (tV (bG c) c E f) (bR (tV (bG c) c E g) dP)))(l:∀ Y x,f Y=.ok x->∃ z,x=.str z):PD X c E e (e2 gM f g):=PE.imp h λZ H Q ⟨Y,F,ab,k⟩=>by
 refine⟨Y,F,ab,(Rk.bind k).imp λx ex q v n H1 s1 r1=>?_⟩
 obtain⟨z,rfl⟩:=l Y x ex
 obtain rfl:=aP.df r1
 refine⟨rfl,Y,n,ab.ext s1,((Rk.bind q).ext s1).imp λy _ q u b H2 m r2=>?_⟩
 cases y with
 | str y=>
  have a:Rk c E F H (match Builtin.Str.occurrences z y 0 z.length 1 with
   | i::_=>R.ok _
   | []=>.bad) (λd=>∀ v F' H',Ext F H F' H'->b6 c d v H F' H'->Q v H'):=q
  split at a
  .rename_i i rest j
   obtain rfl:=aP.df r2
   exact⟨z,y,i,rest,rfl,rfl,j,Rk.ok a _ b H2 (s1.trans m) (.int _)⟩
  .exact a.elim
 | _=>exact q.elim
noncomputable def mG:Nat->L9 Dz->L9 Dz
 | _,[]=>[]
 | i,x::t=>.tuple [.int i,x]::mG (i+1) t
theorem j8:∀ (i:Nat) (xs:L9 Dz),(mG i xs).length=xs.length
 | _,[]=>rfl
 | i,x::t=>by rw[mG,AT,AT,j8]
theorem w8:∀ (k i:Nat) (xs:L9 Dz),(mG k xs)[i]? = (xs[i]?).map λx=>.tuple [.int ((k+i:Nat):Int),x]
 | k,i,[]=>by rfl
 | k,0,x::t=>by rfl
 | k,i+1,x::t=>by rw[mG,AK,AK,w8,show k+1+i=k+(i+1)by ext]
noncomputable def Ep:Dz->R (L9 Dz)
 | .list xs=>if xs.length<=16777216 then .ok (mG 0 xs)else .bad
 | .str z=>if z.cps.toList.length<=16777216 then .ok (mG 0 (z.cps.toList.map λu=>.str ⟨#[u]⟩))else .bad
 | _=>.bad
theorem Wm{F B:Hp}{a:Az}{vs:L9 V}(j:xs.length<=16777216)(c:∀ H1,aH F H1->aH B H1->d_ K H1 a vs)(f:a_ K F vs xs):v3 K (Jd K a) F B (mG 0 xs) where
 len:=by rw[iF,j8];exact j
 go:=λi h H1 h1 h2 b hi=>by
  rw[j8]at hi
  exact⟨vs,vs[i]'(by rw[f.length];exact hi),c H1 (λx o z=>h2 x o (h1 x o z)) b,by simp⟩
 oz:=λi h H1 v H2 x h1 h2 b y e=>by
  obtain⟨p,w,g,rfl,rfl,y⟩:=y
  have q:=y vs (c _ (λx o z=>h2 x o (h1 x o z)) b)
  obtain⟨d,e2,r⟩:=f.get q
  rw[w8,e2]at e
  cases e
  refine⟨_,Ext.new h2 g,.tup (fq.of aI) (.cons ?_ (.cons ((r.same h1).same (aH.upd (aY h2 g))) .nil))⟩
  rw[G0];exact .int _
 stop:=λh H1 h1 h2 b=>⟨vs,c H1 (λx o z=>h2 x o (h1 x o z)) b,by rw[f.length,j8];exact AG _⟩
theorem W0{F B:Hp}{z:Str}(d:z.cps.toList.length<=16777216):v3 K (Ja z) F B (mG 0 (z.cps.toList.map λu=>.str ⟨#[u]⟩)) where
 len:=by rw[iF,j8,AL];exact d
 go:=λi a H1 h1 h2 b hi=>by
  rw[j8,AL,EG]at hi
  exact hi
 oz:=λi a H1 v H2 x h1 h2 b y e=>by
  obtain⟨p,u,c,rfl,rfl,f⟩:=y
  rw[w8,AZ,D9,f]at e
  cases e
  refine⟨_,Ext.new h2 c,.tup (fq.of aI) (.cons ?_ (.cons (.str _) .nil))⟩
  rw[G0];exact .int _
 stop:=λa H1 h1 h2 b=>by
  show(mG 0 _).length=z.cps.size
  rw[j8,AL,EG]
theorem Ru{tg:Ez}{f:Sg->R Dz}(j:X.K=c.K)(h:PI X tg e (Ko X.K (bR (tV (b6 c) c E f) dP)))(h':PI X tg e (Ls (bR (tV (b6 c) c E f) dP))):v7 X c E tg e (e1 Ep f):=PI.imp (PI.or h h') λZ H Q ⟨Y,F,ab,k⟩=>by
 have b:=Rk.bind k
 cases a:f Y with
 | bad=>rw[a]at b;exact b.elim
 | ex x=>rw[a]at b;exact .inl ⟨Y,F,ab,by rw[a];exact b⟩
 | ok d=>
  rw[a]at b
  have k2:=Rk.ok b
  unfold Ep at k2
  split at k2
  .split at k2
   .rename_i g
    refine .inl ⟨Y,F,ab,?_⟩
    rw[a]
    intro v i H' s r
    obtain⟨p,vs,rfl,h1⟩:=b5.d3 r
    refine⟨p,rfl,⟨vs,?_⟩,?_⟩
    · rw [j]; exact h1.1.same s.fh
    · rw [j]; exact Rk.ok k2 _ i H' s (Wm g (λH1 q _ => h1.1.same q) h1.2)
   .exact k2.elim
  .rename_i z
   split at k2
   .rename_i g
    refine .inr ⟨Y,F,ab,?_⟩
    rw[a]
    intro v i H' s r
    obtain rfl:=b5.df r
    exact⟨z,rfl,Rk.ok k2 _ i H' s (W0 g)⟩
   .exact k2.elim
  .exact k2.elim
end
def j9(bd:L9 (Dz×Dz))(k:Dz):O9 Dz:=(bd.find? λp=>decide (p.1=k)).map (·.2)
def eU(bd:L9 (Dz×Dz))(k:Dz):Bool:=(j9 bd k).isSome
def iu(bd:L9 (Dz×Dz))(k v:Dz):L9 (Dz×Dz):=if eU bd k=true then bd.map (λp=>if p.1=k then(p.1,v)else p)else bd++[(k,v)]
theorem MS{K:Frag}{F:Hp}{k:Dz}:∀ {es:L9 Ent} {bd:L9 (Dz×Dz)},es.map (·.1)=bd.map (·.1)->a_ K F (es.map (·.2.2)) (bd.map (·.2))->
  (pL es k=none/\j9 bd k=none)\/∃ v d,pL es k=some v/\j9 bd k=some d/\b5 K F v d
 | [],[],_,_=>.inl ⟨rfl,rfl⟩
 | [],_::_,h,_=>by cases h
 | _::_,[],h,_=>by cases h
 | e::es,p::bd,h,r=>by
  rw[AV]at h r
  injection h with h1 h2
  obtain⟨v,t,e1,r1⟩:=r.cons_of
  rw[EL]at e1
  obtain⟨rfl,rfl⟩:=e1
  have a:=MS (k:=k) h2 r1.2
  unfold pL j9 at a ⊢
  rw[DI,DI,h1]
  by_cases q:p.1=k
  · rw [A2 q]; exact .inr ⟨_, _, rfl, rfl, r1.1⟩
  · rw [BB q]; ext
theorem dq.get{K:Frag}{F:Hp}{es:L9 Ent}{a:L9 (Dz×Dz)}(m:dq K F es a)(k:Dz):(pL es k=none/\j9 a k=none)\/∃ v d,pL es k=some v/\j9 a k=some d/\b5 K F v d:=MS m.k1 m.vs
theorem dq.has{K:Frag}{F:Hp}{es:L9 Ent}{c:L9 (Dz×Dz)}(m:dq K F es c)(k:Dz):(pL es k).isSome=eU c k:=by
 unfold eU
 rcases m.get k with ⟨a,b⟩|⟨v,d,a,b,_⟩<;>rw[a,b]<;>rfl
theorem w9{a:L9 (Dz×Dz)}{k:Dz}:eU a k=true↔k∈a.map (·.1):=by
 unfold eU j9
 simp
theorem WZ{a:L9 (Dz×Dz)}{k v:Dz}:(iu a k v).map (·.1)=if eU a k=true then a.map (·.1)else a.map (·.1)++[k]:=by
 unfold iu
 cases h:eU a k with
 | true=>
  rw[AI rfl,B1]
  refine CN λp _=>?_
  ext
 | false=>simp
theorem MR{K:Frag}{F:Hp}{k d:Dz}{v:V}(r:b5 K F v d):∀ {es:L9 Ent} {bd:L9 (Dz×Dz)},es.map (·.1)=bd.map (·.1)->a_ K F (es.map (·.2.1)) (bd.map (·.1))->a_ K F (es.map (·.2.2)) (bd.map (·.2))->
  (es.map λe=>if e.1=k then(e.1,e.2.1,v)else e).map (·.1)=(bd.map λp=>if p.1=k then(p.1,d)else p).map (·.1) /\
  a_ K F ((es.map λe=>if e.1=k then(e.1,e.2.1,v)else e).map (·.2.1)) ((bd.map λp=>if p.1=k then(p.1,d)else p).map (·.1)) /\
  a_ K F ((es.map λe=>if e.1=k then(e.1,e.2.1,v)else e).map (·.2.2)) ((bd.map λp=>if p.1=k then(p.1,d)else p).map (·.2))
 | [],[],_,_,_=>⟨rfl,.nil,.nil⟩
 | [],_::_,h,_,_=>by cases h
 | _::_,[],h,_,_=>by cases h
 | e::es,p::bd,h,rk,rv=>by
  rw[AV]at h rk rv
  injection h with h1 h2
  obtain⟨_,_,e1,r1⟩:=rk.cons_of
  rw[EL]at e1
  obtain⟨rfl,rfl⟩:=e1
  obtain⟨_,_,e1,b⟩:=rv.cons_of
  rw[EL]at e1
  obtain⟨rfl,rfl⟩:=e1
  obtain⟨c,a⟩:=MR r h2 r1.2 b.2
  simp only[AV]
  rw[h1,c]
  by_cases q:p.1=k
  · rw [AI q, AI q]; exact⟨rfl, .cons r1.1 a.1, .cons r a.2⟩
  · rw [AM q, AM q]; exact⟨by rw [h1], .cons r1.1 a.1, .cons b.1 a.2⟩
theorem dq.put{K:Frag}{F:Hp}{es:L9 Ent}{c:L9 (Dz×Dz)}{k d:Dz}{kv v:V}(m:dq K F es c)(i:b5 K F kv k)(r:b5 K F v d):dq K F (qR es k kv v) (iu c k d):=by
 have nd:((iu c k d).map (·.1)).Nodup:=by
  rw[WZ]
  cases h:eU c k with
  | true=>exact m.nd
  | false=>
   rw[AM (by decide),CV]
   refine⟨m.nd,by simp,λa g b f z=>?_⟩
   rw[AS]at f
   subst f z
   rw[w9.mpr g]at h
   ext
 unfold qR
 rw[(m.has k)]
 unfold iu at nd ⊢
 cases h:eU c k with
 | true=>
  rw[h]at nd
  obtain⟨j,e⟩:=MR r m.k1 m.k2 m.vs
  exact⟨j,e.1,e.2,nd⟩
 | false=>
  rw[h]at nd
  rw[AM (by decide),AM (by decide)]
  refine⟨by rw[BZ,BZ,m.k1];rfl,?_,?_,nd⟩
  .rw[BZ,BZ];exact m.k2.append (.cons i .nil)
  .rw[BZ,BZ];exact m.vs.append (.cons r .nil)
theorem oK{K:Frag}{F:Hp}:∀ {es:L9 Ent} {bd:L9 (Dz×Dz)},es.map (·.1)=bd.map (·.1)->a_ K F (es.map (·.2.1)) (bd.map (·.1))->∀ e∈es,b5 K F e.2.1 e.1
 | [],_,_,_,e,he=>by ext
 | _::_,[],h,_,_,_=>by cases h
 | e0::es,p::bd,h,rk,e,he=>by
  rw[AV]at h rk
  injection h with h1 h2
  obtain⟨_,_,e1,r1,r2⟩:=rk.cons_of
  rw[EL]at e1
  obtain⟨rfl,rfl⟩:=e1
  rcases AQ.mp he with z|z
  · ext
  · exact oK h2 r2 e z
section
variable{X:Cx}{c:Ct}{E:XK}{e a b:Ez}{st:Stmt}{pos:Pos}
theorem HN{Y:Sg}{Z:_a.St}{F H:Hp}{a:L9 (Dz×Dz)}{k:Dz}{kv:V}(d:X.K=c.K)(g:X.w=c.w)(ab:Ab c Y Z F H)(hi:Y[i]? = some (some (.m a)))(h:b5 c.K F kv k)(n:cZ k (a.map (·.1))=true) :
  ∃ p es,Z[i]? = some (some (.ref p))/\gv X H p es k kv/\dq c.K F es a:=by
 obtain⟨v,f,p,es,rfl,⟨ep,h2⟩,o,l,b⟩:=ab.slot i _ hi
 refine⟨p,es,f,⟨⟨ep,by rw[g];ext⟩,λe j=>by rw[d];exact(oK b.k1 b.k2 e j).same ab.fh,by rw[b.k1];exact b.nd,by rw[d];exact h.same ab.fh,by rw[b.k1];ext⟩,b⟩
theorem Ld{Y:Sg}{Z:_a.St}{F H:Hp}{a:L9 (Dz×Dz)}{k:Dz}{kv:V}(d:X.K=c.K)(j:X.w=c.g.w)(ab:Ab c Y Z F H)(hi:Y[i]? = some (some (.f a)))(l:b5 c.K F kv k)(n:cZ k (a.map (·.1))=true) :
  ∃ p es,Z[i]? = some (some (.ref p))/\gv X H p es k kv/\dq c.K F es a:=by
 obtain⟨v,h,p,es,rfl,⟨ep,h2⟩,b⟩:=ab.slot i _ hi
 refine⟨p,es,h,⟨⟨ep,by rw[j];exact ab.fh _ _ h2⟩,λe m=>by rw[d];exact(oK b.k1 b.k2 e m).same ab.fh,by rw[b.k1];exact b.nd,by rw[d];exact l.same ab.fh,by rw[b.k1];ext⟩,b⟩
def Kw(w:W9):TE:=λ_ H Q=>∀ p,H p=none->Q (.ref p) (upd H p (eS w p [] 0))
theorem UW:PE X (.Dict [] [] pos) (Kw X.w):=λav s Z H Q I h=>
 wpAny_Dict_empty ⟨.ref s.heap.objs.size,_,I.laid (λ_ _ q=>AB _ q) (AG _)
  (mV (beq_eq_false_iff_ne.mpr (BD (A0 I.big))) ⟨_,#[],AN _ rfl,⟨rfl,rfl,rfl⟩,rfl,.nil⟩),rfl,h _ (I.cj.fresh (AG _))⟩
noncomputable def mQ(i:Nat):Sg->R Fw:=λY=>.ok (.nx (Y.set i (some (.m []))))
theorem UU{w:W9}(b:w=c.w)(h:PS X st (jR (Kw w) (fQ i))):gp X c E st (mQ i):=PS.imp h λD Z H ⟨Y,F,ab,k⟩=>λp a=>by
 subst b
 exact Rk.ok k _ F _ (bP F) (ab.setM (Ext.own ab.fh a) a aI (aY ab.fh a) ⟨rfl,.nil,.nil,DS⟩)
def mH(neg:Bool)(i:Nat)(f:Sg->R Dz):Sg->R Dz:=λY=>(f Y).bind λk=>match Y[i]? with
 | some (some (.m bd))=>if cZ k (bd.map (·.1))=true then .ok (.bool (if neg=true then !eU bd k else eU bd k))else .bad
 | some (some (.f bd))=>if cZ k (bd.map (·.1))=true then .ok (.bool (if neg=true then !eU bd k else eU bd k))else .bad
 | _=>.bad
def Dw(X:Cx)(neg:Bool):R2:=λy x H Q=>∃ p es k,x=.ref p/\gv X H p es k y/\Q (.bl (if neg=true then !(pL es k).isSome else(pL es k).isSome)) H
theorem UT(b:X.A.units+64 < cLine):e_ X (compareOp .In) (Dw X false):=by
 intro av s Z H y x v u Q I d c h
 obtain⟨p,es,k,rfl,D⟩:=h
 cases((c))
 exact RF b D.1 I d λs' a=>⟨.bl _,H,a,rfl,D.2⟩
theorem VT(b:X.A.units+64 < cLine):e_ X (compareOp .NotIn) (Dw X true):=by
 intro av s Z H y x v u Q I d c h
 obtain⟨p,es,k,rfl,D⟩:=h
 cases((c))
 exact Uy b D.1 I d λs' a=>⟨.bl _,H,a,rfl,D.2⟩
theorem VS{a:Bool}{f:Sg->R Dz}(l:X.K=c.K)(k:X.w=c.w)(o:c.w=c.g.w){Z:_a.St}{H:Hp}{Q:VK}(h:tV (b6 c) c E (mH a i f) Z H Q):vk (Dw X a) (tV (b6 c) c E f) (bU i) Z H Q:=by
 obtain⟨Y,F,ab⟩:=h
 refine⟨Y,F,ab.1,(Rk.bind ab.2).imp λd _ q v n H1 s1 r1=>?_⟩
 split at q
 .rename_i j hi
  split at q
  .rename_i e
   obtain⟨p,es,b,D,m⟩:=HN l k (ab.1.ext s1) hi r1 e
   refine⟨_,b,p,es,d,rfl,D,?_⟩
   rw[m.has]
   exact Rk.ok q _ n H1 s1 (.bl _)
  .exact q.elim
 .rename_i j hi
  split at q
  .rename_i e
   obtain⟨p,es,b,D,m⟩:=Ld l (k.trans o) (ab.1.ext s1) hi r1 e
   refine⟨_,b,p,es,d,rfl,D,?_⟩
   rw[m.has]
   exact Rk.ok q _ n H1 s1 (.bl _)
  .exact q.elim
 .exact q.elim
theorem Lc{a:Bool}{f:Sg->R Dz}(b:X.K=c.K)(j:X.w=c.w)(h:PT X e (Ks (vk (Dw X a) (tV (b6 c) c E f) (bU i))))(d:autoParam (c.w=c.g.w) z3):rz X c E e (e1 dg (mH a i f)):=PT.imp h λZ H Q q=>VS b j d (zZ q)
def uU(i:Nat)(f:Sg->R Dz):Sg->R Dz:=λY=>match Y[i]? with
 | some (some (.m bd))=>(f Y).bind λk=>if cZ k (bd.map (·.1))=true then match j9 bd k with
  | some v=>.ok v
  | none=>.bad else .bad
 | some (some (.f bd))=>(f Y).bind λk=>if cZ k (bd.map (·.1))=true then match j9 bd k with
  | some v=>.ok v
  | none=>.bad else .bad
 | _=>.bad
def Km(X:Cx)(td ty:TE):TE:=λZ H Q=>td Z H λx H1=>ty Z H1 λy H2=>∃ p es k v,x=.ref p/\gv X H2 p es k y/\pL es k=some v/\Q v H2
theorem US{o i:Ez}{c ty:TE}(g:X.A.units+64 < cLine)(t:PE X o c)(hi:PE X i ty)(j:JN i):PE X (.Subscript o i pos) (Km X c ty):=by
 intro av s Z H Q I h
 refine UL PySem.F.slot_dict_getitem.lookup j (cz (t av s Z H _ I h) λu s1 ⟨x,H1,l,q,e⟩=>cz (hi av s1 Z H1 _ l e) λE z b=>?_)
 obtain⟨y,H2,d,r,p,es,k,v,ex,D,w,m⟩:=b
 subst ex
 obtain rfl:=q
 obtain⟨ep,f⟩:=D.o
 obtain⟨⟨_,o',ar,h1,h2,_⟩,_,_⟩:=((d.cj p _ f))
 exact⟨⟨o',h1,h2.1⟩,Ux g D d r w λB C n a=>⟨v,H2,n,a,m⟩⟩
theorem UR{f:Sg->R Dz}(x:X.K=c.K)(u:X.w=c.w)(h:PE X e (Km X (bU i) (tV (b6 c) c E f)))(A:autoParam (c.w=c.g.w) z3):PD X c E e (uU i f):=PE.imp h λZ H Q ⟨Y,F,ab,k⟩=>by
 unfold uU at k
 split at k
 .rename_i r hi
  obtain⟨_,l,p,es,rfl,_⟩:=ab.slot i _ hi
  refine⟨_,l,Y,F,ab,(Rk.bind k).imp λd _ q v s H1 s1 r1=>?_⟩
  split at q
  .rename_i o
   obtain⟨B,b,a,D,m⟩:=HN x u (ab.ext s1) hi r1 o
   rw[l]at a
   cases a
   split at q
   .rename_i w n
    rcases m.get d with ⟨_,z⟩|⟨j,y,h1,h2,t⟩
    .grind
    .rw[n]at h2
     cases h2
     exact⟨p,b,d,j,rfl,D,h1,Rk.ok q j s H1 s1 t⟩
   .exact q.elim
  .exact q.elim
 .rename_i r hi
  obtain⟨_,l,p,es,rfl,_⟩:=ab.slot i _ hi
  refine⟨_,l,Y,F,ab,(Rk.bind k).imp λd _ q v s H1 s1 r1=>?_⟩
  split at q
  .rename_i o
   obtain⟨B,b,a,D,m⟩:=Ld x (u.trans A) (ab.ext s1) hi r1 o
   rw[l]at a
   cases a
   split at q
   .rename_i w n
    rcases m.get d with ⟨_,z⟩|⟨j,y,h1,h2,t⟩
    .grind
    .rw[n]at h2
     cases h2
     exact⟨p,b,d,j,rfl,D,h1,Rk.ok q j s H1 s1 t⟩
   .exact q.elim
  .exact q.elim
 .exact k.elim
def lT(i:Nat)(f g:Sg->R Dz):Sg->R Fw:=λY=>(g Y).bind λv=>match Y[i]? with
 | some (some (.m bd))=>(f Y).bind λk=>if cZ k (bd.map (·.1))=true/\bd.length<=16777216 then .ok (.nx (Y.set i (some (.m (iu bd k v)))))else .bad
 | _=>.bad
def Kl(X:Cx):Ed:=λo i v H Q=>∃ p es k,o=.ref p/\gv X H p es k i/\es.length<=sizeLine/\∀ ep,Q (upd H p (eS X.w p (qR es k i v) ep))
theorem Nv(e:X.A.units+64 < cLine):Hs X (Kl X):=by
 intro av s Z H o i v f g u Q I d b c h
 obtain⟨p,es,k,rfl,D⟩:=h
 cases((d))
 exact Uw e D.1 I b c D.2.1 λep s' a=>⟨_,a,D.2.2 ep⟩
theorem Mp{f g:Sg->R Dz}(t:X.K=c.K)(n:X.w=c.w)(h:PS X st (jR (tV (b6 c) c E g) (Hq (bU i) (tV (b6 c) c E f) (Kl X)))):gp X c E st (lT i f g):=PS.imp h λD Z H ⟨Y,F,ab,k⟩=>by
 refine⟨Y,F,ab,(Rk.bind k).imp λx _ q v s H1 s1 r1=>?_⟩
 split at q
 .rename_i r hi
  obtain⟨_,j,p,es,rfl,_⟩:=(ab.ext s1).slot i _ hi
  refine⟨_,j,Y,s,(ab.ext s1),((Rk.bind q).ext s1).imp λd _ q u o H2 b r2=>?_⟩
  split at q
  .rename_i m
   obtain⟨y,l,a,e⟩:=HN t n ((ab.ext s1).ext b) hi r2 m.1
   rw[j]at a
   cases a
   refine⟨p,l,d,rfl,e.1,?_,?_⟩
   .have:=by have:=ES length e.2.k1;simpa using this
    rw[this];exact m.2
   .intro ep
    rw[n]
    exact Rk.ok q Z o _ (s1.trans b).ff (((ab.ext s1).ext b).iu hi j (e.2.put r2 (b5.same b.ff r1)))
  .exact q.elim
 .exact q.elim
end
theorem Nu{K:Frag}{a:Az}{vs:L9 V}{xs:L9 Dz}(m:_e.qK K a vs)(h:∀ F,a_ K F vs xs)(F:Hp):b5 K F (.ref a) (.tuple xs):=.tup (m.sq F) (h F)
section
variable{X:Cx}{c:Ct}{E:XK}{e a b:Ez}{st:Stmt}{pos p2:Pos}
def xA(fs:Dz->Sg->O9 Sg)(f:Sg->R Dz):Sg->R Fw:=λY=>(f Y).bind λx=>(yq (fs x Y)).bind λY'=>.ok (.nx Y')
theorem Rt{g:TG}{fs:Dz->Sg->O9 Sg}{f:Sg->R Dz}(i:Tg c g fs is)(h:PS X st (jR (tV (b6 c) c E f) g)):gp X c E st (xA fs f):=PS.imp h λD Z H a=>by
 obtain⟨Y,F,ab,k⟩:=a
 refine⟨Y,F,ab,(Rk.bind k).imp λx _ q v d H1 s1 r1=>?_⟩
 cases h1:fs x Y with
 | none=>rw[h1]at q;exact q.elim
 | some Y'=>
  rw[h1]at q
  exact i v x Y Y' Z d H1 _ (ab.ext s1) r1 h1 λe _ _ b=>Rk.ok q e d H1 s1.ff b
end
theorem Rq{P:P9}{w:W9}{K:Frag}{mg:Str->O9 V9}{base:Hz}{T:Hp}{x:Str}{st:Stmt}{N ps:L9 Str}{k:Nat}{f:Az}{fd:FuncData}{fb:Sg->R Fw}(c:jt K x x st f fd)(S:cb N ps (aD st))
  (a:∀ (c_:V9) (A:U9) (outer:L9 Env) (s:S9) (H F:Hp) (E:XK),cw k (A.deeper (envOfC x (aD st) s.heap.objs.size f c_))->
   gc ((cR (d4 P w) P w K mg base N x (aD st) f c_ A outer s H E).mf E) ⟨K,mg,w,F,H,g6 P w K mg base T,(envOfC x (aD st) s.heap.objs.size f c_).cells,λ_=>none⟩ E (aT st) fb):c5 P w K mg base (d4 P w) (k+1) f fd ps (nh (g6 P w K mg base T) K mg ps.length (du N.length fb)):=by
 refine c.xc S (λvs H Q E h=>?_) (λc_ A outer s H vs Q E hr h=>?_)
 .obtain ⟨F,d,h2⟩:=h
  rw[h2.2.2.1.len,h2.2.2.2.1]
 .obtain ⟨F,d,b⟩:=h
  exact⟨_,a c_ A outer s H F E hr,mY b.1 b.2.1 b.2.2.1 b.2.2.2.2⟩
def yQ(K:Frag)(T:Hp):Sp:=λvs H Q _=>∃ (a:Az) (ns:L9 Int),vs=[.ref a]/\ns.length<=63/\aH T H/\d_ K H a (ns.map V.int)/\∀ H',Q (.bl true) H'
theorem Nt{K:Frag}{H:Hp}:∀ (ns:L9 Int),a_ K H (ns.map V.int) (ns.map PyData.int)
 | []=>.nil
 | n::t=>.cons (.int n) (Nt t)
theorem Rp{P:P9}{w:W9}{K:Frag}{mg:Str->O9 V9}{base:Hz}{T:Hp}{k:Nat}{f:Az}{fd:FuncData}{x:Str}{G:L9 A->R A}(h:c5 P w K mg base (d4 P w) k f fd [x] (nh (g6 P w K mg base T) K mg 1 G))
  (b:∀ ns:L9 Int,ns.length<=63->G [.d (.list (ns.map .int))]=.ok (.d (.bool true))):c5 P w K mg base (d4 P w) k f fd [x] (yQ K T):=h.imp λvs H Q E=>by
 rintro ⟨a,ns,rfl,hn,ht,hs,q⟩
 refine⟨H,[.d _],ht,bP H,⟨.lst hs (Nt ns),trivial⟩,rfl,?_⟩
 rw[b ns hn]
 intro v c H' _ r
 obtain rfl:=b5.kL r
 exact q H'
theorem Qx(P:P9)(w:W9)(H:Hp)(s:S9)(e:V9)(s':S9)(h:d4 P w [] H s (λ_ _ _=>False) e s'):False:=by
 obtain⟨_,_,_,_,_,_,_,_,_,_,_,q⟩:=h
 ext
theorem UQ{l:OpenLaw}{k:Nat}{q:P9}{b:L9 Str}{v:(Str->O9 V9)->Hz->Prop}{m:W9->Hz->Prop}{d:DefRec}{K:Params->Frag}{x:Str}{qs:L9 (Pos×Str)}{xs:L9 Str}
  (c:∀ x∈xs,∃ d∈recsOf q,d.name=x) (xk:∀ w:W9,noTabs (K w.params)=true)
  (p:l.most=some 63) (g:d.params.defaults=[]) (hr:cw k callerA)
  (r:∀ (w:W9) (h:Hz),m w h->(K w.params).In h)
  (F:∀ (w:W9) (mg:Str->O9 V9) (fa:Az) (h:Hz),(K w.params).In h->h.Ns mainGlobals mg->mg d.name=some (.ref fa)->
   ∃ fd:FuncData,(∀ (s:S9) (u:V9),BindsTo s fd ⟨[u],[]⟩ [(x,u)]) /\
    ∀ (base:Hz) (T:Hp),(K w.params).In base->base.Ns mainGlobals mg->Be mg h base T qs xs->c5 l.prog w (K w.params) mg base (d4 l.prog w) k fa fd [x] (yQ (K w.params) T)) :
  WalkO q b v m l.row.toRowW d [] (λf vs=>PySem.call f vs):=
 V1 c xk p (by decide) g hr r (λw mg fa h h1 h2 i=>by
  obtain⟨fd,j⟩:=F w mg fa h h1 h2 i
  exact⟨fd,j.1,λbase T h1 h2 i=>⟨_,j.2 base T h1 h2 i,λH a ns t n o=>⟨a,ns,rfl,t,n,o,λ_=>rfl⟩⟩⟩) λw H s e s' z=>Qx _ w H s e s' z
variable{X:Cx}{c:Ct}{E:XK}{e:Ez}
noncomputable def d2(G:Int->Int->Int):Dz->Dz->R Dz
 | .int i,.int j=>.ok (.int (G i j))
 | _,_=>.bad
noncomputable def d1(G:Int->Int):Dz->R Dz
 | .int i=>.ok (.int (G i))
 | _=>.bad
noncomputable def nL(i j:Int):Int:=if j < i then j else i
def Ax(i:Int):Int:=if i < 0 then -i else i
theorem Ro{G:Int->Int->Int}{f g:Sg->R Dz}(h0:PE X e (rg (λxs H Q=>∃ i j,xs=[.int i,.int j]/\Q (.int (G i j)) H) (bR (tV (bG c) c E f) (bR (tV (bG c) c E g) dP)))):PD X c E e (e2 (d2 G) f g):=PE.imp h0 λZ H Q a=>by
 obtain⟨Y,F,ab,k⟩:=a
 refine⟨Y,F,ab,(Rk.bind k).imp λx ex q v h H1 s1 r1=>?_⟩
 refine⟨Y,h,ab.ext s1,((Rk.bind q).ext s1).imp λy _ q u b H2 d r2=>?_⟩
 cases x with
 | int i=>
  cases y with
  | int j=>
   obtain rfl:=aP.cA r1
   obtain rfl:=aP.cA r2
   exact⟨i,j,rfl,Rk.ok q _ b H2 (s1.trans d) (.int _)⟩
  | _=>exact q.elim
 | _=>exact q.elim
theorem UP{G:Int->Int}{f:Sg->R Dz}(h0:PE X e (rg (λxs H Q=>∃ i,xs=[.int i]/\Q (.int (G i)) H) (bR (tV (bG c) c E f) dP))):PD X c E e (e1 (d1 G) f):=PE.imp h0 λZ H Q a=>by
 obtain⟨Y,F,ab,k⟩:=a
 refine⟨Y,F,ab,(Rk.bind k).imp λx ex q v b H1 s1 r1=>?_⟩
 cases x with
 | int i=>
  obtain rfl:=aP.cA r1
  exact⟨i,rfl,Rk.ok q _ b H1 s1 (.int _)⟩
 | _=>exact q.elim
end _f
namespace _a
variable{X:Cx}
end _a
namespace _f
variable{X:Cx}{c:Ct}{E:XK}{e:Ez}
variable{X:Cx}{c:Ct}{E:XK}{e:Ez}{st:Stmt}
def JL:Sg->R Fw:=λ_=>.bad
end _f
namespace _a
theorem UO{w:W9}{A:U9}{t:Az}{ws:L9 V9}(k:PlainL s.heap t vs.toArray)(hb:PlainL s.heap b ws.toArray)
  (h2:Q (.ref s.heap.objs.size) {s with heap:=s.heap.push {cls:=.type "list",data:=.seq (vs++ws).toArray}})
  (hsz:vs.length+ws.length<=sizeLine):wpAny (model prog w) A (binaryOp .Add (.ref t) (.ref b)) Q E s:=by
 obtain⟨⟨cls,dd,data,sl⟩,n,j,l,_,o⟩:=id k
 obtain⟨⟨i,h,g,c⟩,m,a,d,_,f⟩:=id hb
 subst l o d f
 have e:vs.toArray++ws.toArray=(vs++ws).toArray:=by simp
 refine concat_meets ⟨_,j,rfl⟩ ⟨_,a,rfl⟩ noFill_list_add seq_list_add PySem.F.slot_list_add PySem.F.entry_list_add (PySem.F.args_list_add_2 _ _)
   (list_addW t b vs.toArray ws.toArray n m dd h sl c (by ext)) ⟨j,a,?_⟩
 rw[e]
 ext
theorem Mo(vs:L9 V9):∀ (n:Nat) (b0:L9 V9),(replicate n vs.toArray).foldl (· ++ ·) b0.toArray=(b0++(replicate n vs).flatten).toArray
 | 0,b0=>by simp
 | n+1,b0=>by
  rw[List.replicate_succ,GK,List.append_toArray,Mo vs n,List.replicate_succ,List.flatten_cons,C9]
end _a
namespace _f
section
variable{X:Cx}{c:Ct}{E:XK}{e a b:Ez}{pos:Pos}
theorem Nr{vs:L9 V}{d7:L9 V9}(h:aX vs d7):∀ n:Nat,aX (replicate n vs).flatten (replicate n d7).flatten
 | 0=>.nil
 | n+1=>h.append (Nr h n)
theorem N9{F:Hp}{vs:L9 V}(h:a_ K F vs xs):∀ n:Nat,a_ K F (replicate n vs).flatten (replicate n xs).flatten
 | 0=>.nil
 | n+1=>h.append (N9 h n)
noncomputable def tD:Dz->Dz->R (L9 Dz)
 | .list xs,.list ys=>if xs.length+ys.length<=sizeLine then .ok (xs++ys)else .bad
 | _,_=>.bad
theorem Ua(w:X.K=c.K):e_ X (binaryOp .Add) (mr (bG c) (bG c) (zY c) tD):=by
 intro av s Z H v u x y Q I p r h
 obtain⟨z,H1,F,a,b,d,f,t,n,e,q⟩:=h
 unfold tD at e
 split at e
 .split at e
  .cases e
   obtain⟨B,vs,rfl,i,l⟩:=aP.d3 f t
   obtain⟨A,us,rfl,k,g⟩:=aP.d3 f n
   rw[<-w]at i k
   cases p
   cases r
   obtain⟨o,r1⟩:=I.list i
   obtain⟨j,r2⟩:=I.list k
   have m:vs.length+us.length<=sizeLine:=by rw[l.length,g.length];ext
   refine UO r1.2.1 r2.2.1 ?_ (by rw[<-r1.1.length,<-r2.1.length];ext)
   exact⟨.ref _,_,I.xj (r1.1.append r2.1) (by simp_all),rfl,q _ F _ (Ext.own f I.fresh) ⟨_,_,rfl,I.fresh,aI,aY f I.fresh,l.append g⟩⟩
  simp_all
 simp_all
theorem WY:cV tD:=by
 intro a b e h
 unfold tD at h
 ext
theorem Rn(f:X.K=c.K){d fb:Sg->R Dz}(e:PR X c E a d)(hb:PR X c E b fb):PN X c E (.BinOp a .Add b pos) (e2 tD d fb):=
 PE.imp (Fd (Ua f) e hb) λZ H Q h=>zb yN WY (sS c) (QB c) h
end
theorem kB{H:Hp}{a b:HO}:upd (upd H p a) p b=upd H p b:=by
 funext x
 by_cases q:x=p
 · subst q; rw [aI, aI]
 · rw [aE q, aE q, aE q]
section
variable{X:Cx}{av:L9 (Az×Obj)}{Z:_a.St}{H:Hp}{s:S9}{a:Az}{es:L9 Ent}{k:Dz}{kv v:V}{ku u:V9}{A:U9}{E:V9->S9->Prop}
theorem XG{A:U9}(a:A.units+64 < cLine):(j4 X.prog X.w).room A:=by show A.units+9 < cLine;ext
theorem T_{Q:Unit->S9->Prop}(q:A.units+64 < cLine)(D:gv X H a es k kv)(I:Inv X av Z H s)(p:aR kv ku)(m:aR v u)(x:es.length<=sizeLine)(h:∀ ep s',Inv X av Z (upd H a (eS X.w a (qR es k kv v) ep)) s'->Q () s') :
  wpAny (model X.prog X.w) A (dictSet a ku u) Q E s:=by
 obtain⟨n,⟨b,xs,rfl,rfl,e,l,dd⟩|⟨y,xs,rfl,rfl,e,l,dd⟩⟩:=D.cases I p
 .refine wpAny_dictSet_heap (XG q) l dd (λh' d j=>?_) (by rw[<-Paired.length e];ext)
  obtain⟨f,ar,ep,c⟩:=d
  obtain⟨g,i⟩:=D.o
  refine h ep _ (uL I (by rw[i];exact True.intro) j ⟨f,c.1⟩ (mV n ⟨f,ar,c.1,c.2.1,c.2.2.1,?_⟩))
  rw[c.2.2.2.1]
  exact wW (KH m e)
 .refine wpAny_dictSet_pairs l dd (λh' d j=>?_) (by rw[<-Paired.length e];ext)
  obtain⟨f,ar,ep,c⟩:=d
  obtain⟨g,i⟩:=D.o
  refine h ep _ (uL I (by rw[i];exact True.intro) j ⟨f,c.1⟩ (mV n ⟨f,ar,c.1,c.2.1,c.2.2.1,?_⟩))
  exact wX (KD m e) c.2.2.2.2.1 λr t=>c.2.2.2.1 r (by simp_all)
end
abbrev TP:=_a.St->Hp->(L9 (V×V)->Hp->Prop)->Prop
def JK(p:V×V)(u:V9×V9):Prop:=aR p.1 u.1/\aR p.2 u.2
def vf(X:Cx)(keys:L9 (O9 Ez))(vals:L9 Ez)(t:TP):Prop:=∀ (pos:Pos) (av:L9 (Az×Obj)) (s:S9) (Z:_a.St) (H:Hp) (Q:L9 (V×V)->Hp->Prop),Inv X av Z H s->t Z H Q->
 wpAny (model X.prog X.w) X.A (evalPairs (pairTrees keys vals X.env pos)) (λvs s'=>∃ ps H',Inv X av Z H' s'/\Paired JK ps vs/\Q ps H') X.xe s
def Qw:TP:=λ_ H Q=>Q [] H
def Rm(tk tv:TE)(t:TP):TP:=λZ H Q=>tk Z H λx H1=>tv Z H1 λy H2=>t Z H2 λps H3=>Q ((x,y)::ps) H3
section
variable{X:Cx}{c:Ct}{E:XK}{e a b:Ez}{st:Stmt}{pos:Pos}
theorem Rl:vf X [] [] Qw:=λpos av s Z H Q I h=>evalPairs_nil ⟨[],H,I,.nil,h⟩
theorem T9{k v:Ez}{d:L9 (O9 Ez)}{vs:L9 Ez}{c tv:TE}{t:TP}(j:PE X k c)(m:PE X v tv)(hr:vf X d vs t):vf X (some k::d) (v::vs) (Rm c tv t):=by
 intro pos av s Z H Q I h
 refine evalPairs_cons (cz (j av s Z H _ I h) λku s1 a=>?_)
 obtain⟨x,H1,g,r1,f⟩:=a
 refine AA (cz (m av s1 Z H1 _ g f) λo e a=>?_)
 obtain⟨y,H2,l,r2,i⟩:=a
 refine AA (CZ (AC ?_))
 exact cz (hr pos av e Z H2 _ l i) λvs n ps=>by obtain⟨ps,H3,b⟩:=ps;exact⟨(x,y)::ps,H3,b.1,.cons ⟨r1,r2⟩ b.2.1,b.2.2⟩
def i8:L9 (Dz×Dz)->L9 (Dz×Dz)->R (L9 (Dz×Dz))
 | b0,[]=>.ok b0
 | b0,(k,v)::t=>if cZ k (b0.map (·.1))=true/\b0.length<=16777216 then i8 (iu b0 k v) t else .bad
def Hd(K:Frag)(F:Hp)(p:V×V)(d:Dz×Dz):Prop:=b5 K F p.1 d.1/\b5 K F p.2 d.2
theorem WX{Z:_a.St}{F:Hp}(n:X.A.units+64 < cLine)(b:L9 (Dz×Dz)):∀ (ps:L9 (V×V)) (vs:L9 (V9×V9)) (b0 res:L9 (Dz×Dz)) (es:L9 Ent) (ep:Nat) (H:Hp) (s:S9) (Q:S9->Prop),
  Inv X av Z H s->aH F H->F p=none->H p=some (eS X.w p es ep)->dq X.K F es b0->Paired (Hd X.K F) ps b->Paired JK ps vs->i8 b0 b=.ok res->
  (∀ yd Df s',Inv X av Z (upd H p (eS X.w p yd Df)) s'->dq X.K F yd res->Q s')->wpAny (model X.prog X.w) X.A (storeAll p vs) (λ_ s=>Q s) X.xe s:=by
 induction b with
 | nil=>
  intro ps vs b0 res es ep H s Q I c f i m d r e q
  cases d
  cases r
  cases e
  refine AC (q es ep s ?_ m)
  have:upd H p (eS X.w p es ep)=H:=by
   funext x
   by_cases z:x=p
   .subst z;rw[aI,i]
   .rw[aE z]
  ext
 | cons kv t ih=>
  intro ps vs b0 res es ep H s Q I c f i m d r e q
  cases d with
  | @cons x _ ps _ d ds=>
   cases r with
   | @cons _ u _ vs r rs=>
    unfold i8 at e
    split at e
    .rename_i j
     have v:es.length<=sizeLine:=by
      have:=by simpa using congrArg length m.k1
      rw[this];exact j.2
     have h:storeAll p (u::vs)=(do dictSet p u.1 u.2;storeAll p vs):=by
      unfold storeAll
      simp
     rw[h]
     refine AA (T_ n (⟨⟨ep,i⟩,λe l=>(oK m.k1 m.k2 e l).same c,by rw[m.k1];exact m.nd,d.1.same c,by rw[m.k1];exact j.1⟩) I r.1 r.2 v λC s' k=>?_)
     refine ih ps vs _ res _ _ _ s' Q k (λa o z=>by rw[aE (aW z f)];exact c a o z) f aI (m.put d.1 d.2) ds rs e λyd Df B g y=>?_
     rw[kB]at g
     ext
    .cases e
def Kk(X:Cx)(tp:TP):TE:=λZ H Q=>∀ p,H p=none->tp Z (upd H p (eS X.w p [] 0)) λps H2=>∃ (F:Hp) (bd res:L9 (Dz×Dz)),aH F H2/\F p=none/\H2 p=some (eS X.w p [] 0)/\Paired (Hd X.K F) ps bd/\i8 [] bd=.ok res /\
 ∀ yd Df,dq X.K F yd res->Q (.ref p) (upd H2 p (eS X.w p yd Df))
theorem T8{a:L9 (O9 Ez)}{b:L9 Ez}{k:TP}(o:X.A.units+64 < cLine)(h:vf X a b k)(h1:autoParam ((a.all λx=>x.isSome)=true) z3)(h2:autoParam (a.length=b.length) z3)(h3:a≠[]:=by exact λz=>nomatch z)(h4:autoParam (a.length<=15) z5):PE X (.Dict a b pos) (Kk X k):=by
 intro av s Z H Q I q
 have p:=I.laid (t':=s.toks) (λ_ _ q=>AB {cls:=.type "dict",data:=.dict #[]} q) (AG _)
  (mV (beq_eq_false_iff_ne.mpr (BD (A0 I.big))) ⟨_,#[],AN _ rfl,⟨rfl,rfl,rfl⟩,rfl,.nil⟩)
 refine wpAny_Dict_any h1 h2 h3 h4 (cz (h pos av _ Z _ _ p (q _ (I.cj.fresh (AG _)))) λvs w i=>?_)
 obtain⟨ps,H2,v,r,F,g,f,u,n,t,d,e,z⟩:=i
 exact WX o g ps vs [] f [] 0 H2 w _ v u n t ⟨rfl,.nil,.nil,DS⟩ d r e λj c s' l m=>⟨.ref s.heap.objs.size,_,l,rfl,z j c m⟩
def JJ(c:Ct)(E:XK)(f:Sg->R (L9 (Dz×Dz))):TP:=λZ H Q=>∃ Y F,Ab c Y Z F H/\Rk c E F H (f Y) λbd=>∀ ps F' H',Ext F H F' H'->Paired (Hd c.K F') ps bd->Q ps H'
abbrev Fi(X:Cx)(c:Ct)(E:XK)(keys:L9 (O9 Ez))(vals:L9 Ez)(f:Sg->R (L9 (Dz×Dz))):Prop:=vf X keys vals (JJ c E f)
theorem vf.imp{X:Cx}{a:L9 (O9 Ez)}{vs:L9 Ez}{t t':TP}(h:vf X a vs t)(i:∀ Z H Q,t' Z H Q->t Z H Q):vf X a vs t':=λpos av s Z H Q I q=>h pos av s Z H Q I (i Z H Q q)
noncomputable def Hc:Sg->R (L9 (Dz×Dz)):=λ_=>.ok []
def HM(f g:Sg->R Dz)(r:Sg->R (L9 (Dz×Dz))):Sg->R (L9 (Dz×Dz)):=λY=>(f Y).bind λx=>(g Y).bind λy=>(r Y).bind λt=>.ok ((x,y)::t)
theorem T7:Fi X c E [] [] Hc:=vf.imp Rl λZ H Q Y=>by obtain⟨Y,F,ab⟩:=Y;exact Rk.ok ab.2 [] F H (Ext.refl ab.1.fh) .nil
theorem VQ{k v:Ez}{e:L9 (O9 Ez)}{vs:L9 Ez}{f g:Sg->R Dz}{r:Sg->R (L9 (Dz×Dz))}(i:PD X c E k f)(l:PD X c E v g)(hr:Fi X c E e vs r):Fi X c E (some k::e) (v::vs) (HM f g r):=vf.imp (T9 i l hr) λZ H Q b=>by
 obtain⟨Y,F,ab,k⟩:=b
 refine⟨Y,F,ab,(Rk.bind k).imp λx _ q v n H1 s1 r1=>?_⟩
 refine⟨Y,n,ab.ext s1,((Rk.bind q).ext s1).imp λy _ q u j H2 a r2=>?_⟩
 refine⟨Y,j,ab.ext (s1.trans a),((Rk.bind q).ext (s1.trans a)).imp λt _ q ps h H3 d m=>?_⟩
 exact Rk.ok q _ h H3 ((s1.trans a).trans d) (.cons ⟨b5.same (a.trans d).ff r1,b5.same d.ff r2⟩ m)
def Eo(i:Nat)(f:Sg->R (L9 (Dz×Dz))):Sg->R Fw:=λY=>(f Y).bind λbd=>(i8 [] bd).bind λres=>.ok (.nx (Y.set i (some (.m res))))
theorem N8:∀ (bd b0:L9 (Dz×Dz)) (x:Er),i8 b0 bd≠.ex x
 | [],b0,x,h=>by cases h
 | (k,v)::t,b0,x,h=>by
  unfold i8 at h
  split at h
  · exact N8 t _ x h
  simp_all
theorem T6{f:Sg->R (L9 (Dz×Dz))}(t:X.K=c.K)(v:X.w=c.w)(h:PS X st (jR (Kk X (JJ c E f)) (fQ i))):gp X c E st (Eo i f):=PS.imp h λD Z H ⟨Y,F,ab,k⟩=>λp d=>by
 have e1:=Ext.own (o:=eS X.w p [] 0) ab.fh d
 refine⟨Y,F,ab.ext e1,((Rk.bind k).ext e1).imp λg _ q ps j H2 b r2=>?_⟩
 have r:=b.d6 (aY ab.fh d) aI (λ_ z=>ND z)
 cases e:i8 [] g with
 | bad=>rw[e]at q;exact q.elim
 | ex x=>exact absurd e (N8 _ _ _)
 | ok res=>
  rw[e]at q
  refine⟨j,g,res,b.fh,r,(b.hh _ _ aI),by rw[t];ext,e,λs l m=>?_⟩
  have u:Ext F H j (upd H2 p (eS X.w p s l)):=by
   refine⟨λa o z=>?_,b.ff,λa o z=>?_,λa z n=>?_⟩
   .rw[aE (aW z d)]
    exact b.hh a o (by rw[aE (aW z d)];ext)
   .rw[aE (aW z r)];exact b.fh a o z
   .have:=b.nw a z n
    by_cases w:a=p
    · ext
    · unfold oG at this; rw [aE w]at this; exact this
  rw[v]at u ⊢
  rw[t]at m
  exact Rk.ok q _ j _ b.ff (ab.setM u d aI r m)
end
end _f
variable{Wc:Az}
namespace _a
variable{Z:St}{H:Hp}
def yp(X:Cx)(Z0:St)(E:XK)(ev:V9)(s':S9):Prop:=∃ e C od H',ev=.ref e/\Inv X [] Z0 H' s'/\mn X H' s'.heap e C od false/\E (.ref C) (some e) H'
abbrev Cx.qu(X:Cx)(Z0:St)(E:XK):Cx:=X.gw (yp X Z0 E)
section
variable{X:Cx}
theorem Qv{E:XK}(I:Inv (X.qu Z E) av Z H s)(h:d4 X.prog X.w X.stack H s E ev s'):yp X Z E ev s':=by
 obtain⟨e,C,od,H',rfl,os,a,un,d,k,⟨vs,T,g,l,i⟩,q⟩:=h
 refine⟨e,C,od,H',rfl,((I.cx.ez λp c=>absurd c (by simp)).uk os un d a (λb j=>absurd j (by simp))),⟨k,vs,T,g,l,λt e1=>?_,λz=>nomatch z⟩,q⟩
 have f:=i t e1
 refine⟨f.1,A6 I.cx.sz f.2,λp c z=>?_⟩
 have:=AE (I.cx.pin p (C6 _ c)).1
 ext
theorem T5{CX:nr}{fd:FuncData}{sp:Sp}{E:XK}{Q:VK}{vs:L9 V}{W:V9->S9->Prop}(F:c5 X.prog X.w X.K X.mg X.base CX k f fd ps sp)(hr:cw k X.A)(hb:cG X.K fd ps [])
  (hx:∀ e s',CX X.stack H s E e s'->W e s') (I:Inv X av Z H s) (r:aX vs us) (h:sp (vs++[]) H Q E):wpAny (model X.prog X.w) X.A (call (.ref f) us) (EP X av Z Q) W s:=by
 refine DO (DF (F.run X.A X.stack s H _ _ _ Q E hr I.ue (hb s us I.ee (by rw[<-(r.append .nil).length];exact F.len _ _ _ _ h)) (r.append .nil) h) λr s' a=>?_)
 cases r with
 | error e=>exact hx e s' a
 | ok fl=>
  cases fl with
  | ret u=>exact I.after a
  | next=>assumption
  | brk=>assumption
  | cont=>assumption
def IZ(X:Cx)(Z:St)(E:XK)(e:Ez)(t:TE):Prop:=∀ (av:L9 (Az×Obj)) (s:S9) (H:Hp) (Q:VK),Inv (X.qu Z E) av Z H s->t Z H Q->wpAny (model X.prog X.w) X.A (eval e X.env) (EP (X.qu Z E) av Z Q) (yp X Z E) s
theorem Lb{sp:Sp}{E:XK}{e:Ez}{es:L9 Ez}{t:TA}{p pos:Pos}(C:Calls X.prog X.w X.K X.mg X.base (d4 X.prog X.w) k x ps sp)(hr:cw k X.A)(d:Gl X x)(c:PA (X.qu Z E) (e::es) t)(b:autoParam ((x == ("__debug__":Str))=false) z5)
  (he:autoParam (starEach (e::es) X.env=(false,eval e X.env)::starEach es X.env) z3) (gk:autoParam ((backTo pos (starEach es X.env)).any (·.1)=false) z3):IZ X Z E (.Call (.Name x p) (e::es) [] pos) (uI sp [] E t):=by
 obtain⟨f,fd,F⟩:=C
 intro av s H Q I h
 refine B2 (iC (X:=X.qu Z E) I d F.2.2.1 ?_ b)
 refine B3 I.ok.mod.jy F.2.2.2 (cz (c pos av s Z H _ I h) λus s1 ⟨vs,H1,a,r,q⟩=>⟨a.ee,?_⟩) he gk
 exact T5 (X:=X.qu Z E) F.1 hr F.2.1 (λe s' z=>Qv a z) a r q
theorem Qu{n:Str}{p:L9 V9}{a:L9 Stmt}{J:Stmt}{m pos:Pos}(R:yH X)(h:X.N.Nodup)(hi:X.N[i]? = some n)(g:X.env.scope.names.lookup n=some .local)
  (S:Gl X x) (V:X.mg x=some (.ref Wc)) (hw:_d.f_ X.K Wc p) (F:(x == ("__debug__":Str))=false)     {D:iL} {E:XK} (I:Inv X av Z H s)
  (hb:wpAny (model X.prog X.w) X.A (execs body X.env) (λf s1=>SP X av D f s1) (yp (X.qd (X.pn++av)) Z E) s)
  (L:∀ (C e:Az) (H':Hp),(∃ od,H' e=some (mv e C od))->E (.ref C) (some e) H'->∃ bm,_d.f_ X.K C bm/\(Value.ref C::bm).contains (.ref Wc)=true /\
   ∃ ts,ix (X.sm e) (J::a) ts/\ts {nx:=λj H2=>D.nx (j.set i none) H2,rt:=D.rt,bk:=λj H2=>D.bk (j.set i none) H2,ct:=λj H2=>D.ct (j.set i none) H2} (Z.set i (some (.ref e))) H') :
  wpAny (model X.prog X.w) X.A (exec (.Try body [.ExceptHandler (some (.Name x np)) (some n) (J::a) m] [] [] pos) X.env) (SP X av D) X.xe s:=by
 refine wpAny_Try_except (BI hb (λf s1 T=>?_) λev s1 q=>?_)
 .cases f with
  | next=>exact DZ T
  | brk=>ext
  | cont=>ext
  | ret u=>ext
 .obtain ⟨e,C,od,H1,rfl,y⟩:=q
  refine qI (X:=X.qd (X.pn++av)) R y.1 y.2.1 λs3 U Y=>pD (X:=X.qd (X.pn++av)) U Y λs4 o t=>?_
  obtain⟨bm,P,k,ts,l⟩:=L C e H1 ⟨od,t.tr⟩ y.2.2
  refine wpAny_handleBy_cons (codeAny_handlers_test ?_) (by intro z;cases z)
  refine iC (o.my.sm e) S V ?_ F
  obtain⟨vs,O⟩:=pC o.my.cj t.tr
  refine _d.Yh o.my.ee P hw O rfl ?_
  rw[k]
  refine codeAny_handlers_suite_as ?_
  refine pD (X:=X.qd (X.pn++av)) o t λs5 Q f5=>?_
  refine m6 (X:=X.sm e) (v:=.ref e) (Q.my.sm e) h hi (.inl g) rfl (λW M=>?_) (.inr g)
  refine BI (l.1 av W _ H1 _ M l.2) (λf s7 b=>?_) λ_ _ z=>z.elim
  cases f with
  | next=>
   obtain⟨r,B,c,b⟩:=b
   exact n6 (c.Ce I.ok) h hi g λG d=>⟨_,_,d,b⟩
  | brk=>
   obtain⟨r,B,c,b⟩:=b
   exact n6 (c.Ce I.ok) h hi g λG d=>⟨_,_,d,b⟩
  | cont=>
   obtain⟨r,B,c,b⟩:=b
   exact n6 (c.Ce I.ok) h hi g λG d=>⟨_,_,d,b⟩
  | ret u=>
   obtain⟨v,r,B,c⟩:=b
   exact n6 (c.1.Ce I.ok) h hi g λG d=>⟨v,_,_,d,c.2.1,c.2.2⟩
theorem WW{e:Ez}{t:TE}{E:XK}{pos:Pos}{D:iL}(c:IZ (X.qd (X.pn++av)) Z E e t)(I:Inv X av Z H s)(h:t Z H λ_ H1=>D.nx Z H1)(d:autoParam (swapsWith e none pos.line X.env=pure false) z3) :
  wpAny (model X.prog X.w) X.A (execs [.Expr e pos] X.env) (λf s1=>SP X av D f s1) (yp (X.qd (X.pn++av)) Z E) s:=by
 have b:=I.Fu
 have a:Inv ((X.qd _).qu Z E) [] Z H s:=b.gw _
 refine EA (cz (Q:=λf s1=>SP _ [] D f s1) (wpAny_Expr_any (cz (c [] s H _ a h) λv s1 x=>by obtain⟨x,H1,b⟩:=x;exact⟨Z,H1,b.1,b.2.2⟩) a.quiet d) λf s1 q=>?_)
 have g:=SP.my q
 cases f with
 | next=>exact DZ g
 | ret v=>ext
 | brk=>ext
 | cont=>ext
end
end _a
namespace _f
variable{G:L9 A->R A}
theorem Ab.xf{c:Ct}{Y:Sg}{Z:_a.St}{F H:Hp}(b:Ab c Y Z F H)(i:Nat):Ab c (Y.set i none) (Z.set i none) F H where
 len:=by rw[BJ,BJ];exact b.len
 fh:=b.fh
 slot:=λj a h=>by
  rcases get_set h with ⟨e,q,n⟩|⟨g,q⟩
  .cases q
  .obtain ⟨v,h1,h2⟩:=b.slot j a q
   exact⟨v,by rw[A1 g];exact h1,h2⟩
 apart:=λj k a o l h1 h2 r m=>by
  rcases get_set h1 with ⟨e,q,n⟩|⟨g,q⟩
  .cases q
  .rcases get_set h2 with ⟨s,f,p⟩|⟨d,f⟩
   .cases f
   .rw[A1 g,A1 d]
    exact b.apart j k a o l q f r m
 f0:=b.f0
 h0:=b.h0
 n0:=b.n0
 t0:=b.t0
noncomputable def JI(i:Nat):Fw->Fw
 | .nx Y=>.nx (Y.set i none)
 | .bk Y=>.bk (Y.set i none)
 | .ct Y=>.ct (Y.set i none)
 | .rt a=>.rt a
noncomputable def tx(j:O9 Nat)(a:A)(Y:Sg):Sg:=match j with
 | none=>Y
 | some j=>Y.set j (some a)
def xB(i:Nat)(j:O9 Nat)(n:Nat)(G:L9 A->R A)(f:Sg->R (L9 A))(cl:L9 Str)(fs:Sg->R Fw):Sg->R Fw:=λY=>match f Y with
 | .ok as=>if as.length=n then(match G as with
  | .bad=>.bad
  | .ok a=>.ok (.nx (tx j a Y))
  | .ex e=>if cl.contains e.c=true then(fs (Y.set i (some (.x e)))).bind λw=>.ok (JI i w)else .bad)else .bad
 | _=>.bad
def lF(K:Frag)(mg:Str->O9 V9)(Wc:Az)(cl:L9 Str):Prop:=∀ nm∈cl,∃ C bm,mg nm=some (.ref C)/\_d.f_ K C bm/\(Value.ref C::bm).contains (.ref Wc)=true
section
variable{X:Cx}{c:Ct}{E:XK}
theorem VP{j:O9 Nat}{nx:Str}{L:L9 V9}{d:L9 Stmt}{W:Stmt}{y pos:Pos}{f:Sg->R (L9 A)}{cl:L9 Str}{fs:Sg->R Fw}(S:X.K=c.K)(J:X.mg=c.mg)
  (hO:yH X) (hN:X.N.Nodup) (hi:X.N[i]? = some nx) (hk:X.env.scope.names.lookup nx=some .local) (hg:Gl X x) (hm:X.mg x=some (.ref Wc)) (hw:_d.f_ X.K Wc L) (O:(x == ("__debug__":Str))=false)
  (M:lF X.K X.mg Wc cl)
  (hb:∀ (av:L9 (Az×Obj)) (s:S9) (Z:_a.St) (H:Hp) (D:iL) (E':XK),Inv X av Z H s->uI (nh c.g X.K X.mg n G) [] E' (ya c E f) Z H (λv H1=>D.nx (match j with|none=>Z|some j=>Z.set j (some v)) H1)->wpAny (model X.prog X.w) X.A (execs body X.env) (λf s1=>SP X av D f s1) (yp (X.qd (X.pn++av)) Z E') s)
  (hs:∀ e,gc (X.sm e) c E (W::d) fs):gp X c E (.Try body [.ExceptHandler (some (.Name x np)) (some nx) (W::d) y] [] [] pos) (xB i j n G f cl fs):=by
 intro av s Z H D I h
 obtain⟨Y,F,ab,k⟩:=h
 unfold xB at k
 cases B:f Y with
 | bad=>rw[B]at k;exact k.elim
 | ex z=>rw[B]at k;exact k.elim
 | ok as=>
  rw[B]at k
  simp only at k
  by_cases Q:as.length=n
  .rw[AI Q]at k
   let E':XK:=λcv oa H'=>∃ C a e l,cv=.ref C/\oa=some a/\Ext F H l H'/\lD c.K c.mg l e a C/\G as=.ex e
   refine Qu hO hN hi hk hg hm hw O I (hb av s Z H D E' I ?_) ?_
   .refine ⟨Y,F,ab,?_⟩
    rw[B]
    intro vs F1 H1 s1 r1
    refine⟨F1,as,λa o z=>s1.ff a o (ab.f0 a o (ab.t0 a o z)),s1.fh,by rw[CO,S,J];ext,Q,?_⟩
    cases r:G as with
    | bad=>rw[r]at k;exact k
    | ok a=>
     rw[r]at k
     intro v l H' s' m
     rw[S,J]at m
     have u:=(ab.ext (s1.trans s'))
     refine Rk.ok k _ l H' (s1.trans s').ff ?_
     cases j with
     | none=>exact u
     | some j=>exact u.qo m
    | ex e=>
     intro a C l H' s' m
     rw[S,J]at m
     exact⟨C,a,e,l,rfl,rfl,s1.trans s',m,r⟩
   .rintro C e H' ⟨od,_⟩ ⟨C',a,er,l,h1,h2,s',m,r⟩
    cases h1
    cases h2
    rw[r]at k
    simp only at k
    by_cases P:cl.contains er.c=true
    .rw[AI P]at k
     obtain⟨C2,bm,T,V⟩:=M er.c (by simpa using P)
     rw[J,(id m).1]at T
     cases T
     refine⟨bm,V.1,V.2,_,hs e,Y.set i (some (.x er)),l,(ab.ext s').qo ⟨e,C,rfl,m⟩,?_⟩
     refine((Rk.bind k).ext s').imp λw _ q=>?_
     cases w with
     | nx Y2=>exact λU p H2 t b=>Rk.ok q _ p H2 (λa o z=>t a o (s'.ff a o z)) (b.xf i)
     | bk Y2=>exact λU p H2 t b=>Rk.ok q _ p H2 (λa o z=>t a o (s'.ff a o z)) (b.xf i)
     | ct Y2=>exact λU p H2 t b=>Rk.ok q _ p H2 (λa o z=>t a o (s'.ff a o z)) (b.xf i)
     | rt a=>assumption
    .rw[AM P]at k;exact k.elim
  .rw[AM Q]at k;exact k.elim
theorem Mn{i:Nat}{nx:Str}{j:L9 V9}{a:L9 Stmt}{m:Stmt}{call:Ez}{d pos b:Pos}{f:Sg->R (L9 A)}{cl:L9 Str}{fs:Sg->R Fw}(y:X.K=c.K)(t:X.mg=c.mg)
  (o:yH X) (u:X.N.Nodup) (hi:X.N[i]? = some nx) (w:X.env.scope.names.lookup nx=some .local) (r:Gl X x) (v:X.mg x=some (.ref Wc)) (hw:_d.f_ X.K Wc j) (k:lF X.K X.mg Wc cl)
  (p:∀ pn Z E',IZ (X.qd pn) Z E' call (uI (nh c.g X.K X.mg n G) [] E' (ya c E f)))
  (q:∀ e,gc (X.sm e) c E (m::a) fs) (l:autoParam ((x == ("__debug__":Str))=false) z5) (Gp:autoParam (swapsWith call none b.line X.env=pure false) z3) :
  gp X c E (.Try [.Expr call b] [.ExceptHandler (some (.Name x np)) (some nx) (m::a) d] [] [] pos) (xB i none n G f cl fs):=
 VP y t o u hi w r v hw l k (λav s Z H D E' I h=>WW (p _ _ _) I h Gp) q
noncomputable def ye(i:Nat)(cs:L9 Str)(g:Str):Sg->R Dz:=λY=>match Y[i]? with
 | some (some (.x e))=>if cs.contains e.c=true then(match e.fs.lookup g with|some d=>.ok d|none=>.bad)else .bad
 | _=>.bad
def JH(K:Frag)(mg:Str->O9 V9)(cs:L9 Str)(g:Str):Prop:=∀ nm∈cs,∃ W C,mg nm=some (.ref C)/\_d.dy K W C/\findIn K (.ref C) g=some none
theorem rA{F:Hp}{d:Dz}:∀ {nk:L9 (Str×V)} {fs:L9 (Str×Dz)},nk.map (·.1)=fs.map (·.1)->a_ K F (nk.map (·.2)) (fs.map (·.2))->fs.lookup g=some d->∃ v,nk.lookup g=some v/\b5 K F v d
 | [],[],_,_,h=>by cases h
 | [],_::_,h,_,_=>by cases h
 | _::_,[],h,_,_=>by cases h
 | (a,v)::nk,(b,x)::fs,h,r,e=>by
  rw[AV]at h r
  injection h with h1 h2
  obtain⟨v',t,e1,r1,r2⟩:=r.cons_of
  rw[EL]at e1
  obtain⟨rfl,rfl⟩:=e1
  subst h1
  rw[BR]at e ⊢
  cases q:(g == a)with
  | true=>simp_all
  | false=>rw[q]at e;exact rA h2 r2 e
theorem HL{cs:L9 Str}{e:Ez}(x:X.K=c.K)(r:X.mg=c.mg)(n:JH X.K X.mg cs g)(h:PE X e (HW X.K (bU i) g)):PD X c E e (ye i cs g):=PE.imp h λZ H Q ⟨Y,F,ab,k⟩=>by
 unfold ye at k
 split at k
 .rename_i o hi
  split at k
  .split at k
   .rename_i d t
    obtain⟨v,s,a,C,rfl,m,od,h1,h2⟩:=ab.slot i _ hi
    obtain⟨W,w,f,j⟩:=n o.c (by simp_all)
    rw[r,m]at f
    cases f
    rcases h2 with h2|⟨dd,b,e1,e2,q,p⟩
    .simp_all
    .subst e1
     obtain⟨u,l⟩:=rA q p t
     exact⟨_,s,a,W,C,dd,b,u,rfl,j.1,j.2,ab.fh _ _ h1,ab.fh _ _ e2,l.1,Rk.ok k u F H (Ext.refl ab.fh) l.2⟩
   .exact k.elim
  .exact k.elim
 .exact k.elim
end
section
variable{P:P9}{w:W9}{K:Frag}{mg:Str->O9 V9}{base:Hz}
theorem Ym{fs:L9 Str}(a:ju P w K mg base x fs W C):lF K mg C [x]:=λnm h=>by
 rw[AS.mp h]
 exact⟨C,_,a.m,a.c.any,by simp⟩
theorem tE{fs:L9 Str}(a:ju P w K mg base x fs W C)(h:g∈fs):JH K mg [x] g:=λnm b=>by
 rw[AS.mp b]
 exact⟨W,C,a.m,a.c,a.na g h⟩
end
def lq(K:Frag)(mg:Str->O9 V9)(nm q:Str)(b:Bool):Prop:=∃ D C,mg q=some (.ref D)/\mg nm=some (.ref C)/\kitOne K (.ref C) (.ref D)=some b
def mI(K:Frag)(mg:Str->O9 V9)(nm:Str)(T:String)(b:Bool):Prop:=∃ C,mg nm=some (.ref C)/\kitOne K (.ref C) (.type T)=some b
section
variable{X:Cx}{c:Ct}{E:XK}{e:Ez}{P:P9}{w:W9}{base:Hz}
end
theorem Mm:bootBuiltins "ValueError"=some (.type "ValueError"):=by rfl
end _f
namespace _a
variable{H:Hp}
theorem cI.got{w:W9}{h:Hz}{o:HO}(x:cI P w H h a o):∃ u,h.get? a=some u:=by
 cases o with
 | lst xs=>obtain⟨_,_,_,e⟩:=x;exact⟨_,e.2⟩
 | tup xs=>obtain⟨_,_,_,⟨o,e,_⟩⟩:=x;exact⟨_,e⟩
 | dK bd=>obtain⟨_,_,_,_,o,_,_,e⟩:=x;exact⟨_,e.1⟩
 | dT bd=>obtain⟨_,_,_,_,o,_,_,e⟩:=x;exact⟨_,e.1⟩
 | set S n=>obtain⟨o,_,_,_,e⟩:=x;exact⟨_,e.1⟩
 | ins C dx fs=>exact⟨_,x.2.2.2.1⟩
 | own y=>exact x
 | xd fs=>obtain⟨_,⟨_,_,_,e,_⟩,_⟩:=x;exact⟨_,e⟩
 | Cc lo hi=>obtain⟨_,_,_,e⟩:=x;exact⟨_,e⟩
 | pd ob u=>exact⟨_,x.1⟩
 | lW ps=>obtain⟨_,e⟩:=x;exact⟨_,e.1⟩
 | nq q=>obtain⟨c,o,vs,t,e⟩:=x;simp_all
 | met f y=>exact⟨_,x⟩
 | ext φ=>exact x.2.1
theorem eh.free{w:W9}{h:Hz}(x:eh P w H h)(e:h.get? a=none):H a=none:=by
 cases q:H a with
 | none=>rfl
 | some u=>
  obtain⟨o,z⟩:=(x a u q).got
  ext
theorem Inv.uc{X:Cx}{Z:St}{h':Hz}{o:HO}(I:Inv X av Z H s)(k:∀ b u,s.heap.get? b=some u->h'.get? b=some u)(g:s.heap.get? a=none)(new:cI X.prog X.w (upd H a o) h' a o) :
  Inv X av Z (upd H a o) {s with heap:=h',toks:=t'}:=by
 have d:=I.cj.free g
 refine I.un ⟨λb u q _ _ _=>k b u q,λb u q _ _ _=>⟨u.slots,k b u q⟩,λb u q n _=>?_,λb u q _=>⟨u,k b u q⟩,λb xs q=>by rw[aE (aW q d)];ext,λb u xs q=>by rw[aE (aW q d)];ext,λb ps q=>by rw[aE (aW q d)];ext⟩ λb u e=>?_
 .rw[aE (λz=>by simp_all)];ext
 .by_cases f:b=a
  .subst f;rw[aI]at e;ext
  .rw[aE f]at e
   exact(I.cj b u e).d6 (λc v _ q=>k c v q) (λc q=>by rw[aE (aW q d)];ext) (λc xs q=>by rw[aE (aW q d)];ext) λc xs q=>by rw[aE (aW q d)];ext
structure m3(K:Frag)(mg:Str->Option V9)(x:Str)(W C:Az):Prop where
 c:_d.dy K W C
 m:mg x=some (.ref C)
 lk:∃ nm q N bs sn sub ab col dd k0 k1 k2 k3 k5,K.lookup C=some (excClassObj nm q C N bs (.ref W::_d.kM) true sn sub ab col dd k0 k1 k2 k3 k5 "ValueError.__new__")/\nsOkIn K N=true/\nsIn K N "__init__"=some none
 lw:∃ c0 dd cd sl,K.lookup W=some ⟨c0,dd,.cls cd,sl⟩/\nsOkIn K cd.ns=true/\nsIn K cd.ns "__init__"=some none
def IV(C:Az)(E:XK)(ta:TA):TS:=λ_ Z H=>ta Z H λvs H1=>vs.length<=1000/\∀ e,H1 e=none->E (.ref C) (some e) (upd H1 e (mv e C none))
theorem En{h:Hz}{N:Az}{n:Str}(X:K.In h)(a:nsOkIn K N=true)(b:nsIn K N n=some none):∃ m,h.Ns N m/\m n=none:=by
 have:=Heap.Ns.of_isNs (PySem.W.isNs_of_in X a)
 exact⟨_,this,PySem.W.ns_none_of X this b⟩
section
variable{X:Cx}{E:XK}{W C:Az}{x:Str}{np d9 pos:Pos}{e0:Ez}{rest:L9 Ez}{ta:TA}
theorem N7(B:X.calm=true)(j:m3 X.K X.mg x W C)(G:Gl X x)(F:PA (X.mf E) (e0::rest) ta)(n:autoParam ((x == ("__debug__":Str))=false) z5)
  (he:autoParam (starEach (e0::rest) X.env=(false,eval e0 X.env)::starEach rest X.env) z3) (gk:autoParam ((backTo d9 (starEach rest X.env)).any (·.1)=false) z3) :
  PS (X.mf E) (.Raise (some (.Call (.Name x np) (e0::rest) [] d9)) none pos) (IV C E ta):=by
 intro av s Z H D I h
 obtain⟨nm,q,N,bs,sn,sub,ab,col,dd,k0,k1,k2,k3,k5,lk⟩:=j.lk
 obtain⟨c0,J,cd,sl,lw⟩:=j.lw
 have i:wpAny (model X.prog X.w) X.A (eval (.Call (.Name x np) (e0::rest) [] d9) X.env) (λv s1=>∃ e od vs,v=.ref e/\s1.heap.get? C=some (excClassObj nm q C N bs (.ref W::_d.kM) true sn sub ab col dd k0 k1 k2 k3 k5 "ValueError.__new__") /\
   s1.heap.get? e=some {cls:=.ref C,dict:=od,data:=.fields vs}/\vs[1]? = some .none/\vi X E (.ref e) s1) (vi X E) s:=by
  refine B2 (iC I.cx G j.m ?_ n)
  refine B3 I.ok.mod.jy j.c.kp (cz (F d9 av s Z H _ I h) λus s1 ⟨vs,H1,b,r,L,y⟩=>⟨b.ee,?_⟩) he gk
  obtain⟨l,g,d,O,os⟩:=s1
  have k:us.length<=sizeLine:=by rw[<-r.length,CS];ext
  have jy:X.K.In l:=b.cx.ee
  obtain⟨M,o⟩:=En jy lk.2.1 lk.2.2
  obtain⟨P,u⟩:=En jy lw.2.1 lw.2.2
  refine wpAny_call_exc_subT DK (.own (jy _ _ lw.1) u.1 u.2 .base) (jy _ _ lk.1) o.1 o.2 (λh' e a=>?_) k
  obtain⟨t,f⟩:=a.there
  exact⟨e,none,_,rfl,(b.cx.uc a.keeps a.new (pB f.1)).ee _ _ lk.1,f.1,rfl,e,C,none,Z,_,rfl,((b.cx.uc a.keeps a.new (pB f.1)).ez λp l=>absurd l (by simp)),⟨aI,_,none,f.1,rfl,(λt z=>nomatch z),(λz=>nomatch z)⟩,(y e (b.cx.cj.free a.new))⟩
 first
  | refine AA (CZ (_d.qH (_d.wN W) (I.ok.hd B) (AA (BI i (λv s1 h1=>AA (CZ (AC h1))) λ_ _ z=>z))))
  | rfl
end
def sr(i:Int):Prop:=i=40\/i=60\/i=200\/i=300
theorem T4{i:Int}(h:sr i):(Str.ofString (toString i)).length<=10/\i.natAbs.log2 < 1920:=by
 rcases h with rfl|rfl|rfl|rfl<;>decide +kernel
theorem jJ(x y:Str):(x++y).length=x.length+y.length:=by
 show(x.cps++y.cps).size=x.cps.size+y.cps.size
 simp
def JG(ta:TE):TE:=λZ H Q=>ta Z H λx H1=>∃ i:Int,x=.int i/\sr i/\∀ z:Str,Q (.str z) H1
theorem Rj{X:Cx}{v:Ez}{ta:TE}{a b:Str}{k1 k2:Nat}{p1 p2 p3 pos:Pos}(p:PE X v ta)(w:autoParam (a.length<=1000) z5)(hb:autoParam (b.length<=1000) z5) :
  PE X (.JoinedStr [.Constant (.str a) k1 p1,.FormattedValue v (-1) none p2,.Constant (.str b) k2 p3] pos) (JG ta):=by
 intro av s Z H Q I h
 have m:sizeLine=16777216:=rfl
 have d:(Str.empty).length=0:=rfl
 refine wpAny_JoinedStr (Joins_cons (cz (Iz av s Z H (λy H1=>y=.str a/\H1=H) I ⟨rfl,rfl⟩) λu s1 c=>?_))
 obtain⟨y,H1,k,r1,e1,e2⟩:=c
 subst e1 e2
 obtain⟨n,rfl⟩:=r1
 refine⟨a,n,rfl,by rw[jJ,d];ext,Joins_cons (wpAny_FormattedValue_plain (cz (p av s1 Z _ _ k h) λu z c=>?_))⟩
 obtain⟨y,H2,o,r2,i,e,g,q⟩:=c
 subst e
 obtain⟨t,rfl⟩:=r2
 have f:=T4 g
 refine wpAny_formatField_int f.2 ⟨_,_,rfl,by rw[jJ,jJ,d];ext,Joins_cons (cz (Iz av _ Z H2 (λy H1=>y=.str b/\H1=H2) (o.tok _) ⟨rfl,rfl⟩) λu x c=>?_)⟩
 obtain⟨y,H3,l,r,e1,e2⟩:=c
 subst e1 e2
 obtain⟨j,rfl⟩:=r
 refine⟨b,j,rfl,by rw[jJ,jJ,jJ,d];ext,Joins_nil ⟨by rw[jJ,jJ,jJ,d];ext,?_⟩⟩
 exact⟨.str _,_,l.tok _,⟨_,rfl⟩,q _⟩
end _a
namespace _f
instance (i:Int):Decidable (sr i):=by unfold sr;infer_instance
def T3(cn:Str)(f:Sg->R (L9 Dz)):Sg->R Fw:=λY=>(f Y).bind λxs=>if xs.length<=1000 then .ex ⟨cn,[]⟩else .bad
def uV(cn:Str)(g:Sg->R Dz):Sg->R Fw:=λY=>(g Y).bind λx=>match x with
 | .int i=>if sr i then .ex ⟨cn,[]⟩else .bad
 | _=>.bad
section
variable{X:Cx}{c:Ct}{E:XK}{st:Stmt}{cn:Str}{C:Az}
theorem N7{f:Sg->R (L9 Dz)}(d:c.mg cn=some (.ref C))(h:PS X st (IV C E (vm c E f))):gp X c E st (T3 cn f):=PS.imp h λD Z H a=>by
 obtain⟨Y,F,ab,k⟩:=a
 refine⟨Y,F,ab,(Rk.bind k).imp λxs _ q vs i H1 s1 r1=>?_⟩
 by_cases b:xs.length<=1000
 .rw[AI b]at q
  exact⟨by rw[r1.length];ext,λe g=>q e C _ _ ((ab.all.trans s1).trans (Ext.new s1.fh g)) ⟨d,none,aI,.inl ⟨rfl,rfl⟩⟩⟩
 .rw[AM b]at q;exact q.elim
theorem WV{g:Sg->R Dz}(a:c.mg cn=some (.ref C))(h:PS X st (IV C E (bR (JG (tV (bG c) c E g)) dP))):gp X c E st (uV cn g):=PS.imp h λD Z H ⟨Y,F,ab,k⟩=>by
 refine⟨Y,F,ab,(Rk.bind k).imp λx f q v j H1 s1 r1=>?_⟩
 split at q
 .rename_i i
  split at q
  .rename_i d
   obtain rfl:=aP.cA r1
   exact⟨i,rfl,d,λz=>⟨by simp,λe b=>q e C _ _ ((ab.all.trans s1).trans (Ext.new s1.fh b)) ⟨a,none,aI,.inl ⟨rfl,rfl⟩⟩⟩⟩
  .exact q.elim
 .exact q.elim
theorem Yg{a b:L9 Str}(h:lF K mg Wc a)(h2:lF K mg Wc b):lF K mg Wc (a++b):=λnm c=>by
 rcases BN.mp c with q|q
 · exact h nm q
 · exact h2 nm q
theorem YL{Y:Sg}{Z:_a.St}{F H:Hp}{e:Er}{C:Az}(f:X.mg=c.mg)(b:_d.dy X.K W C)(j:X.mg nm=some (.ref C))(ab:Ab c Y Z F H)(hi:Y[i]? = some (some (.x e)))(h:e.c=nm) :
  ∃ a,Z[i]? = some (some (.ref a))/\wo X.K H (.ref a) (.ref C):=by
 obtain⟨v,d,a,k,rfl,m,od,h1,h2⟩:=ab.slot i _ hi
 rw[h,<-f,j]at m
 cases m
 rcases h2 with ⟨_,rfl⟩|⟨dd,g,e1,e2,n,l⟩
 .exact ⟨a,d,.z_ b (ab.fh _ _ h1)⟩
 .subst e1
  exact⟨a,d,.exc b (ab.fh _ _ h1) (ab.fh _ _ e2)⟩
end
end _f
variable{ep:Nat}
namespace _a
noncomputable def Ri(e:DictEntry):Bool:=match e.key with
 | .str _ _=>true
 | _=>false
theorem Ml{N:Az}{cl:V9}{d:O9 Az}{es:Array DictEntry}{sl:Array (O9 V9)}(l:K.lookup N=some ⟨cl,d,.dict es ep,sl⟩)(h:es.toList.all Ri=true):nsOkIn K N=true:=by
 unfold nsOkIn
 rw[(l)]
 show es.all _=true
 rw[<-Array.all_toList]
 exact h
end _a
namespace _f
end _f
namespace _b
end _b
namespace _f
variable{es:L9 Ez}{F:Hp}
def ux(K:Frag)(H:Hp)(f:Az):Prop:=keepIn K (.ref f)=true\/∃ oc od fd sl,H f=some (mW f ⟨oc,od,.func fd,sl⟩)
def Il(X:Cx)(i:Nat)(E:XK)(t:TA):TE:=λZ H Q=>∃ f,Z[i]? = some (some (.ref f))/\ux X.K H f/\t Z H λvs H1=>ux X.K H1 f/\∃ k fd ps sp,cw k X.A/\c5 X.prog X.w X.K X.mg X.base (d4 X.prog X.w) k f fd ps sp/\cG X.K fd ps []/\sp vs H1 Q E
theorem Nq{X:Cx}{E:XK}{p pos:Pos}{e:Ez}{t:TA}(G:PE X (.Name x p) (bU i))(hx:fR (d4 X.prog X.w) X E)(z:PA X (e::es) t)
  (y:autoParam (starEach (e::es) X.env=(false,eval e X.env)::starEach es X.env) z3) (gk:autoParam ((backTo pos (starEach es X.env)).any (·.1)=false) z3):PE X (.Call (.Name x p) (e::es) [] pos) (Il X i E t):=by
 intro av s Z H Q I h
 obtain⟨f,C,g,h⟩:=h
 refine B2 (cz (G av s Z H (λv H'=>v=.ref f/\H'=H) I ⟨_,C,rfl,rfl⟩) λu B l=>?_)
 obtain⟨v,n,b,D,e1,e2⟩:=l
 subst e1 e2
 obtain rfl:=D
 have d:∀ us s1,AP X av Z (λvs H1=>ux X.K H1 f/\∃ k fd ps sp,cw k X.A/\c5 X.prog X.w X.K X.mg X.base (d4 X.prog X.w) k f fd ps sp/\cG X.K fd ps []/\sp vs H1 Q E) us s1->
   (∃ H1,Inv X av Z H1 s1/\ux X.K H1 f)/\wpAny (model X.prog X.w) X.A (call (.ref f) us) (EP X av Z Q) X.xe s1:=by
  rintro us s1 ⟨vs,H1,c,r,a,k,fd,ps,sp,hr,F,hb,q⟩
  refine⟨⟨H1,c,a⟩,sC F hr hb .nil hx c r ?_⟩
  ext
 rcases g with g|⟨m,od,fd,sl,g⟩
 .refine B3 b.ok.mod.jy g (cz (z pos av B Z n _ b h) λus s1 j=>?_) y gk
  obtain⟨⟨H1,c,_⟩,q⟩:=d us s1 j
  exact⟨c.ee,q⟩
 .refine callWith_F ⟨m,od,fd,sl,mW.get b.cj g⟩ (cz (z pos av B Z n _ b h) λus s1 j=>?_) y gk
  obtain⟨⟨H1,c,a⟩,q⟩:=d us s1 j
  refine⟨?_,q⟩
  rcases a with a|⟨m,od,fd,sl,a⟩
  .cases e:X.K.lookup f with
   | none=>unfold keepIn at a;simp_all
   | some o=>
    have J:=b.bs f o (b.ok.mod.jy f o e)
    ext
  .exact ⟨m,od,fd,sl,mW.get c.cj a⟩
def Dv(m i:Nat)(f:Sg->R (L9 Dz)):Sg->R Dz:=λY=>match Y[i]? with
 | some (some (.g k n G))=>(f Y).bind λds=>if k<=m/\ds.length=n then G ds else .bad
 | _=>.bad
theorem Rh{X:Cx}{c:Ct}{E:XK}{e:Ez}{m:Nat}{T:Hp}{f:Sg->R (L9 Dz)}(y:c.g=g6 X.prog X.w X.K X.mg X.base T)(I:X.K=c.K)(P:X.mg=c.mg)(hr:cw m X.A)(h:PE X e (Il X i E (vm c E f))):PD X c E e (Dv m i f):=PE.imp h λZ H Q ⟨Y,F,ab,k⟩=>by
 unfold Dv at k
 split at k
 .rename_i L n G hi
  obtain⟨v,J⟩:=ab.slot i _ hi
  obtain⟨D,O,rfl,s1,B⟩:=((J.2))
  rw[y]at B
  obtain⟨fd,ps,b⟩:=((B))
  have l:∀ j H',aH F j->aH j H'->ux X.K H' D:=λj H' N M=>b.2.2.2.imp id λu=>by obtain⟨u,od,fd,sl,e⟩:=u;exact⟨u,od,fd,sl,M _ _ (N _ _ (s1 _ _ e))⟩
  refine⟨D,J.1,l F H (bP F) ab.fh,Y,F,ab,(Rk.bind k).imp λds _ q vs j H' e1 r=>?_⟩
  refine⟨l j H' e1.ff e1.fh,?_⟩
  by_cases p:L<=m/\ds.length=n
  .rw[AI p]at q
   refine⟨L,fd,ps,_,hr.mono p.1,b.2.2.1,b.2.1,j,ds,λa o z=>e1.ff a o (s1 a o z),λa o z=>e1.ff a o (ab.f0 a o (ab.t0 a o (by rw[y];exact z))),e1.fh,by rw[I];ext,p.2,?_⟩
   cases t:G ds with
   | bad=>rw[t]at q;exact q
   | ok d=>rw[t]at q;exact λv s H2 e2 r2=>Rk.ok q v s H2 (e1.trans e2) (by rw[I]at r2;exact r2)
   | ex x=>rw[t]at q;exact λa C s H2 e2 r2=>q a C s H2 ((ab.all.trans e1).trans e2) (by simp_all)
  .rw[AM p]at q;exact q.elim
 .exact k.elim
noncomputable def uW:Dz->Bool
 | .none=>true
 | .bool _=>true
 | .int _=>true
 | .str _=>true
 | _=>false
theorem VO{a:Hp}{v:V}{d:Dz}(h:uW d=true)(r:b5 K F v d):b5 K a v d:=by
 cases d with
 | none=>cases r;exact .fg
 | bool b=>cases r;exact .bl b
 | int i=>cases r;exact .int i
 | str x=>cases r;exact .str x
 | list xs=>cases h
 | tuple xs=>cases h
 | dict xs=>cases h
def HK(K:Frag)(F H:Hp):L9 V->L9 Dz->Prop
 | [],[]=>True
 | v::vs,d::ds=>aP K F H v d/\HK K F H vs ds
 | _,_=>False
def Ca(c:Ct)(E:XK)(f:Sg->R (L9 Dz)):TA:=λZ H Q=>∃ Y F,Ab c Y Z F H/\Rk c E F H (f Y) λds=>∀ vs F' H',Ext F H F' H'->HK c.K F' H' vs ds->Q vs H'
theorem T2{X:Cx}{c:Ct}{E:XK}:PA X [] (Ca c E aF):=PA.imp bI λZ H Q Y=>by obtain⟨Y,F,ab⟩:=Y;exact Rk.ok ab.2 [] F H (Ext.refl ab.1.fh) trivial
theorem Np{X:Cx}{c:Ct}{E:XK}{e:Ez}{f:Sg->R Dz}{g:Sg->R (L9 Dz)}(h:PR X c E e f)(h2:PA X es (Ca c E g))(i:autoParam (starEach (e::es) X.env=(false,eval e X.env)::starEach es X.env) z3):PA X (e::es) (Ca c E (aC f g)):=PA.imp (aO h h2 i) λZ H Q a=>by
 obtain⟨Y,F,ab,k⟩:=a
 refine⟨Y,F,ab,(Rk.bind k).imp λx _ q v j H1 s1 r1=>⟨Y,j,ab.ext s1,((Rk.bind q).ext s1).imp λxs _ q vs d H2 b r2=>?_⟩⟩
 exact Rk.ok q _ d H2 (s1.trans b) ⟨aP.ext b r1,r2⟩
theorem JF{H:Hp}(s:aH F H):∀ {vs:L9 V} {ds:L9 Dz},HK K F H vs ds->∃ FL,aH F FL/\aH FL H/\a_ K FL vs ds
 | [],[],_=>⟨F,bP F,s,.nil⟩
 | v::vs,d::ds,h=>by
  obtain⟨FL,a⟩:=JF s h.2
  rcases h.1 with q|⟨p,us,xs,rfl,rfl,h1,h2⟩
  .exact ⟨FL,a.1,a.2.1,.cons (q.same a.1) a.2.2⟩
  .refine ⟨λx=>if x=p then some (.lst us)else FL x,λx o z=>?_,λx o z=>?_,?_⟩
   .by_cases b:x=p
    .subst b
     have:=s x o z
     ext
    .exact (AM b).trans (a.1 x o z)
   .by_cases b:x=p
    .grind
    .exact a.2.1 x o ((AM b).symm.trans z)
   .have c:aH FL (λx=>if x=p then some (.lst us)else FL x):=λx o z=>by
     by_cases b:x=p
     .subst b
      have:=a.2.1 x o z
      ext
     ext
    exact .cons (.lst (d_.of (AI rfl)) (h2.same λx o z=>c x o (a.1 x o z))) (a.2.2.same c)
def Em(m i:Nat)(f:Sg->R (L9 Dz)):Sg->R Dz:=λY=>match Y[i]? with
 | some (some (.g k n G))=>(f Y).bind λds=>if k<=m/\ds.length=n then(match G ds with | .ok d=>if uW d=true then .ok d else .bad|_=>.bad)else .bad
 | _=>.bad
theorem T1{X:Cx}{c:Ct}{E:XK}{e:Ez}{m:Nat}{T:Hp}{f:Sg->R (L9 Dz)}(D:c.g=g6 X.prog X.w X.K X.mg X.base T)(J:X.K=c.K)(V:X.mg=c.mg)(hr:cw m X.A)(h:PE X e (Il X i E (Ca c E f))):PD X c E e (Em m i f):=PE.imp h λZ H Q ⟨Y,F,ab,k⟩=>by
 unfold Em at k
 split at k
 .rename_i M n G hi
  obtain⟨v,L⟩:=ab.slot i _ hi
  obtain⟨I,U,rfl,s1,B⟩:=((L.2))
  rw[D]at B
  obtain⟨fd,ps,j⟩:=((B))
  have p:∀ l H',aH F l->aH l H'->ux X.K H' I:=λl H' P O=>j.2.2.2.imp id λC=>by obtain⟨C,od,fd,sl,e⟩:=C;exact⟨C,od,fd,sl,O _ _ (P _ _ (s1 _ _ e))⟩
  refine⟨I,L.1,p F H (bP F) ab.fh,Y,F,ab,(Rk.bind k).imp λds _ q vs l H' e1 r=>?_⟩
  refine⟨p l H' e1.ff e1.fh,?_⟩
  by_cases t:M<=m/\ds.length=n
  .rw[AI t]at q
   obtain⟨N,a,b,W⟩:=JF e1.fh r
   refine⟨M,fd,ps,_,hr.mono t.1,j.2.2.1,j.2.1,N,ds,λx o z=>a x o (e1.ff x o (s1 x o z)),λx o z=>a x o (e1.ff x o (ab.f0 x o (ab.t0 x o (by rw[D];exact z)))),b,by rw[J];ext,t.2,?_⟩
   cases y:G ds with
   | bad=>rw[y]at q;exact q
   | ok d=>
    rw[y]at q
    intro v S H2 e2 r2
    have s:Rk c E F H (if uW d=true then R.ok d else .bad) _:=q
    by_cases u:uW d=true
    .rw[AI u]at s
     refine Rk.ok s v l H2 (e1.trans ⟨e2.hh,bP l,λx o z=>e2.hh x o (e1.fh x o z),λx z n=>absurd z n⟩) (by rw[J]at r2;exact VO u r2)
    .rw[AM u]at s;exact s.elim
   | ex x=>rw[y]at q;exact q.elim
  .rw[AM t]at q;exact q.elim
 .exact k.elim
theorem TZ{xs:L9 V}(b:kz cs F)(h:d_ K F a xs):d_ K (gg cs F) a xs:=by
 rcases h with (h|⟨o,h⟩)|h
 · exact .inl (.inl (by rw [bL (b.out h λ_ v z => nomatch z)]; ext))
 · exact .inl (.inr ⟨o, by rw [bL (b.out h λ_ v z => by cases z)]; ext⟩)
 · exact .inr h
theorem TY{xs:L9 V}(b:kz cs F)(h:fq K F a xs):fq K (gg cs F) a xs:=by
 rcases h with (h|⟨o,h⟩)|h
 · exact .inl (.inl (by rw [bL (b.out h λ_ v z => nomatch z)]; ext))
 · exact .inl (.inr ⟨o, by rw [bL (b.out h λ_ v z => by cases z)]; ext⟩)
 · exact .inr h
mutual
theorem Mj(hc:kz cs F):∀ {v:V} {d:Dz},b5 K F v d->b5 K (gg cs F) v d
 | _,_,.fg=>.fg
 | _,_,.bl b=>.bl b
 | _,_,.int i=>.int i
 | _,_,.str x=>.str x
 | _,_,.lst h r=>.lst (TZ hc h) (nM hc r)
 | _,_,.tup h r=>.tup (TY hc h) (nM hc r)
 | _,_,.pl h=>.pl (by rw[bL (hc.out h λ_ v z=>nomatch z)];exact h)
theorem nM(hc:kz cs F):∀ {vs:L9 V} {ds:L9 Dz},a_ K F vs ds->a_ K (gg cs F) vs ds
 | _,_,.nil=>.nil
 | _,_,.cons h r=>.cons (Mj hc h) (nM hc r)
end
theorem TX{e C b:Az}{od:O9 Az}{o:Obj}{v:V}(h:mv e C od=eQ b o v):False:=by cases h
theorem VN{K:Frag}{mg:Str->O9 V9}{F:Hp}{e:Er}{a C:Az}{cs:L9 Az}(b:kz cs F)(h:lD K mg F e a C):lD K mg (gg cs F) e a C/\a∉cs:=by
 obtain⟨m,od,h1,h2⟩:=h
 have c:=b.out h1 λ_ v z=>TX z
 refine⟨⟨m,od,by rw[bL c];ext,h2.imp id ?_⟩,c⟩
 rintro ⟨d,nk,e1,e2,e3,e4⟩
 exact⟨d,nk,e1,by rw[bL (b.out e2 λ_ v z=>nomatch z)];ext,e3,nM b e4⟩
theorem Nn{c:Cv}{H a:Hp}(s:aH (lg c H) a):kz (cN c) a:=λb d=>by
 obtain⟨p,e⟩:=gK.mp d
 exact⟨p.1,p.2,s _ _ (pI e)⟩
theorem Nm{a:Cv}{F H:Hp}(s:aH F H):aH (lg a F) (lg a H):=λb o e=>by
 by_cases c:b∈cN a
 .obtain ⟨p,q⟩:=gK.mp c
  rw[pI q]at e ⊢;ext
 .rw[dC c]at e ⊢;exact s b o e
theorem N6{c:Cv}{F H f H2:Hp}(g:∀ b∈cN c,H b=none)(s:aH F H)(e:Ext (lg c F) (lg c H) f H2):Ext F H (gg (cN c) f) (gg (cN c) H2):=by
 have h:=λb a=>aY s (g b a)
 have zj:∀ b o,H b=some o->b∉cN c:=λb o q z=>by simp_all
 have outF:∀ b o,F b=some o->b∉cN c:=λb o q z=>by simp_all
 refine⟨λb o q=>?_,λb o q=>?_,λb o q=>?_,λb q n=>?_⟩
 .have a:=zj b o q
  rw[bL a];exact e.hh b o (by rw[dC a];ext)
 .have a:=outF b o q
  rw[bL a];exact e.ff b o (by rw[dC a];ext)
 .have d:=nC q
  rw[bL d.2];exact e.fh b o d.1
 .by_cases a:b∈cN c
  .exact absurd (pH a) n
  .rw[bL a]at n
   have:=e.nw b (by rw[dC a];ext) n
   unfold oG at this ⊢
   rw[dC a]at this;ext
noncomputable def xn:R A->R Dz
 | .ok (.d x)=>.ok x
 | .ok _=>.bad
 | .ex e=>.ex e
 | .bad=>.bad
def ir(P:P9)(w:W9)(K:Frag)(mg:Str->O9 V9)(base:Hz)(T:Hp)(S:ej)(fr:L9 Str)(k n:Nat)(Gm:L9 A->L9 Dz->R Dz):Prop:=
 ∀ (F0 F1:Hp) (fv:L9 A) (gu:L9 V) (f:Az) (cl:L9 (Str×Az)) (doc pm ct:V9) (cc:Az),aH T F0->je (g6 P w K mg base T) K mg F0 fv gu->aH F0 F1->
  F1 f=some (mW f (S.obj cl doc pm cc ct))->F1 cc=some (.nq S.qual)->eu F1 fr cl gu->(∀ c∈bB fr cl,F0 c=none)->OB P w K mg base T f F1 k n (Gm fv)
theorem Mi{cs:L9 Az}{F H d H2:Hp}(s:aH F H)(g:kz cs F)(f:∀ c∈cs,H2 c=none)(e:Ext (gg cs F) (gg cs H) d H2):Ext F H (qb cs F d) (qb cs H H2)/\aH d (qb cs F d):=by
 have i:=λc h=>aY e.fh (f c h)
 refine⟨⟨λb o q=>?_,λb o q=>?_,λb o q=>?_,λb q n=>?_⟩,λb o q=>?_⟩
 .by_cases a:b∈cs
  .rw[sN a];ext
  .rw[dQ a];exact e.hh b o (by rw[bL a];ext)
 .by_cases a:b∈cs
  .rw[sN a];ext
  .rw[dQ a];exact e.ff b o (by rw[bL a];ext)
 .by_cases a:b∈cs
  .rw[sN a]at q ⊢;exact s b o q
  .rw[dQ a]at q ⊢;exact e.fh b o q
 .by_cases a:b∈cs
  .obtain ⟨o,v,z⟩:=g b a
   ext
  .rw[dQ a]at n
   have:=e.nw b (by rw[bL a];ext) n
   unfold oG at this ⊢
   rw[bL a]at this;ext
 .rw[dQ λz=>by simp_all];ext
theorem je.data{g:Gb}{K:Frag}{mg:Str->O9 V9}{F:Hp}:∀ {vs:L9 V} {ds:L9 Dz},a_ K F vs ds->je g K mg F (ds.map .d) vs
 | _,_,.nil=>trivial
 | _,_,.cons h r=>⟨h,je.data r⟩
theorem je.append{g:Gb}{K:Frag}{mg:Str->O9 V9}{F:Hp}:∀ {as bs:L9 A} {vs us:L9 V},je g K mg F as vs->je g K mg F bs us->je g K mg F (as++bs) (vs++us)
 | [],_,[],_,_,h=>h
 | a::as,bs,v::vs,us,h,h2=>⟨h.1,je.append h.2 h2⟩
section
variable{P:P9}{w:W9}{K:Frag}{mg:Str->O9 V9}{base:Hz}{T:Hp}{S:ej}{N ps fr:L9 Str}{k:Nat}
theorem N5{f k F H:Hp}{a:L9 A}{gu vs:L9 V}(j:aH T f)(g:je (g6 P w K mg base T) K mg f a gu)(h:aH f k)(e:aH k F)(i:aH F H)(C:eu k fr cl gu)(l:∀ c∈bB fr cl,f c=none)(n:a_ K F vs ds) :
  kz (bB fr cl) F/\aH T (gg (bB fr cl) F)/\aH (gg (bB fr cl) F) (gg (bB fr cl) H)/\je (g6 P w K mg base T) K mg (gg (bB fr cl) F) (ds.map .d++a) (vs++gu):=by
 have m:aH f (gg _ F):=λb o q=>by
  rw[bL λz=>by rw[l b z]at q;ext];exact e b o (h b o q)
 refine⟨((C.same e).pk),λb o q=>m b o (j b o q),λb o q=>?_,(je.data (nM ((C.same e).pk) n)).append (g.same m)⟩
 rw[bL (nC q).2];exact i b o (nC q).1
def gC(n:Nat)(fb:Sg->R Fw):L9 A->L9 Dz->R Dz:=λfv ds=>xn (du n fb (ds.map .d++fv))
theorem Mh{F H:Hp}{Q:VK}{E:XK}{r:R A}(b:aH F H)(i:kz cs F)(h:match xn r with
 | .bad=>False
 | .ok d=>∀ v F' H',Ext F H F' H'->b5 K F' v d->Q v H'
 | .ex e=>∀ a C F' H',Ext F H F' H'->lD K mg F' e a C->E (.ref C) (some a) H'):match (generalizing:=false) r with
 | .bad=>False
 | .ok a=>∀ v F' H',Ext (gg cs F) (gg cs H) F' H'->AF (g6 P w K mg base T) K mg F' a v->(∀ a∈cs,H' a=none)->Q v (qb cs H H')
 | .ex e=>∀ a C F' H',Ext (gg cs F) (gg cs H) F' H'->lD K mg F' e a C->(∀ a∈cs,H' a=none)->E (.ref C) (some a) (qb cs H H'):=by
 cases r with
 | bad=>exact h
 | ok a=>
  cases a with
  | d x=>
   intro v F' H' e q c
   have e2:=Mi b i c e
   exact h v _ _ e2.1 (b5.same e2.2 q)
  | l xs=>exact False.elim h
  | m xs=>exact False.elim h
  | x e=>exact False.elim h
  | g k n f=>exact False.elim h
  | k S=>exact False.elim h
  | f S=>exact False.elim h
  | o S=>exact False.elim h
  | w S=>exact False.elim h
  | h _ _ _ _=>exact False.elim h
 | ex x=>
  intro a C F' H' e q c
  have e2:=Mi b i c e
  exact h a C _ _ e2.1 (q.same e2.2)
theorem La{body:L9 Stmt}{fb:Sg->R Fw}(hb:S.body=.stmts body)(Sc:dm N ps fr S.scope)(p:∀ (cl:L9 (Str×Az)) (doc pm:V9) (cc:Az) (ct:V9) (us:L9 V9),us.length=ps.length->bindArgs (S.fd cl doc pm cc ct) ⟨us,[]⟩=pure (ps.zip us))
  (c:∀ (f cc:Az) (cl:L9 (Str×Az)) (A:U9) (outer:L9 Env) (s:S9) (H F:Hp) (E E':XK),cw k (A.deeper (b7 S.qual S.scope s.heap.objs.size f (.ref cc) cl))->
   gc ((mP (d4 P w) P w K mg base N fr S.qual S.scope f (.ref cc) cl A outer s H E').mf E) ⟨K,mg,w,F,gg (bB fr cl) H,g6 P w K mg base T,(b7 S.qual S.scope s.heap.objs.size f (.ref cc) cl).cells,λ_=>none⟩ E body fb) :
  ir P w K mg base T S fr (k+1) ps.length (gC N.length fb):=by
 intro B x t gu f cl doc pm ct cc j d n r i C m
 refine⟨S.fd cl doc pm cc ct,ps,rfl,.all (p cl doc pm cc ct),⟨λvs H Q E h=>?_,λA outer s H args us vs Q E hr e0 q u g=>?_⟩,.inr ⟨_,_,_,_,r⟩⟩
 .obtain ⟨F,ds,h1⟩:=h
  rw[h1.2.2.2.1.length,h1.2.2.2.2.1]
 .obtain ⟨F,ds,h1⟩:=g
  have e:=N5 j d n h1.1 h1.2.2.1 C m h1.2.2.2.1
  refine Xc hb (h1.2.2.1 _ _ (h1.1 _ _ r)) (h1.2.2.1 _ _ (h1.1 _ _ i)) Sc (C.same λb o z=>h1.2.2.1 b o (h1.1 b o z)) hr e0 q u (by rw[h1.2.2.2.1.length,h1.2.2.2.2.1]) λl=>⟨_,c f cc cl A outer s H (gg (bB fr cl) F) _ E l,?_⟩
  have y:=Mh (P:=P) (w:=w) (base:=base) (T:=T) h1.2.2.1 e.1 h1.2.2.2.2.2
  refine mY (Q:=λv H'=>(∀ a∈bB fr cl,H' a=none)->Q v (qb _ H H')) e.2.1 e.2.2.1 e.2.2.2 ?_
  ext
theorem Rg{body:Ez}{fe:Sg->R Dz}(hb:S.body=.expr body)(Sc:dm N ps fr S.scope)(B:∀ (cl:L9 (Str×Az)) (doc pm:V9) (cc:Az) (ct:V9) (us:L9 V9),us.length=ps.length->bindArgs (S.fd cl doc pm cc ct) ⟨us,[]⟩=pure (ps.zip us))
  (i:∀ (f cc:Az) (cl:L9 (Str×Az)) (A:U9) (outer:L9 Env) (s:S9) (H F:Hp) (E E':XK),cw k (A.deeper (b7 S.qual S.scope s.heap.objs.size f (.ref cc) cl))->
   PD ((mP (d4 P w) P w K mg base N fr S.qual S.scope f (.ref cc) cl A outer s H E').mf E) ⟨K,mg,w,F,gg (bB fr cl) H,g6 P w K mg base T,(b7 S.qual S.scope s.heap.objs.size f (.ref cc) cl).cells,λ_=>none⟩ E body fe) :
  ir P w K mg base T S fr (k+1) ps.length (gC N.length (aM (vD fe))):=by
 intro Z Y c gu f cl doc pm ct cc p l y J n C q
 refine⟨S.fd cl doc pm cc ct,ps,rfl,.all (B cl doc pm cc ct),⟨λvs H Q E h=>?_,λA outer s H args us vs Q E hr e0 t W m=>?_⟩,.inr ⟨_,_,_,_,J⟩⟩
 .obtain ⟨F,ds,_,_,_,h1,h2,_⟩:=h
  rw[h1.length,h2]
 .obtain ⟨F,ds,h1,h2,j,I,M,O⟩:=m
  obtain⟨V,U,X,L⟩:=N5 p l y h1 j C q I
  refine V2 hb (j _ _ (h1 _ _ J)) (j _ _ (h1 _ _ n)) Sc (C.same λb o z=>j b o (h1 b o z)) hr e0 t W (by rw[I.length,M]) λu=>⟨_,i f cc cl A outer s H (gg (bB fr cl) F) _ E u,?_⟩
  have g:=Mh (P:=P) (w:=w) (base:=base) (T:=T) (r:=du N.length (aM (vD fe)) (ds.map .d++c)) j V O
  refine⟨_,_,w6 U X L,?_⟩
  unfold du aM vD at g
  cases e:fe ((ds.map _f.A.d++c).map some++replicate (N.length - (ds.map _f.A.d++c).length) none)with
  | bad=>rw[e]at g;exact g
  | ok d=>rw[e]at g;exact λv G H' e1 r1 D=>g v G H' e1 r1 D
  | ex x=>rw[e]at g;exact λa C G H' e1 r1 D=>g a C G H' e1 r1 D
end
def uX(c:Ct)(F:Hp)(S:ej)(v:V):Prop:=∃ f cl doc pm cc ct,v=.ref f/\F f=some (mW f (S.obj cl doc pm cc ct))/\F cc=some (.nq S.qual)/\u2 c.cells S.scope cl
theorem uX.same{c:Ct}{F a:Hp}{S:ej}{v:V}(s:aH F a):uX c F S v->uX c a S v:=λf=>by obtain⟨f,cl,doc,pm,b,ct,h1⟩:=f;exact⟨f,cl,doc,pm,b,ct,h1.1,s _ _ h1.2.1,s _ _ h1.2.2.1,h1.2.2.2⟩
theorem Mg{c:Ct}{S:ej}{P0:Az}{qs:L9 (Pos×Str)}{cells:L9 (Str×Az)}{Y:Sg}{Z:_a.St}{F H:Hp}{Q:VK}(d:cells=c.cells)(l:c.g.T P0=some (.lW qs))(ab:Ab c Y Z F H)(h:∀ v F' H',Ext F H F' H'->uX c F' S v->Q v H'):zd cells S P0 qs Z H Q:=by
 subst d
 refine⟨ab.fh _ _ (ab.f0 _ _ (ab.t0 _ _ l)),λf b cl doc pm ct H1 k j e=>?_⟩
 have e1:∃ i,Ext F H i H1/\i b=some (.nq S.qual):=by
  rcases k with ⟨q,rfl⟩|⟨q,rfl⟩
  .refine ⟨upd F b _,⟨bP _,λa o z=>?_,λa o z=>?_,λa z n=>?_⟩,aI⟩
   .by_cases w:a=b
    .subst w
     have:=ab.fh a o z
     rw[q]at this;cases this
     exact aI
    .rw[aE w];ext
   .by_cases w:a=b
    .subst w;rw[aI]at z;rw[q];ext
    .rw[aE w]at z;exact ab.fh a o z
   .by_cases w:a=b
    .subst w;exact .inr ⟨_,q⟩
    .rw[aE w]at n;simp_all
  .exact ⟨upd F b _,Ext.new ab.fh q,aI⟩
 obtain⟨i,e1⟩:=e1
 exact h _ _ _ (e1.1.trans (Ext.new e1.1.fh j)) ⟨f,cl,doc,pm,b,ct,rfl,aI,(Ext.new e1.1.fh j).ff _ _ e1.2,e⟩
noncomputable def yR(i:Nat)(q:Str):Sg->R Fw:=λY=>.ok (.nx (Y.set i (some (.k q))))
theorem Mf{X:Cx}{c:Ct}{E:XK}{st:Stmt}{i:Nat}{q:Str}{S:ej}{P0:Az}{qs:L9 (Pos×Str)}{cells:L9 (Str×Az)}(b:cells=c.cells)(j:c.cls q=some S)(d:c.g.T P0=some (.lW qs))(h:PS X st (jR (zd cells S P0 qs) (fQ i))):gp X c E st (yR i q):=PS.imp h λD Z H a=>by
 obtain⟨Y,F,ab,k⟩:=a
 refine Mg b d ab λv m H' e l=>?_
 exact Rk.ok k _ m H' e.ff ((ab.ext e).vo (let ⟨f,cl,doc,pm,cc,ct,h⟩:=l;⟨S,f,cl,doc,pm,cc,ct,j,h⟩) λz=>nomatch z)
noncomputable def yS:O9 (O9 A)->O9 A
 | some (some (.d x))=>some (.d x)
 | some (some (.x e))=>some (.x e)
 | some (some (.g k n G))=>some (.g k n G)
 | _=>none
noncomputable def eB:L9 Nat->Sg->O9 (L9 A)
 | [],_=>some []
 | j::js,Y=>match yS Y[j]?,eB js Y with
  | some a,some as=>some (a::as)
  | _,_=>none
theorem rB{o:O9 (O9 A)}{a:A}(h:yS o=some a):o=some (some a)/\∀ {c:Ct} {F H:Hp} {v:V},AO c F H a v->AF c.g c.K c.mg F a v:=by
 unfold yS at h
 split at h<;>cases h
 all_goals exact⟨rfl,λz=>z⟩
theorem Me{c:Ct}{Y:Sg}{Z:_a.St}{F H:Hp}(ab:Ab c Y Z F H):∀ {js:L9 Nat} {fv:L9 A},eB js Y=some fv->∃ gu,je c.g c.K c.mg F fv gu/\gu.length=js.length/\∀ (i:Nat) j,js[i]? = some j->∃ v,gu[i]? = some v/\Z[j]? = some (some v)
 | [],_,h=>by cases h;exact⟨[],trivial,rfl,λi j z=>by simp_all⟩
 | j::js,fv,h=>by
  unfold eB at h
  split at h
  .rename_i a as h1 h2
   cases h
   obtain⟨gu,r⟩:=Me ab h2
   obtain⟨v,b⟩:=ab.slot j a (rB h1).1
   refine⟨v::gu,⟨(rB h1).2 b.2,r.1⟩,by simp[r.2.1],λi d e=>?_⟩
   cases i with
   | zero=>simp at e;subst e;exact⟨v,rfl,b.1⟩
   | succ i=>simp_all
  simp_all
def Bb(X:Cx)(T:Hp)(c:Ct)(js:L9 Nat)(Y:Sg)(F:Hp)(a:A)(v:V):Prop:=AF c.g c.K c.mg F a v \/
 ∃ S fr sl k n Gm fv,a=.g k n (Gm fv)/\uX c F S v/\ir X.prog X.w X.K X.mg X.base T S fr k n Gm/\(∀ y,(y,NameKind.free)∈S.scope.names->y∈fr)/\(∀ y∈fr,(y,NameKind.free)∈S.scope.names)/\sl.map (λj=>X.N[j]?)=fr.map some/\(∀ j∈sl,j∈js)/\eB sl Y=some fv
theorem Bb.same{X:Cx}{T:Hp}{c:Ct}{js:L9 Nat}{Y:Sg}{F d:Hp}{a:A}{v:V}(s:aH F d)(h:Bb X T c js Y F a v):Bb X T c js Y d a v:=by
 rcases h with h|⟨S,fr,sl,k,n,Gm,b,h1,h2,e⟩
 · exact .inl (AF.same s h)
 · exact .inr ⟨S, fr, sl, k, n, Gm, b, h1, h2.same s, e⟩
def HJ(X:Cx)(T:Hp)(c:Ct)(js:L9 Nat)(Y:Sg)(F:Hp):L9 A->L9 V->Prop
 | [],[]=>True
 | a::as,v::vs=>Bb X T c js Y F a v/\HJ X T c js Y F as vs
 | _,_=>False
def By(X:Cx)(T:Hp)(c:Ct)(js:L9 Nat)(E:XK)(f:Sg->R A):TE:=λZ H Q=>∃ Y F,Ab c Y Z F H/\Rk c E F H (f Y) λa=>∀ v F' H',Ext F H F' H'->Bb X T c js Y F' a v->Q v H'
def Bx(X:Cx)(T:Hp)(c:Ct)(js:L9 Nat)(E:XK)(f:Sg->R (L9 A)):TA:=λZ H Q=>∃ Y F,Ab c Y Z F H/\Rk c E F H (f Y) λas=>∀ vs F' H',Ext F H F' H'->HJ X T c js Y F' as vs->Q vs H'
section
variable{X:Cx}{T:Hp}{c:Ct}{js:L9 Nat}{E:XK}{e:Ez}{es:L9 Ez}
theorem Qt{f:Sg->R A}(h:PV X c E e f):PE X e (By X T c js E f):=PE.imp h λZ H Q Y=>by obtain⟨Y,F,ab⟩:=Y;exact⟨Y,F,ab.1,ab.2.imp λa _ q v b H' e1 r=>q v b H' e1 (.inl r)⟩
def yT(q:Str)(sl:L9 Nat)(k n:Nat)(Gm:L9 A->L9 Dz->R Dz)(i:Nat):Sg->R A:=λY=>match Y[i]?,eB sl Y with
 | some (some (.k q')),some fv=>if q'=q then .ok (.g k n (Gm fv))else .bad
 | _,_=>.bad
theorem TU{S:ej}{sl:L9 Nat}{Gm:L9 A->L9 Dz->R Dz}(p:c.cls q=some S)(M:ir X.prog X.w X.K X.mg X.base T S fr k n Gm)(h1:∀ y,(y,NameKind.free)∈S.scope.names->y∈fr)(h2:∀ y∈fr,(y,NameKind.free)∈S.scope.names)
  (t:sl.map (λj=>X.N[j]?)=fr.map some) (r:∀ j∈sl,j∈js) (h:PE X e (bU i)):PE X e (By X T c js E (yT q sl k n Gm i)):=PE.imp h λZ H Q ⟨Y,F,ab,k⟩=>by
 unfold yT at k
 split at k
 .rename_i o a hi l
  by_cases b:o=q
  .rw[AI b]at k
   subst b
   obtain⟨v,s,u,f,cl,doc,pm,m,ct,d,g⟩:=ab.slot i _ hi
   rw[p]at d;cases d
   exact⟨v,s,Rk.ok k v F H (Ext.refl ab.fh) (.inr ⟨_,fr,sl,_,_,Gm,a,rfl,(⟨f,cl,doc,pm,m,ct,g⟩),M,h1,h2,t,r,l⟩)⟩
  .rw[AM b]at k;exact k.elim
 .exact k.elim
def Ba(sl:L9 Nat)(k n:Nat)(Gm:L9 A->L9 Dz->R Dz):Sg->R A:=λY=>match eB sl Y with
 | some fv=>.ok (.g k n (Gm fv))
 | none=>.bad
theorem Rf{S:ej}{sl:L9 Nat}{Gm:L9 A->L9 Dz->R Dz}{P0:Az}{cells:L9 (Str×Az)}(b:cells=c.cells)(f:c.g.T P0=some (.lW qs))(M:ir X.prog X.w X.K X.mg X.base T S fr k n Gm)(h1:∀ y,(y,NameKind.free)∈S.scope.names->y∈fr)(h2:∀ y∈fr,(y,NameKind.free)∈S.scope.names)
  (o:sl.map (λj=>X.N[j]?)=fr.map some) (i:∀ j∈sl,j∈js) (h:PE X e (zd cells S P0 qs)):PE X e (By X T c js E (Ba sl k n Gm)):=PE.imp h λZ H Q ⟨Y,F,ab,k⟩=>by
 unfold Ba at k
 split at k
 .rename_i a l
  exact Mg b f ab λv m H' e1 d=>Rk.ok k v m H' e1 (.inr ⟨_,fr,sl,_,_,Gm,a,rfl,d,M,h1,h2,o,i,l⟩)
 .exact k.elim
theorem TR:PA X [] (Bx X T c js E aF):=PA.imp bI λZ H Q Y=>by obtain⟨Y,F,ab⟩:=Y;exact Rk.ok ab.2 [] F H (Ext.refl ab.1.fh) trivial
end
section
variable{X:Cx}{T:Hp}{c:Ct}{js:L9 Nat}{E:XK}{e:Ez}{es:L9 Ez}
theorem xC{f:Sg->R A}{g:Sg->R (L9 A)}(h:PE X e (By X T c js E f))(h2:PA X es (Bx X T c js E g))(i:autoParam (starEach (e::es) X.env=(false,eval e X.env)::starEach es X.env) z3):PA X (e::es) (Bx X T c js E (aC f g)):=PA.imp (aO h h2 i) λZ H Q a=>by
 obtain⟨Y,F,ab,k⟩:=a
 refine⟨Y,F,ab,(Rk.bind k).imp λx _ q v j H1 s1 r1=>⟨Y,j,ab.ext s1,((Rk.bind q).ext s1).imp λxs _ q vs d H2 b r2=>?_⟩⟩
 exact Rk.ok q _ d H2 (s1.trans b) ⟨r1.same b.ff,r2⟩
theorem xD:∀ {js:L9 Nat} {Y:Sg} {fv:L9 A},eB js Y=some fv->∀ j∈js,∃ a,Y[j]? = some (some a)
 | [],_,_,_,j,hj=>by simp_all
 | i::js,Y,fv,h,j,hj=>by
  unfold eB at h
  split at h
  .rename_i a b h1 h2
   rcases AQ.mp hj with z|z
   · subst z; exact⟨a, (rB h1).1⟩
   · exact xD h2 j z
  simp_all
theorem TQ{N:L9 α}{sl:L9 Nat}{fr:L9 α}(h:sl.map (λj=>N[j]?)=fr.map some):sl.length=fr.length/\∀ (i:Nat) x,fr[i]? = some x->∃ j,sl[i]? = some j/\N[j]? = some x:=by
 have a:=by have:=ES length h;simpa using this
 refine⟨a,λi x e=>?_⟩
 have hi:=(AH.mp e).1
 have h2:(sl.map (λj=>N[j]?))[i]? = (fr.map some)[i]?:=by rw[h]
 rw[AZ,AZ,e,AJ (by ext)]at h2
 exact⟨sl[i],AJ _,CB h2⟩
theorem NM{S:ej}{sl:L9 Nat}{Gm:L9 A->L9 Dz->R Dz}{d:L9 A}{Y:Sg}{Z:_a.St}{F H:Hp}{B:Cv}{v:V}(E:c.g=g6 X.prog X.w X.K X.mg X.base T)(hK:X.K=c.K)(hM:X.mg=c.mg)(p:X.env.cells=c.cells)(ab:Ab c Y Z F H)(R:ka X Z H js B)
  (O:uX c F S v) (M:ir X.prog X.w X.K X.mg X.base T S fr k n Gm) (h1:∀ y,(y,NameKind.free)∈S.scope.names->y∈fr) (h2:∀ y∈fr,(y,NameKind.free)∈S.scope.names)
  (h3:sl.map (λj=>X.N[j]?)=fr.map some) (h4:∀ j∈sl,j∈js) (hc:eB sl Y=some d):AF c.g c.K c.mg (lg B F) (.g k n (Gm d)) v:=by
 obtain⟨f,cl,doc,pm,W,ct,rfl,q1,q2,u⟩:=O
 obtain⟨gu,r,l,gt⟩:=Me ab hc
 have G:=TQ h3
 have h:=λb hb=>aY ab.fh (R.free b hb)
 have s:∀ i x v,fr[i]? = some x->gu[i]? = some v->∃ a o,cl.lookup x=some a/\B.lookup a=some _:=λi x v e1 e2=>by
  obtain⟨j,m,C⟩:=G.2 i x e1
  obtain⟨v',J,e6⟩:=gt i j m
  rw[e2]at J;cases J
  obtain⟨x',a,o,v2,L,e8,I,D⟩:=R.all j (h4 j (AD m))
  rw[C]at L;cases L
  rw[e6]at I;cases I
  obtain⟨Q,t⟩:=u.all _ (h2 x (AD e1)) rfl
  have q:=u.of _ _ t
  rw[<-p]at q
  rw[e8]at q;cases q
  exact⟨a,o,t,D⟩
 refine⟨f,lg B F,rfl,bP _,?_⟩
 rw[E]
 refine M F _ d gu f cl doc pm ct W (λa o z=>ab.f0 a o (ab.t0 a o (by rw[E];exact z))) (by simp_all) (dR h) ((dR h) _ _ q1) ((dR h) _ _ q2) ⟨l.trans G.1,λn c e=>h1 n (u.only n c e),λn U c e e'=>R.inj n U c (by rw[p];exact u.of _ _ e) (by rw[p];exact u.of _ _ e'),λi x v e1 e2=>?_⟩ λa ha=>?_
 .obtain ⟨a,o,m⟩:=s i x v e1 e2
  exact⟨a,o,m.1,pI m.2⟩
 .obtain ⟨x,P,e⟩:=DE.mp ha
  obtain⟨i,hi,aa⟩:=EB.mp P
  obtain⟨Q,o,m,C⟩:=s i x (gu[i]'(by simp_all)) (by simp_all) (AJ _)
  rw[e]at m;cases m
  exact h a (gK.mpr ⟨_,C⟩)
theorem N4{Y:Sg}{Z:_a.St}{F H:Hp}{cv:Cv}(hG:c.g=g6 X.prog X.w X.K X.mg X.base T)(hK:X.K=c.K)(hM:X.mg=c.mg)(Js:X.env.cells=c.cells)(ab:Ab c Y Z F H)(R:ka X Z H js cv):∀ {as:L9 A} {vs:L9 V},HJ X T c js Y F as vs->je c.g c.K c.mg (lg cv F) as vs
 | [],[],_=>trivial
 | a::as,v::vs,h=>by
  refine⟨?_,N4 hG hK hM Js ab R h.2⟩
  rcases h.1 with q|⟨S,fr,sl,k,n,Gm,d,rfl,f,p,i,o,m,e,l⟩
  · exact AF.same (dR λb j => aY ab.fh (R.free b j)) q
  · exact NM hG hK hM Js ab R f p i o m e l
def tF(js:L9 Nat)(n:Nat)(G:L9 A->R A)(f:Sg->R (L9 A)):Sg->R A:=λY=>match eB js Y with
 | some _=>(f Y).bind λas=>if as.length=n then(xn (G as)).bind λx=>.ok (.d x)else .bad
 | none=>.bad
theorem Q_{G:L9 A->R A}{g:Gb}{f:Sg->R (L9 A)}(O:c.g=g6 X.prog X.w X.K X.mg X.base T)(hK:X.K=c.K)(V:X.mg=c.mg)(p:X.env.cells=c.cells)(P:g=c.g)(hk:K=c.K)(W:mg=c.mg)
  (s:∀ j∈js,∃ x,X.N[j]? = some x/\X.env.kindOf x=some .cell/\X.fn x=true) (h:PE X e (Ll X js (nh g K mg n G) E (Bx X T c js E f))):PV X c E e (tF js n G f):=PE.imp h λZ H Q ⟨Y,F,ab,k⟩=>by
 subst P hk W
 unfold tF at k
 split at k
 .rename_i D L
  refine⟨Y,F,ab,(Rk.bind k).imp λu _ q vs U H1 e1 r1=>⟨λj y=>?_,λcv R=>?_⟩⟩
  .obtain ⟨x,t⟩:=s j y
   obtain⟨a,M⟩:=xD L j y
   obtain⟨v,hv⟩:=ab.slot j a M
   exact⟨x,v,t.1,t.2.1,t.2.2,hv.1⟩
  .by_cases r:u.length=n
   .rw[AI r]at q
    refine⟨lg cv U,u,λa o z=>dR (λb B=>aY e1.fh (R.free b B)) a o (e1.ff a o (ab.f0 a o (ab.t0 a o z))),Nm e1.fh,N4 O hK V p (ab.ext e1) R r1,r,?_⟩
    cases i:G u with
    | bad=>rw[i]at q;exact q
    | ok a=>
     rw[i]at q
     cases a with
     | d x=>
      intro v J H2 e2 r2
      exact Rk.ok q v _ _ (e1.trans (N6 R.free e1.fh e2)) (Mj (Nn e2.ff) r2)
     | l xs=>exact False.elim q
     | m xs=>exact False.elim q
     | x xs=>exact False.elim q
     | g k n f=>exact False.elim q
     | k S=>exact False.elim q
     | f S=>exact False.elim q
     | o S=>exact False.elim q
     | w S=>exact False.elim q
     | h _ _ _ _=>exact False.elim q
    | ex x=>
     rw[i]at q
     intro a C J H2 e2 r2
     obtain⟨I,q2⟩:=VN (Nn e2.ff) r2
     exact⟨q a C _ _ ((ab.all.trans e1).trans (N6 R.free e1.fh e2)) I,λb B=>by simp_all⟩
   .rw[AM r]at q;exact q.elim
 .exact k.elim
end
section
variable{P:P9}{w:W9}{K:Frag}{mg:Str->O9 V9}{base:Hz}{T:Hp}
structure jc(K:Frag)(mg:Str->Option V9)(base:Heap)(T:Hp)(qs:List (Pos×Str))(x:Str)(st:Stmt)(ps:List Str):Prop where
 ex:∃ f oc od kV doc pm an c0 ct zk P0,K.lookup f=some ⟨oc,od,.func (fnOf x x (bT st) (aT st) (aD st) .none kV doc pm an (.ref c0) ct),zk⟩/\codeIn K (.ref c0) x=true/\keepIn K (.ref f)=true /\
  cG K (fnOf x x (bT st) (aT st) (aD st) .none kV doc pm an (.ref c0) ct) ps []/\mg x=some (.ref f)/\Tb mg base c0 P0/\T P0=some (.lW qs)
theorem Ae{h:Hz}{xs:L9 Str}(D:jv K mg x st ps)(KX:K.In h)(j:Be mg h base T qs xs)(hx:x∈xs):jc K mg base T qs x st ps:=by
 obtain⟨f,fd,F⟩:=D.ex
 obtain⟨g,od,kV,doc,pm,i,d,ct,a,rfl,c⟩:=F.1.ex
 obtain⟨c0,P0,b⟩:=j x hx
 have e:=b.2.2 f _ _ F.2.2 (KX _ _ c.1) rfl
 subst e
 exact⟨f,g,od,kV,doc,pm,i,c0,ct,a,P0,c.1,c.2,F.1.kp,F.2.1,F.2.2,b.2.1,b.1⟩
theorem TN{x:Str}{st:Stmt}{N ps:L9 Str}{k:Nat}{qs:L9 (Pos×Str)}{cls:Str->O9 ej}{fb:Sg->R Fw}(D:jc K mg base T qs x st ps)(S:cb N ps (aD st))
  (a:∀ (f c0 P0:Az) (A:U9) (outer:L9 Env) (s:S9) (H F:Hp) (E:XK),Tb mg base c0 P0->T P0=some (.lW qs)->cw k (A.deeper (envOfC x (aD st) s.heap.objs.size f (.ref c0)))->
   gc ((cR (d4 P w) P w K mg base N x (aD st) f (.ref c0) A outer s H E).mf E) ⟨K,mg,w,F,H,g6 P w K mg base T,(envOfC x (aD st) s.heap.objs.size f (.ref c0)).cells,cls⟩ E (aT st) fb):cE P w K mg base T (k+1) x ps (du N.length fb):=by
 obtain⟨f,g,od,kV,doc,pm,i,c0,ct,d,P0,b⟩:=D.ex
 refine⟨f,_,Fc b.1 b.2.1 S (λvs H Q E h=>?_) (λA outer s H vs Q E hr h=>?_),b.2.2.2.1,b.2.2.2.2.1,b.2.2.1⟩
 .obtain ⟨F,e,h2⟩:=h
  rw[h2.2.2.1.len,h2.2.2.2.1]
 .obtain ⟨F,e,c⟩:=h
  exact⟨_,(a f c0 P0 A outer s H F E b.2.2.2.2.2.1 b.2.2.2.2.2.2 hr).rb λ_ _ z=>sH z,mY c.1 c.2.1 c.2.2.1 c.2.2.2.2⟩
end
noncomputable def JE:Stmt->Ez
 | .Assign _ e _=>e
 | .Return (some e) _=>e
 | _=>.Constant .none 0 ⟨0,0,0,0⟩
noncomputable def JD(e:Ez)(i:Nat):Ez:=match e with
 | .Call _ as _ _=>as.getD i (.Constant .none 0 ⟨0,0,0,0⟩)
 | e=>e
noncomputable def Jv(q:Str):Stmt->ej
 | .FunctionDef x a b _ _ _ sc _ _ _=>⟨x,q,a,.stmts b,sc⟩
 | s=>⟨"",q,bT s,.stmts [],aD s⟩
noncomputable def O1(q:Str):Ez->ej
 | .Lambda a b sc _=>⟨"<lambda>",q,a,.expr b,sc⟩
 | _=>⟨"",q,bT (.Pass ⟨0,0,0,0⟩),.stmts [],aD (.Pass ⟨0,0,0,0⟩)⟩
noncomputable def JC:Stmt->Pos
 | .FunctionDef _ _ _ _ _ _ _ _ _ p=>p
 | _=>⟨0,0,0,0⟩
noncomputable def YK:Ez->Pos
 | .Lambda _ _ _ p=>p
 | _=>⟨0,0,0,0⟩
theorem Q9{X:Cx}:∀ j∈([]:L9 Nat),∃ x,X.N[j]? = some x/\X.env.kindOf x=some .cell/\X.fn x=true:=λj h=>by simp_all
theorem TM{X:Cx}{i:Nat}{js:L9 Nat}(h:∃ x,X.N[i]? = some x/\X.env.kindOf x=some .cell/\X.fn x=true)(t:∀ j∈js,∃ x,X.N[j]? = some x/\X.env.kindOf x=some .cell/\X.fn x=true):∀ j∈i::js,∃ x,X.N[j]? = some x/\X.env.kindOf x=some .cell/\X.fn x=true:=λj a=>by
 rcases AQ.mp a with z|z<;>simp_all
end _f
variable{ps:L9 (Int×Int)}{z i1 i2:Az}
namespace _g
section
variable{prog:P9}{w:W9}{A:U9}{E:V9->S9->Prop}{s:S9}
theorem vP{t:Az}{items}{x:V9}(b:s.heap.IsTupleIter it t i)
  (e:s.heap.IsTuple t items) (hx:items[i]? = some x) (f:∀ h',h'.IsTupleIter it t (i+1)->Heap.SameBut it s.heap h'->Q x {s with heap:=h'}) :
  wpAny (model prog w) A (Builtin.SmallTypes.nextOf (.ref it)) Q E s:=by
 obtain⟨o,a⟩:=id b
 obtain⟨g,c,_,h,d⟩:=e
 refine AA (CI b.typeIs DL
  (C3 DL b.typeIs FB ?_ (E9 _)))
 show wpAny _ _ (field _ 0 >>= _) _ _ s
 refine AA (B0 a.1 a.2.2 (x:=.ref t) rfl ?_)
 refine AA (B0 a.1 a.2.2 rfl ?_)
 refine AA (DD c d ?_)
 simp[hx]
 refine AA (DR a.1 a.2.2 (by simp) (AC ⟨x,rfl,AC (f _ ?_ (CY ..))⟩))
 exact⟨_,BK _ a.1 (D8 (C4 a.2.2 _)),(Obj.cls_mapFields ..).trans a.2.1,by
  rw[C4 a.2.2];rfl⟩
theorem xE{t:Az}{items}(h:A.handled=none)
  (b:s.heap.IsTupleIter it t i) (g:s.heap.IsTuple t items) (hx:items[i]? = none)
  (j:∀ h' e,Heap.ExtBut it s.heap h'->(∃ o,h'.get? e=some o/\o.cls=.type "StopIteration")->E (.ref e) {s with heap:=h'}) :
  wpAny (model prog w) A (Builtin.SmallTypes.nextOf (.ref it)) Q E s:=by
 obtain⟨o,c⟩:=id b
 obtain⟨k,d,_,l,f⟩:=g
 refine AA (CI b.typeIs DL
  (C3 DL b.typeIs FB ?_ (E9 _)))
 show wpAny _ _ (field _ 0 >>= _) _ _ s
 refine AA (B0 c.1 c.2.2 (x:=.ref t) rfl ?_)
 refine AA (B0 c.1 c.2.2 rfl ?_)
 refine AA (DD d f ?_)
 simp[hx]
 refine AA (wpAny_rule (AA (DR c.1 c.2.2 (by simp) ?_)))
 refine AA ?_
 refine AA (m:=firstArgMember _ _) (wpAny_of_eq (a:=Value.none) (by rfl) ?_)
 refine DN ?_ (by size_fits)
 refine AA (wpAny_handled ?_)
 first|rfl|rw[h]
 refine AA (AC (wpAny_throw ?_))
 exact j _ _ (((CY ..).extBut.push _).push _) ⟨_,AN _ rfl,rfl⟩
end
theorem Yf{w:W9}{A:U9}(e:A.handled=none)(it l:Az)(c:l≠it)(items:Array V9) :
  Draws prog w A it [it,l] items.size (λi v=>items[i]? = some v) (λi h=>h.IsTupleIter it l i/\h.IsTuple l items) where
 live:=λ_ _ st=>let ⟨o,ho,_⟩:=st.1;⟨o,ho⟩
 frame:=λ_ _ _ st d=>⟨let ⟨o,ho,r⟩:=st.1;⟨o,d it (by simp) o ho,r⟩,let ⟨o,ho,r⟩:=st.2;⟨o,d l (by simp) o ho,r⟩⟩
 item:=λi s Q E hi st f=>by
  refine vP st.1 st.2 (x:=items[i]) (by simp[hi]) λh' b a=>?_
  exact f _ h' s.toks (by simp[hi]) ⟨b,st.2.extBut a.extBut c⟩ a
 done:=λs Q E st g=>xE e st.1 st.2 (by simp) g
structure Apart(z TI TO i1 i2:Az)(f1 f2:List Az):Prop where
 TIz:TI≠z
 TOz:TO≠z
 i1z:i1≠z
 i2z:i2≠z
 TITO:TI≠TO
 TIi1:TI≠i1
 TIi2:TI≠i2
 TOi1:TO≠i1
 TOi2:TO≠i2
 i12:i1≠i2
 z1:z∉f1
 z2:z∉f2
 t1:TO∉f1
 t2:TO∉f2
 zw:i1∉f2
 zv:i2∉f1
section
variable{prog:P9}{w:W9}{A:U9}{E:V9->S9->Prop}{s:S9}
abbrev rC(h:Hz)(z TI TO:Az)(f0 f1:V9):Prop:=h.get? z=some {cls:=.type "zip",dict:=none,data:=.fields #[f0,f1,.bool false,.ref TI,.ref TO],slots:=#[]}
theorem NL{M:Model}{A:U9}{E:V9->S9->Prop}{s:S9}{Q:O9 Obj->S9->Prop}(h:Q (s.heap.get? a) s):wpAny M A (loadIfAlive a) Q E s:=λΓ p _=>by
 assumption
theorem WU{TI TO:Az}{f0:V9}{c:Bool}{Q:Bool->S9->Prop}(d:rC s.heap z TI TO f0 (.bool c))(a:f0=.none\/∃ T:Az,f0=rawInt T/\s.heap.get? T=none)(h:Q true s):wpAny (model prog w) A (Builtin.SmallTypes.ownedTupleIsFree (.ref z)) Q E s:=by
 refine AA (B0 d rfl (x:=f0) rfl ?_)
 rcases a with rfl|⟨T,rfl,b⟩
 .exact AC h
 .refine AA (NL ?_)
  rw[show((T:Int)).toNat=T by rfl,b]
  exact AC h
def ZN(h:Hz)(z TI TO:Az):Prop:=(∃ f0 bb,rC h z TI TO f0 (.bool bb)/\(f0=.none\/∃ T:Az,f0=rawInt T))/\∃ a b,IsPair h TO a b
theorem TL{TI TO T:Az}{oT:Obj}{d:Bool}{Q:Bool->S9->Prop}(a:rC s.heap z TI TO (rawInt T) (.bool d))(e:s.heap.get? T=some oT)
  (h:∀ h',rC h' z TI TO (rawInt T) (.bool true)->Heap.SameBut z s.heap h'->Q false {s with heap:=h'}):wpAny (model prog w) A (Builtin.SmallTypes.ownedTupleIsFree (.ref z)) Q E s:=by
 refine AA (B0 a rfl rfl ?_)
 refine AA (NL ?_)
 rw[show((T:Int)).toNat=T by rfl,e]
 refine AA (B0 a rfl rfl ?_)
 cases d with
 | true=>exact AC (h _ a ⟨rfl,λ_ _=>rfl⟩)
 | false=>
  refine AA (C5 a (by simp) λh1 b c=>?_)
  exact AC (h h1 b c)
theorem Draws.nx{f:L9 Az}{P:Nat->V9->Prop}{S:Nat->Hz->Prop}(D:Draws prog w A it f n P S)(h:i<=n)(st:S i s.heap)
  (a:i < n->∀ x h' tk,P i x->S (i+1) h'->Heap.SameBut it s.heap h'->Q x {s with heap:=h',toks:=tk})
  (hE:i=n->∀ h' e,Heap.ExtBut it s.heap h'->(∃ o,h'.get? e=some o/\o.cls=.type "StopIteration")->E (.ref e) {s with heap:=h'}):wpAny (model prog w) A (Builtin.SmallTypes.nextOf (.ref it)) Q E s:=by
 rcases Nat.lt_or_ge i n with l|l
 .exact D.item i s Q E l st (a l)
 .obtain rfl:=Nat.le_antisymm h l
  exact D.done s Q E st (hE rfl)
structure Oy(P1 P2:Nat->V9->Prop)(S1 S2:Nat->Heap->Prop)(h:Heap)(z TI TO i1 i2:Az)(i:Nat)(x y:V9)(h':Heap):Prop where
 p1:P1 i x
 p2:P2 i y
 zn:ZN h' z TI TO
 s1:S1 (i+1) h'
 s2:S2 (i+1) h'
 pr:IsPair h' h.objs.size x y
 sz:h'.objs.size=h.objs.size+1
 kp:∀ c o,c≠z->c≠TO->c≠i1->c≠i2->h.get? c=some o->h'.get? c=some o
theorem Q8{TI TO:Az}{f1 f2:L9 Az}{n1 n2:Nat}{P1 P2:Nat->V9->Prop}{S1 S2:Nat->Hz->Prop}(D:Apart z TI TO i1 i2 f1 f2)
  (D1:Draws prog w A i1 f1 n1 P1 S1) (U:Draws prog w A i2 f2 n2 P2 S2) (Y:ZN s.heap z TI TO) (ai:IsPair s.heap TI (.ref i1) (.ref i2)) (h1:S1 i s.heap) (h2:S2 i s.heap) (l1:i<=n1) (l2:i < n1->i<=n2)
  (hQ:i < n1->i < n2->∀ x y h' tk,Oy P1 P2 S1 S2 s.heap z TI TO i1 i2 i x y h'->Q (.ref s.heap.objs.size) {s with heap:=h',toks:=tk})
  (hE:i=n1\/(i < n1/\i=n2)->∀ h' tk e,(∀ c o,c≠z->c≠TO->c≠i1->c≠i2->s.heap.get? c=some o->h'.get? c=some o)->(∃ o,h'.get? e=some o/\o.cls=.type "StopIteration")->E (.ref e) {s with heap:=h',toks:=tk}) :
  wpAny (model prog w) A (Builtin.«zip.__next__» ⟨[.ref z],[]⟩) (λaj s'=>∃ v,aj=.done (.ret v)/\Q v s') E s:=by
 have fr:∀ {f:L9 Az} {c:Az} {g g':Hz},Heap.SameBut c g g'->c∉f->∀ b∈f,∀ o,g.get? b=some o->g'.get? b=some o:=λhs hc b hb o e=>hs.extBut _ _ (λz=>hc (z▸hb)) e
 obtain⟨⟨f0,bb,Y,hf⟩,a,b,ag⟩:=Y
 show wpAny _ _ (field _ 2 >>= _) _ _ _
 refine AA (B0 Y rfl (x:=.bool false) rfl ?_)
 refine AA (B0 Y rfl rfl (AA (DD ai rfl ?_)))
 have hc:(f0=.none\/∃ T:Az,f0=rawInt T/\s.heap.get? T=none)\/∃ (T:Az) (o:Obj),f0=rawInt T/\s.heap.get? T=some o:=by
  rcases hf with h|⟨T,h⟩
  .exact .inl (.inl h)
  .cases hg:s.heap.get? T with
   | none=>exact .inl (.inr ⟨T,h,hg⟩)
   | some o=>exact .inr ⟨T,o,h,hg⟩
 rcases hc with ah|⟨T,oT,rfl,hT⟩
 .refine AA (WU Y ah ?_)
  simp only[CG]
  refine AA (wpAny_rule ?_)
  refine AA (B0 Y rfl (x:=.ref TO) rfl ?_)
  refine AA (C5 Y (by simp) λC t k=>?_)
  replace t:rC C z TI TO .ellipsis (.bool bb):=t
  refine AA ?_
  simp only[List.zipIdx_cons,List.zipIdx_nil,D4,List.forIn_nil]
  refine AA (AA (wpAny_onRaise ?_))
  show wpAny _ _ (Builtin.SmallTypes.nextOf (.ref i1) >>= _) _ _ _
  refine AA (Draws.nx (s:={s with heap:=C}) D1 l1 (D1.frame _ _ _ h1 (fr k D.z1)) (λq1 x p O px G d=>AC ?_) λq p e d he=>?_)
  .have d:Heap.SameBut i1 C p:=d
   have M:IsPair p TO a b:=d.extBut _ _ D.TOi1 (k.extBut _ _ D.TOz ag)
   refine AA (DD M rfl ?_)
   refine AA (wpAny_updateSeq_pair M λm B j=>?_)
   replace B:IsPair m TO x b:=B
   have j:Heap.SameBut TO p m:=j
   refine AA (wpAny_letGo (AC ?_))
   refine AA (AA (wpAny_onRaise ?_))
   show wpAny _ _ (Builtin.SmallTypes.nextOf (.ref i2) >>= _) _ _ _
   refine AA (Draws.nx (s:={s with heap:=m,toks:=O}) U (l2 q1) (U.frame _ _ _ (U.frame _ _ _ (U.frame _ _ _ h2 (fr k D.z2)) (fr d D.zw)) (fr j D.t2)) (λq2 y N aa py ae l=>AC ?_) λq N e l he=>?_)
   .have l:Heap.SameBut i2 m N:=l
    refine AA (DD (l.extBut _ _ D.TOi2 B) rfl ?_)
    refine AA (wpAny_updateSeq_pair (l.extBut _ _ D.TOi2 B) λr u n=>?_)
    replace u:IsPair r TO x y:=u
    refine AA (wpAny_letGo (AC (AC ?_)))
    refine AA (DD u rfl ?_)
    refine AA (wpAny_newTuple ?_)
    have n:Heap.SameBut TO N r:=n
    have hsz:r.objs.size=s.heap.objs.size:=by rw[n.1,l.1,j.1,d.1,k.1]
    have L:rC r z TI TO .ellipsis (.bool bb):=n.extBut _ _ D.TOz.symm (l.extBut _ _ D.i2z.symm (j.extBut _ _ D.TOz.symm (d.extBut _ _ D.i1z.symm t)))
    show wpAny _ _ (Builtin.SmallTypes.ownedTupleHandOut (.ref z) (.ref r.objs.size) >>= _) _ _ _
    refine AA ?_
    unfold Builtin.SmallTypes.ownedTupleHandOut
    refine AA (C5 (AB _ L) (by simp) λh₇ J I=>?_)
    replace J:rC h₇ z TI TO (rawInt r.objs.size) (.bool bb):=J
    refine C5 J (by simp) λZ ad K=>?_
    have W:∀ c o,c≠z->r.get? c=some o->Z.get? c=some o:=λc o F e=>K.extBut _ _ F (I.extBut _ _ F (AB _ e))
    refine AC ⟨_,rfl,?_⟩
    show Q (.ref r.objs.size) _
    rw[hsz]
    refine hQ q1 q2 x y Z aa ⟨px,py,⟨⟨_,false,ad,.inr ⟨_,rfl⟩⟩,x,y,W _ _ D.TOz u⟩,?_,?_,?_,by rw[K.1,I.1,BX,hsz],λc o F V X c4 e=>W c o F (n.extBut _ _ V (l.extBut _ _ c4 (j.extBut _ _ V (d.extBut _ _ X (k.extBut _ _ F e)))))⟩
    .exact D1.frame _ _ _ (D1.frame _ _ _ (D1.frame _ _ _ (D1.frame _ _ _ G (fr j D.t1)) (fr l D.zv)) (fr n D.t1)) λb hb o e=>W b o (λq=>D.z1 (q▸hb)) e
    .exact U.frame _ _ _ (U.frame _ _ _ ae (fr n D.t2)) λb hb o e=>W b o (λq=>D.z2 (q▸hb)) e
    .rw[<-hsz]
     exact K.extBut _ _ (CK (AE L)) (I.extBut _ _ (CK (AE L)) (AN _ rfl))
   .obtain ⟨oe,H,P⟩:=he
    have R:rC N z TI TO .ellipsis (.bool bb):=l _ _ D.i2z.symm (j.extBut _ _ D.TOz.symm (d.extBut _ _ D.i1z.symm t))
    have ac:e≠z:=λx=>by subst x;rw[R]at H;cases H;simp at P
    exact C5 R (by simp) λr _ n=>hE (.inr ⟨q1,q⟩) r O e (λc o F V X c4 x=>n.extBut _ _ F (l _ _ c4 (j.extBut _ _ V (d.extBut _ _ X (k.extBut _ _ F x))))) ⟨oe,n.extBut _ _ ac H,P⟩
  .obtain ⟨oe,H,P⟩:=he
   have S:rC p z TI TO .ellipsis (.bool bb):=d _ _ D.i1z.symm t
   have ac:e≠z:=λx=>by subst x;rw[S]at H;cases H;simp at P
   exact C5 S (by simp) λm _ j=>hE (.inl q) m s.toks e (λc o F _ X _ x=>j.extBut _ _ F (d _ _ X (k.extBut _ _ F x))) ⟨oe,j.extBut _ _ ac H,P⟩
 .refine AA (TL Y hT λC t k=>?_)
  simp only[CC,DU]
  show wpAny _ _ ((forIn #[Value.ref i1,Value.ref i2] _ _) >>= _) _ _ _
  refine AA ?_
  rw[<-Array.forIn_toList]
  simp only[D4,List.forIn_nil]
  refine AA (AA (CA ?_))
  show wpAny _ _ (Builtin.SmallTypes.nextOf (.ref i1) >>= _) _ _ _
  refine AA (Draws.nx (s:={s with heap:=C}) D1 l1 (D1.frame _ _ _ h1 (fr k D.z1)) (λq1 x p O px G d=>AC (AC ?_)) λq p e d he=>hE (.inl q) p s.toks e (λc o F _ V _ x=>d _ _ V (k.extBut _ _ F x)) he)
  have d:Heap.SameBut i1 C p:=d
  refine AA (AA (CA ?_))
  show wpAny _ _ (Builtin.SmallTypes.nextOf (.ref i2) >>= _) _ _ _
  refine AA (Draws.nx (s:={s with heap:=p,toks:=O}) U (l2 q1) (U.frame _ _ _ (U.frame _ _ _ h2 (fr k D.z2)) (fr d D.zw)) (λq2 y m aa py af j=>AC (AC (AC ?_))) λq m e j he=>hE (.inr ⟨q1,q⟩) m O e (λc o F _ V X x=>j _ _ X (d.extBut _ _ V (k.extBut _ _ F x))) he)
  have j:Heap.SameBut i2 p m:=j
  have hsz:m.objs.size=s.heap.objs.size:=by rw[j.1,d.1,k.1]
  refine AA (wpAny_newTuple (hsz:=by show 2<=sizeLine;decide) (AC ⟨_,rfl,?_⟩))
  show Q (.ref m.objs.size) _
  rw[hsz]
  have W:∀ c o,m.get? c=some o->(m.push {cls:=.type "tuple",data:=.seq #[x,y]}).get? c=some o:=λc o e=>AB _ e
  refine hQ q1 q2 x y _ aa ⟨px,py,⟨⟨_,true,W _ _ (j.extBut _ _ D.i2z.symm (d.extBut _ _ D.i1z.symm t)),.inr ⟨_,rfl⟩⟩,a,b,W _ _ (j.extBut _ _ D.TOi2 (d.extBut _ _ D.TOi1 (k.extBut _ _ D.TOz ag)))⟩,D1.frame _ _ _ (D1.frame _ _ _ G (fr j D.zv)) λb hb o e=>W b o e,U.frame _ _ _ af λb hb o e=>W b o e,?_,by rw[BX,hsz],(λc o F _ V X e=>W c o (j.extBut _ _ X (d.extBut _ _ V (k.extBut _ _ F e))))⟩
  rw[<-hsz]
  exact AN _ rfl
theorem Md{TI TO:Az}{g p:L9 Az}{n1 n2:Nat}{k l:Nat->V9->Prop}{a d:Nat->Hz->Prop}{Q:O9 V9->S9->Prop}(D:Apart z TI TO i1 i2 g p)
  (D1:Draws prog w A.in1 i1 g n1 k a) (C:Draws prog w A.in1 i2 p n2 l d) (j:ZN s.heap z TI TO) (b:IsPair s.heap TI (.ref i1) (.ref i2)) (h1:a i s.heap) (h2:d i s.heap) (H:i<=n1) (r:i < n1->i<=n2)
  (v:i < n1->i < n2->∀ x y h' tk,Oy k l a d s.heap z TI TO i1 i2 i x y h'->Q (some (.ref s.heap.objs.size)) {s with heap:=h',toks:=tk})
  (hE:i=n1\/(i < n1/\i=n2)->∀ h' tk,(∀ c o,c≠z->c≠TO->c≠i1->c≠i2->s.heap.get? c=some o->h'.get? c=some o)->Q none {s with heap:=h',toks:=tk}):wpAny (model prog w) A (pyNext (.ref z)) Q E s:=by
 have f:s.TypeIs (.ref z) "zip":=by obtain⟨⟨_,_,h,_⟩,_⟩:=j;exact⟨_,h,rfl⟩
 refine AA (ED (CI f GN
  (C3 GN f F.entry_zip_next
   (Q8 D D1 C j b h1 h2 H r (λt B x y h' tk n=>AC (v t B x y h' tk n)) λq h' tk e G u=>?_) (F.args_zip_next_1 _))))
 obtain⟨o,m⟩:=u
 refine AA (ET ⟨o,m.1,m.2⟩ isSubtype_stop ?_)
 exact AC (hE q _ _ G)
theorem RE{tg:Ez}{TI TO T:Az}{Q:Unit->S9->Prop}(f:ZN s.heap z TI TO)(ne:TO≠z)(g:∀ h',ZN h' z TI TO->Heap.SameBut z s.heap h'->Q () {s with heap:=h'}):wpAny (model prog w) A (letOwnedTupleGo tg (.ref z) (.ref T)) Q E s:=by
 have d6:=g s.heap f ⟨rfl,λ_ _=>rfl⟩
 obtain⟨⟨k,j,h,l⟩,a,b,i⟩:=f
 have d:wpAny (model prog w) A (do
   let o <-load z
   match o.cls,o.data with
   | .type n,.fields vs=>
    if ["enumerate","zip","dict_itemiterator","dict_reverseitemiterator","odict_iterator","itertools.zip_longest","itertools.pairwise"].contains n && vs[0]? == some (rawInt T)then
     rule "for.unpacks-the-owned-tuple"
     updateField z 0 .none
   | _,_=>pure ()) Q E s:=by
  refine AA (wpAny_load h ?_)
  show wpAny _ _ (if _ then _ else _) Q E s
  split
  .exact C5 h (by simp) λh' e c=>g h' ⟨⟨_,_,e,.inl rfl⟩,a,b,c.extBut _ _ ne i⟩ c
  .exact AC d6
 cases tg<;>first|exact d|exact AC d6
theorem RD{TI TO:Az}(b:ZN s.heap z TI TO)(h:Q (.ref z) s):wpAny (model prog w) A (pyIter (.ref z)) Q E s:=by
 have a:s.TypeIs (.ref z) "zip":=by obtain⟨⟨_,_,h,_⟩,_⟩:=b;exact⟨_,h,rfl⟩
 refine wpAny_pyIter_slot a F.slot_zip_iter (C3 F.slot_zip_iter a F.entry_zip_iter ?_ (F.args_zip_iter_1 _))
 exact AC ⟨_,rfl,"zip",_,a,GN.lookup,h⟩
end
def tG(v:V9)(o:Obj)(h:Hz):Prop:=∀ (prog:P9) (w:W9) (A:U9) (E:V9->S9->Prop) (s:S9) (Q:V9->S9->Prop),s.heap=h->Q (.ref h.objs.size) {s with heap:=h.push o}->wpAny (model prog w) A (pyIter v) Q E s
noncomputable abbrev H2(h:Hz)(o1 o2:Obj):Hz:=(h.push o1).push o2
noncomputable abbrev H3(h:Hz)(o1 o2:Obj):Hz:=(H2 h o1 o2).push {cls:=.type "tuple",data:=.seq #[.ref h.objs.size,.ref (h.push o1).objs.size]}
noncomputable abbrev H4(h:Hz)(o1 o2:Obj):Hz:=(H3 h o1 o2).push {cls:=.type "tuple",data:=.seq #[.none,.none]}
noncomputable abbrev H5(h:Hz)(o1 o2:Obj):Hz:=(H4 h o1 o2).push {cls:=.type "zip",data:=.fields #[.none,.bool false,.bool false,.ref (H2 h o1 o2).objs.size,.ref (H3 h o1 o2).objs.size]}
theorem WT(l f:V9)(a e:Obj) :
  Meets (Builtin.«zip.__new__» ⟨[.type "zip",l,f],[]⟩) (λ_ R s=>tG l a s.heap/\tG f e (s.heap.push a) /\
   R (.ok (.ret (.ref (H4 s.heap a e).objs.size))) {s with heap:=H5 s.heap a e}):=
 .of_wp λprog w A R s h=>by
  obtain⟨b,g,d,c,os⟩:=s;obtain⟨j,k,h⟩:=h
  have m:=sub_zip
  have n:∀ {A:U9} {E:V9->S9->Prop} {Q:V9->S9->Prop},Q (.ref b.objs.size) ⟨b.push a,g,d,c,os⟩->wpAny (model prog w) A (pyIter l) Q E ⟨b,g,d,c,os⟩:=λi=>j prog w _ _ ⟨b,g,d,c,os⟩ _ rfl i
  have p2:∀ {A:U9} {E:V9->S9->Prop} {Q:V9->S9->Prop},Q (.ref (b.push a).objs.size) ⟨(b.push a).push e,g,d,c,os⟩->wpAny (model prog w) A (pyIter f) Q E ⟨b.push a,g,d,c,os⟩:=λi=>k prog w _ _ ⟨b.push a,g,d,c,os⟩ _ rfl i
  wp_walk using n,p2
  exact⟨_,rfl,h⟩
section
variable{prog:P9}{w:W9}{A:U9}{E:V9->S9->Prop}{s:S9}
theorem VM{j e:V9}{a b:Obj}(h1:tG j a s.heap)(h2:tG e b (s.heap.push a))(p:a.isFreed=false)(q:b.isFreed=false)
  (h:∀ h',IsZip h' (s.heap.objs.size+4) (s.heap.objs.size+2) (s.heap.objs.size+3) .none->IsPair h' (s.heap.objs.size+2) (.ref s.heap.objs.size) (.ref (s.heap.objs.size+1))->
   IsPair h' (s.heap.objs.size+3) .none .none->h'.get? s.heap.objs.size=some a->h'.get? (s.heap.objs.size+1)=some b->h'.objs.size=s.heap.objs.size+5->
   (∀ c o,s.heap.get? c=some o->h'.get? c=some o)->Q (.ref (s.heap.objs.size+4)) {s with heap:=h'}) :
  wpAny (model prog w) A (call (.type "zip") [j,e]) Q E s:=by
 refine callType_new F.called_zip (by rfl) (F.typeCall_zip_2 _ _) (F.newCall_zip_2 _ _) (λobj=>F.args_object_init_3 obj _ _) F.entry_zip_new
  (WT j e a b) ⟨h1,h2,?_⟩
 have f:(s.heap.push a).objs.size=s.heap.objs.size+1:=BX ..
 have i:(H2 s.heap a b).objs.size=s.heap.objs.size+2:=by rw[BX,f]
 have k:(H3 s.heap a b).objs.size=s.heap.objs.size+3:=by rw[BX,i]
 have g:(H4 s.heap a b).objs.size=s.heap.objs.size+4:=by rw[BX,k]
 have d:(H5 s.heap a b).get? _=some _:=AN _ rfl
 have l:(H5 s.heap a b).get? _=some _:=AB _ (AN _ rfl)
 have n:(H5 s.heap a b).get? _=some _:=AB _ (AB _ (AN _ rfl))
 have m:(H5 s.heap a b).get? _=some b:=AB _ (AB _ (AB _ (AN _ q)))
 rw[i,k,g]at d
 rw[f,i]at n
 rw[k]at l
 rw[f]at m
 rw[g]
 exact⟨⟨_,d,rfl⟩,h _ d n l (AB _ (AB _ (AB _ (AB _ (AN _ p))))) m (by rw[BX,g]) λc o x=>
  AB _ (AB _ (AB _ (AB _ (AB _ x))))⟩
end
end _g
namespace _a
variable{Z:St}{H:Hp}
abbrev xw:=Hp->L9 V->Prop
structure lb(P:Program)(w:World)(K:Frag)(C:xw)(it:Az)(tn:Nat->Heap->Prop):Prop where
 obj:∀ i h,tn i h->∃ o,h.get? it=some o/\∀ v,o.data≠.cell v
 keep:∀ i h h',tn i h->(∀ o,h.get? it=some o->h'.get? it=some o)->tn i h'
 one:∀ (X:Cx),X.prog=P->X.w=w->X.K=K->∀ av s Z H xs ys,Inv X av Z H s->C H xs->C H ys->xs=ys
 draw:∀ (X:Cx),X.prog=P->X.w=w->X.K=K->∀ (i:Nat) (av:List (Az×Obj)) (s:S9) (Z:St) (H:Hp) (xs:List V) (A:Around),Inv X av Z H s->iW X av H it->tn i s.heap->C H xs->A.handled=none->
  ∃ fp Pv St,Draws P w A it fp xs.length Pv St/\St i s.heap/\(∀ j h,St j h->tn j h)/\(∀ j v,Pv j v->∃ x,xs[j]? = some x/\aR x v)/\∀ b,iW X av H b->b≠it->b∉fp
theorem Mc{X:Cx}(I:Inv X av Z H s)(d:iW X av H b)(e:X.base.get? a=some o):b≠a:=by
 intro z
 rcases d.2.2.2.1 with c|c
 .exact I.ok.n3 a o e (z▸c)
 .have f:=AE e
  have g:=I.ok.qh
  ext
theorem K_{X:Cx}{xs:L9 V}(I:Inv X av Z H s)(c:iW X av H b)(h:d_ X.K H a xs):b≠a:=by
 rcases h with (h|⟨o,h⟩)|⟨o,vs,n,h,_⟩
 · intro z; rw [<- z, c.1]at h; ext
 · intro z; rw [<- z, c.1]at h; ext
 · exact Mc I c (I.ok.mod.jy _ _ h)
theorem K9{X:Cx}{xs:L9 V}(I:Inv X av Z H s)(c:iW X av H b)(h:fq X.K H a xs):b≠a:=by
 rcases h with (h|⟨o,h⟩)|⟨o,vs,n,h,_⟩
 · intro z; rw [<- z, c.1]at h; ext
 · intro z; rw [<- z, c.1]at h; ext
 · exact Mc I c (I.ok.mod.jy _ _ h)
theorem VL{w:W9}(a it:Az):lb P w K (λH xs=>d_ K H a xs) it (λi h=>h.IsListIter it a i) where
 obj:=λi h ⟨o,e,c,d⟩=>⟨o,e,λv z=>by rw[d]at z;cases z⟩
 keep:=λi h h' st k=>st.at λo e=>k o e
 one:=by
  intro X x r m av s Z H xs ys I h1 h2
  subst m
  exact I.l5 h1 h2
 draw:=by
  intro X x r m i av s Z H xs A I D st g C
  subst x r m
  obtain⟨f,l,p,J⟩:=I.list g
  have n:=K_ I D g
  refine⟨[it,a],(λi v=>f.toArray[i]? = some v),(λi h=>h.IsListIter it a i/\h.IsList a f.toArray),by rw[show xs.length=f.toArray.size by rw[l.length];simp];exact Draws.list C it a (BD n) f.toArray,⟨st,p.isList⟩,λj h z=>z.1,λj v e=>?_,λb G B E=>?_⟩
  .have q:f[j]? = some v:=by simpa using e
   have y:j < xs.length:=by rw[l.length];exact(AH.mp q).1
   obtain⟨u,t,F⟩:=l.get (AJ y)
   rw[q]at t;cases t
   exact⟨_,AJ y,F⟩
  .rcases AQ.mp E with z|z
   · exact B z
   · exact K_ I G g (by simpa using z)
theorem WS{w:W9}(a it:Az):lb P w K (λH xs=>fq K H a xs) it (λi h=>h.IsTupleIter it a i) where
 obj:=λi h ⟨o,e,c,d⟩=>⟨o,e,λv z=>by rw[d]at z;cases z⟩
 keep:=λi h h' ⟨o,e,r⟩ k=>⟨o,k o e,r⟩
 one:=by
  intro X t q m av s Z H xs ys I h1 h2
  subst m
  exact I.nc h1 h2
 draw:=by
  intro X t q m i av s Z H xs A I B st g y
  subst t q m
  obtain⟨f,l,p,G⟩:=I.tuple g
  have n:=K9 I B g
  refine⟨[it,a],(λi v=>f.toArray[i]? = some v),(λi h=>h.IsTupleIter it a i/\h.IsTuple a f.toArray),by rw[show xs.length=f.toArray.size by rw[l.length];simp];exact _g.Yf y it a (BD n) f.toArray,⟨st,p⟩,λj h z=>z.1,λj v e=>?_,λb E F C=>?_⟩
  .have x:f[j]? = some v:=by simpa using e
   have D:j < xs.length:=by rw[l.length];exact(AH.mp x).1
   obtain⟨u,J,L⟩:=l.get (AJ D)
   ext
  .rcases AQ.mp C with z|z
   · ext
   · exact K9 I E g (by simpa using z)
noncomputable def yo(z:Str):L9 V:=z.cps.toList.map λc=>V.str ⟨#[c]⟩
theorem TK{w:W9}(z:Str)(t:Tok)(it:Az):lb P w K (λ_ xs=>xs=yo z) it (λi h=>h.IsStrIter it (strIterType z) z t i) where
 obj:=λi h ⟨o,e,c,d⟩=>⟨o,e,λv z=>by rw[d]at z;cases z⟩
 keep:=λi h h' ⟨o,e,r⟩ k=>⟨o,k o e,r⟩
 one:=λ_ _ _ _ _ _ _ _ _ _ _ h1 h2=>h1.trans h2.symm
 draw:=by
  intro X p g q i av s Z H xs A I x st l a
  subst p g q l
  have m:Draws X.prog X.w A it [it] z.cps.size (λi v=>∃ c u,z.cps[i]? = some c/\v=.str ⟨#[c]⟩ u) (λi h=>h.IsStrIter it (strIterType z) z t i):=by
   unfold strIterType
   split
   · exact Draws.strAscii a it z t
   · exact Draws.strWide a it z t
  refine⟨[it],_,_,by rw[show(yo z).length=z.cps.size by unfold yo;simp];exact m,st,λj h z=>z,?_,λb y f n=>f (by simpa using n)⟩
  rintro j v ⟨c,u,hc,rfl⟩
  exact⟨.str ⟨#[c]⟩,by unfold yo;rw[AZ,D9,hc];rfl,u,rfl⟩
def I_(C1 C2:xw):It:=
 ⟨λi H=>∃ xs ys,C1 H xs/\C2 H ys/\i < xs.length/\i < ys.length,λi H x H'=>∃ p u v,H p=none/\x=.ref p/\H'=upd H p (.tup [u,v])/\(∀ xs,C1 H xs->xs[i]? = some u)/\∀ ys,C2 H ys->ys[i]? = some v,
  λi H=>∃ xs ys,C1 H xs/\C2 H ys/\(i=xs.length\/(i < xs.length/\i=ys.length))⟩
theorem NK{w:W9}{r F:xw}{TI TO:Az}{m l:Nat->Hz->Prop}{X:Cx}{xs ys:L9 V}(u:lb P w K r i1 m)(E:lb P w K F i2 l)(hd:[z,TI,TO,i1,i2].Nodup)(D:X.prog=P)(hw:X.w=w)(G:X.K=K)(B:X.calm=true)(I:Inv X av Z H s)(d:∀ b∈[z,TI,TO,i1,i2],iW X av H b)
  (st:_g.ZN s.heap z TI TO/\IsPair s.heap TI (.ref i1) (.ref i2)/\m i s.heap/\l i s.heap) (q1:r H xs) (q2:F H ys) :
  (∀ c∈[z,TI,TO,i1,i2],c < s.heap.objs.size)/\∃ f1 P1 S1 f2 P2 S2,Draws P w X.A.in1 i1 f1 xs.length P1 S1/\Draws P w X.A.in1 i2 f2 ys.length P2 S2/\S1 i s.heap/\(∀ j h,S1 j h->m j h)/\(∀ j v,P1 j v->∃ x,xs[j]? = some x/\aR x v)/\S2 i s.heap/\(∀ j h,S2 j h->l j h)/\(∀ j v,P2 j v->∃ x,ys[j]? = some x/\aR x v)/\_g.Apart z TI TO i1 i2 f1 f2:=by
 obtain⟨⟨⟨_,_,s1,_⟩,a,b,N⟩,J,q,C⟩:=st
 simp[not_false_eq_true]at hd
 obtain⟨⟨d1,d2,y,n⟩,⟨O,L,M⟩,⟨t,p⟩,g⟩:=hd
 obtain⟨f1,P1,S1,D1⟩:=u.draw X D hw G i av s Z H xs X.A.in1 I (d i1 (by simp)) q q1 (I.ok.hd B)
 obtain⟨f2,P2,S2,f⟩:=E.draw X D hw G i av s Z H ys X.A.in1 I (d i2 (by simp)) C q2 (I.ok.hd B)
 refine⟨λc k=>?_,f1,P1,S1,f2,P2,S2,D1.1,f.1,D1.2.1,D1.2.2.1,D1.2.2.2.1,f.2.1,f.2.2.1,f.2.2.2.1,BD d1,BD d2,BD y,BD n,O,L,M,t,p,g,D1.2.2.2.2 z (d z (by simp)) y,f.2.2.2.2 z (d z (by simp)) n,D1.2.2.2.2 TO (d TO (by simp)) t,f.2.2.2.2 TO (d TO (by simp)) p,f.2.2.2.2 i1 (d i1 (by simp)) g,D1.2.2.2.2 i2 (d i2 (by simp)) (BD g)⟩
 simp[C8]at k
 rcases k with rfl|rfl|rfl|rfl|rfl
 .exact AE s1
 .exact AE J
 .exact AE N
 .obtain ⟨o,e⟩:=u.obj _ _ q;exact AE e.1
 .obtain ⟨o,e⟩:=E.obj _ _ C;exact AE e.1
theorem VJ{w:W9}{tg:Ez}{W C2:xw}{TI TO:Az}{t1 t2:Nat->Hz->Prop}(M:lb P w K W i1 t1)(O:lb P w K C2 i2 t2)(hd:[z,TI,TO,i1,i2].Nodup) :
  Turn P w K tg (I_ W C2) [z,TI,TO,i1,i2] z (λi h=>_g.ZN h z TI TO/\IsPair h TI (.ref i1) (.ref i2)/\t1 i h/\t2 i h) where
 mem:=by simp
 obj:=λi h ad c N=>by
  obtain⟨⟨⟨_,_,s1,_⟩,a,b,s3⟩,s2,s4,s5⟩:=ad
  simp only[AQ,BS,C8]at N
  rcases N with rfl|rfl|rfl|rfl|rfl
  .exact ⟨_,s1,λv z=>by have z':Data.fields _=Data.cell v:=z;cases z'⟩
  .grind
  .grind
  .exact M.obj i h s4
  .exact O.obj i h s5
 keep:=λi h h' ⟨⟨⟨f,g,s1,r⟩,a,b,s3⟩,s2,s4,s5⟩ k=>⟨⟨⟨f,g,k z (by simp) _ s1,r⟩,a,b,k TO (by simp) _ s3⟩,k TI (by simp) _ s2,M.keep i h h' s4 λo e=>k i1 (by simp) o e,O.keep i h h' s5 λo e=>k i2 (by simp) o e⟩
 item:=by
  intro X C G F N i av s Z H E I t st hg
  obtain⟨xs,ys,V,U,l1,l2⟩:=hg
  obtain⟨B,f1,P1,S1,f2,P2,S2,D1,D2,a1,a2,a3,Y,b2,b3,p⟩:=NK M O hd C G F N I t st V U
  have S:=λzs (h:W H zs)=>M.one X C G F av s Z H zs xs I h V
  have T:=λzs (h:C2 H zs)=>O.one X C G F av s Z H zs ys I h U
  subst C G F
  refine _g.Md p D1 D2 st.1 st.2.1 a1 Y (B6 l1) (λ_=>B6 l2) (λ_ _ x y h' tk n=>?_) λq=>by ext
  obtain⟨u,hu,ru⟩:=a3 i x n.p1
  obtain⟨v,hv,rv⟩:=b3 i y n.p2
  refine⟨_,rfl,_g.RE n.zn p.TOz λh2 zn R=>?_⟩
  have aa:s.heap.objs.size≠z:=CK (B z (by simp))
  have fT:H s.heap.objs.size=none:=I.cj.fresh (AG _)
  have j:∀ c o,c∉[z,TI,TO,i1,i2]->s.heap.get? c=some o->h2.get? c=some o:=λc o d q=>by
   simp only[AQ,BS,C8,not_or]at d
   exact(R.2 c d.1).trans (n.kp c o d.1 d.2.2.1 d.2.2.2.1 d.2.2.2.2 q)
  have ac:∀ c l,H c=some l->c∉[z,TI,TO,i1,i2]:=λc l q L=>by rw[(t c L).1]at q;cases q
  have Q:eh X.prog X.w H h2:=λc l q=>by
   refine(I.cj c l q).d6 (λc' v' d q'=>j c' v' ?_ q') (λ_ q=>q) (λ_ _ q=>q) λ_ _ q=>q
   ext
  have A:∀ c l,H c=some l->c≠s.heap.objs.size:=λc l q=>aW q fT
  refine⟨.ref s.heap.objs.size,upd H s.heap.objs.size (.tup [u,v]),?_,rfl,⟨_,u,v,fT,rfl,rfl,λzs J=>by rw[S zs J];exact hu,λzs J=>by rw[T zs J];exact hv⟩,⟨zn,(R.2 TI p.TIz).trans (n.kp TI _ p.TIz p.TITO p.TIi1 p.TIi2 st.2.1),M.keep _ _ _ (a2 _ _ n.s1) λo e=>(R.2 i1 p.i1z).trans e,O.keep _ _ _ (b2 _ _ n.s2) λo e=>(R.2 i2 p.i2z).trans e⟩,λc d=>by rw[aE (A0 (B c d))];exact(t c d).1⟩
  show Inv X av Z _ {s with heap:=h2,gens:=s.gens,drawn:=s.drawn,toks:=tk}
  refine I.step (ch:=[z,TI,TO,i1,i2]) (λc d=>?_) (λc o _ _ d q _=>j c o d q) (λc o _ _ d q _=>⟨o.slots,j c o d q⟩)
   (λc o _ q n=>by rw[aE (A0 (AE q))];exact n) (λc o d q=>⟨o,j c o d q⟩) (λc ys q=>by rw[aE (A c _ q)];exact q) (λc o l q=>by rw[aE (A c _ q)];exact q)
   (λc ps q=>by rw[aE (A c _ q)];exact q) (λm hm=>?_) (eh.rf Q fT ⟨by show 2<=sizeLine;decide,[x,y],.cons ru (.cons rv .nil),⟨_,(R.2 _ aa).trans n.pr,⟨rfl,rfl⟩,_,rfl⟩⟩) I.bare
  .obtain ⟨e0,e1,e2,e3,e4,e5⟩:=t c d
   ext
  .obtain ⟨o,D,ep,ho,r⟩:=hm
   exact⟨o,D,ep,j _ o (λL=>(t _ L).2.1 rfl) ho,r⟩
 done:=by
  intro X C G F N i av s Z H E I t st hg
  obtain⟨xs,ys,V,U,ae⟩:=hg
  obtain⟨B,f1,P1,S1,f2,P2,S2,D1,D2,a1,a2,a3,Y,b2,b3,p⟩:=NK M O hd C G F N I t st V U
  subst C G F
  refine _g.Md p D1 D2 st.1 st.2.1 a1 Y (by ext) (λ_=>by ext) (λ_ _=>by ext) λ_ h' tk kp=>⟨rfl,?_⟩
  have j:∀ c o,c∉[z,TI,TO,i1,i2]->s.heap.get? c=some o->h'.get? c=some o:=λc o d q=>by
   ext
  have ac:∀ c l,H c=some l->c∉[z,TI,TO,i1,i2]:=λc l q L=>by rw[(t c L).1]at q;cases q
  refine I.step (g':=s.gens) (d':=s.drawn) (ch:=[z,TI,TO,i1,i2]) (λc d=>?_) (λc o _ _ d q _=>j c o d q) (λc o _ _ d q _=>⟨o.slots,j c o d q⟩) (λ_ _ _ _ n=>n) (λc o d q=>⟨o,j c o d q⟩) (λ_ _ q=>q) (λ_ _ _ q=>q) (λ_ _ q=>q) (λm hm=>?_) (λc l q=>?_) I.bare
  .obtain ⟨e0,e1,e2,e3,e4,e5⟩:=t c d
   ext
  .obtain ⟨o,D,ep,ho,r⟩:=hm
   exact⟨o,D,ep,j _ o (λL=>(t _ L).2.1 rfl) ho,r⟩
  .refine (I.cj c l q).d6 (λc' v' d q'=>j c' v' ?_ q') (λ_ q=>q) (λ_ _ q=>q) λ_ _ q=>q
   ext
 self:=λ_ _ _ _ _ st h=>_g.RD st.1 h
def Du(K:Frag)(H:Hp)(x:V)(C:xw):Prop:=
 (∃ a xs,x=.ref a/\d_ K H a xs/\C=λH xs=>d_ K H a xs)\/(∃ a xs,x=.ref a/\fq K H a xs/\C=λH xs=>fq K H a xs)\/∃ z,x=.str z/\C=λ_ xs=>xs=yo z
theorem NJ{X:Cx}{x:V}{C:xw}(I:Inv X av Z H s)(r:aR x u)(h:Du X.K H x C) :
  ∃ (o:Obj) (tn:Az->Nat->Hz->Prop),(∀ h':Hz,(∀ b ob,s.heap.get? b=some ob->h'.get? b=some ob)->_g.tG u o h')/\o.isFreed=false/\(∀ it,lb X.prog X.w X.K C it (tn it))/\∀ it h',h'.get? it=some o->tn it 0 h':=by
 rcases h with ⟨a,xs,rfl,f,rfl⟩|⟨a,xs,rfl,f,rfl⟩|⟨z,rfl,rfl⟩
 .cases r
  obtain⟨c,g,p,j⟩:=I.list f
  refine⟨{cls:=.type "list_iterator",data:=.fields #[.ref a,.int 0 0]},λit i h=>h.IsListIter it a i,λh' d prog w A E s' Q e q=>?_,rfl,λit=>VL a it,λit h' e=>⟨_,e,rfl,rfl⟩⟩
  subst e
  refine EN (items:=c.toArray) ?_ q
  obtain⟨o,e,r⟩:=p.isList
  exact⟨o,d _ _ e,r⟩
 .cases r
  obtain⟨c,g,p,j⟩:=I.tuple f
  refine⟨{cls:=.type "tuple_iterator",data:=.fields #[.ref a,.int 0 0]},λit i h=>h.IsTupleIter it a i,λh' d prog w A E s' Q e q=>?_,rfl,λit=>WS a it,λit h' e=>⟨_,e,rfl,rfl⟩⟩
  subst e
  refine wpAny_pyIter_tuple (items:=c.toArray) ?_ q
  obtain⟨o,e,r⟩:=p
  exact⟨o,d _ _ e,r⟩
 .obtain ⟨t,rfl⟩:=r
  refine⟨{cls:=.type _,data:=.fields #[.str z t,.int 0 0]},λit i h=>h.IsStrIter it _ z t i,λh' d prog w A E s' Q e q=>?_,rfl,λit=>TK z t it,λit h' e=>⟨_,e,rfl,rfl⟩⟩
  subst e
  exact wpAny_pyIter_strU q
def JM(K:Frag)(ta:TA):TI:=λZ H R=>ta Z H λvs H1=>∃ x y C1 C2,vs=[x,y]/\Du K H1 x C1/\Du K H1 y C2/\R (I_ C1 C2) H1
theorem K8{X:Cx}{tg a b:Ez}{ta:TA}{p pos:Pos}(q:Gl X "zip")(t:X.mg "zip"=none)(o:PA X [a,b] ta)(z:autoParam (starEach [a,b] X.env=[(false,eval a X.env),(false,eval b X.env)]) z3)(OS:autoParam (starEach [b] X.env=[(false,eval b X.env)]) z3) :
  PI X tg (.Call (.Name "zip" p) [a,b] [] pos) (JM X.K ta):=by
 intro av s Z H R I h
 refine Call_ (m7 I q t boot_zip (CW (cz (o pos av s Z H _ I h) λus s1 k=>?_) (by simp_all) (by rw[OS];rfl)))
 obtain⟨vs,H1,f,r1,n⟩:=k
 obtain⟨x,y,B,F,rfl,j⟩:=n
 cases r1 with
 | cons ru rr=>
  cases rr with
  | cons rv rr=>
   cases rr
   obtain⟨E,G,i⟩:=NJ f ru j.1
   obtain⟨A,C,g⟩:=NJ f rv j.2.1
   refine _g.VM (i.1 _ λ_ _ e=>e) (g.1 _ λ_ _ e=>AB _ e) i.2.1 g.2.1 λh' l v w u m J r=>?_
   refine wpAny_pyIter_zip l ?_
   refine⟨s1.heap.objs.size+4,[s1.heap.objs.size+4,s1.heap.objs.size+2,s1.heap.objs.size+3,s1.heap.objs.size,s1.heap.objs.size+1],_,_,H1,rfl,(f.kept (t':=s1.toks) r),VJ (i.2.2.1 _) (g.2.2.1 _) ?_,⟨⟨⟨_,_,l,.inl rfl⟩,_,_,w⟩,v,i.2.2.2 _ _ u,g.2.2.2 _ _ m⟩,λc D=>?_,j.2.2⟩
   .simp
   .have d:s1.heap.objs.size<=c:=by
     ext
    exact f.me d (f.cj.fresh d)
end _a
variable{z:Str}
namespace _f
variable{F:Hp}
noncomputable def HI(p:Dz×Dz):Dz:=.tuple [p.1,p.2]
noncomputable def yn(x y:Dz):R (L9 Dz):=(bA x).bind λxs=>(bA y).bind λys=>.ok ((xs.zip ys).map HI)
theorem XF{d:Dz}(h:bA d=.ok xs):xs.length<=16777216:=by
 unfold bA at h
 ext
theorem N3{d:Dz}{e:Er}:bA d≠.ex e:=by
 intro h
 unfold bA at h
 ext
theorem NI:∀ (cs:L9 Nat),a_ K F (cs.map λc=>V.str ⟨#[c]⟩) (cs.map λc=>PyData.str ⟨#[c]⟩)
 | []=>.nil
 | c::t=>.cons (.str _) (NI t)
theorem NH{B:Hp}{v:V}{d:Dz}(s:aH F B)(r:b5 K F v d)(h:bA d=.ok xs):∃ C vs,Du K B v C/\(∀ H1,aH F H1->C H1 vs)/\a_ K F vs xs:=by
 unfold bA at h
 split at h
 .split at h
  .cases h
   obtain⟨p,vs,rfl,h1,h2⟩:=b5.d3 r
   exact⟨_,vs,.inl ⟨p,vs,rfl,h1.same s,rfl⟩,λH1 q=>h1.same q,h2⟩
  simp_all
 .split at h
  .cases h
   obtain⟨p,vs,rfl,h1,h2⟩:=b5.dz r
   exact⟨_,vs,.inr (.inl ⟨p,vs,rfl,h1.same s,rfl⟩),λH1 q=>h1.same q,h2⟩
  simp_all
 .rename_i z
  split at h
  .cases h
   obtain rfl:=b5.df r
   exact⟨_,yo z,.inr (.inr ⟨z,rfl,rfl⟩),λ_ _=>rfl,NI _⟩
  simp_all
 simp_all
theorem Mb:∀ {xs:L9 α} {ys:L9 β} {i:Nat} {x:α} {y:β},xs[i]? = some x->ys[i]? = some y->(xs.zip ys)[i]? = some (x,y)
 | [],_,_,_,_,h,_=>by simp_all
 | _::_,[],_,_,_,_,h=>by simp_all
 | x::xs,y::ys,0,_,_,h1,h2=>by simp at h1 h2;subst h1 h2;rfl
 | x::xs,y::ys,i+1,_,_,h1,h2=>by
  show(xs.zip ys)[i]? = _
  exact Mb (by assumption) (by assumption)
theorem TJ{B:Hp}{g k:xw}{us vs:L9 V}{ys:L9 Dz}(q:xs.length<=16777216)(h1:∀ H1,aH F H1->aH B H1->g H1 us)(h2:∀ H1,aH F H1->aH B H1->k H1 vs)(d1:a_ K F us xs)(d2:a_ K F vs ys) :
  v3 K (I_ g k) F B ((xs.zip ys).map HI) where
 len:=by rw[iF,AL,GO];ext
 go:=λi h H1 d c a hi=>by
  rw[AL,GO]at hi
  have b:aH F H1:=λx o z=>c x o (d x o z)
  exact⟨us,vs,h1 H1 b a,h2 H1 b a,by rw[d1.length];ext,by rw[d2.length];ext⟩
 oz:=λi h H1 v H2 x d c a y e=>by
  obtain⟨p,u,w,j,rfl,rfl,m,l⟩:=y
  have b:aH F H1:=λx o z=>c x o (d x o z)
  obtain⟨dx,e1,r1⟩:=d1.get (m us (h1 H1 b a))
  obtain⟨n,e2,r2⟩:=d2.get (l vs (h2 H1 b a))
  rw[AZ,Mb e1 e2]at e
  cases e
  have f:=aH.upd (o:=.tup [u,w]) (aY c j)
  exact⟨_,Ext.new c j,.tup (fq.of aI) (.cons ((r1.same d).same f) (.cons ((r2.same d).same f) .nil))⟩
 stop:=λh H1 d c a=>by
  have b:aH F H1:=λx o z=>c x o (d x o z)
  refine⟨us,vs,h1 H1 b a,h2 H1 b a,?_⟩
  rw[AL,GO,d1.length,d2.length]
  ext
section
variable{X:Cx}{c:Ct}{E:XK}{tg e:Ez}
theorem Ma{f g:Sg->R Dz}(j:X.K=c.K)(h:PI X tg e (JM X.K (bR (tV (b6 c) c E f) (bR (tV (b6 c) c E g) dP)))):v7 X c E tg e (λY=>(f Y).bind λx=>(g Y).bind λy=>yn x y):=PI.imp h λZ H Q a=>by
 obtain⟨Y,F,ab,k⟩:=a
 refine⟨Y,F,ab,(Rk.bind k).imp λx _ q v n H1 s1 r1=>⟨Y,n,ab.ext s1,((Rk.bind q).ext s1).imp λy _ q w l H' s r=>?_⟩⟩
 unfold yn at q
 cases e1:bA x with
 | bad=>rw[e1]at q;exact q.elim
 | ex e=>exact absurd e1 N3
 | ok xs=>
  rw[e1]at q
  cases e2:bA y with
  | bad=>rw[e2]at q;exact q.elim
  | ex e=>exact absurd e2 N3
  | ok ys=>
   rw[e2]at q
   obtain⟨m,us,b⟩:=NH s.fh (b5.same s.ff r1) e1
   obtain⟨i,vs,d⟩:=NH s.fh r e2
   rw[j]
   exact⟨v,w,m,i,rfl,b.1,d.1,Rk.ok q _ l H' (s1.trans s) (TJ (XF e1) (λH1 z _=>b.2.1 H1 z) (λH1 z _=>d.2.1 H1 z) b.2.2 d.2.2)⟩
end
end _f
namespace _a
end _a
namespace _f
end _f
namespace _g
end _g
variable{a:V9}{b:Bool}{tb:L9 (Str×Bool)}
namespace _f
def mJ(i:Nat)(tb:L9 (Str×Bool)):Sg->R Dz:=λY=>match Y[i]? with
 | some (some (.x e))=>(match tb.lookup e.c with
  | some b=>.ok (.bool b)
  | none=>.bad)
 | _=>.bad
def tH(K:Frag)(mg:Str->O9 V9)(cv:V9)(tb:L9 (Str×Bool)):Prop:=∀ p∈tb,∃ W C,_d.dy K W C/\mg p.1=some (.ref C)/\kitOne K (.ref C) cv=some p.2
def uw(K:Frag)(mg:Str->O9 V9)(q:Str)(tb:L9 (Str×Bool)):Prop:=∃ D,mg q=some (.ref D)/\tH K mg (.ref D) tb
theorem tJ(c:_d.dy K W C)(m:mg nm=some (.ref C))(k:kitOne K (.ref C) a=some b)(t:tH K mg a tb):tH K mg a ((nm,b)::tb):=λp d=>by
 rcases AQ.mp d with rfl|h
 · exact⟨W, C, c, m, k⟩
 · exact t p h
theorem IU{b:V9}:tH K mg b []:=λp a=>nomatch a
theorem fP(c:_d.dy K W C)(m:mg nm=some (.ref C))(i:lq K mg nm q b):uw K mg q [(nm,b)]:=by
 obtain⟨D,d,h1,h2,a⟩:=i
 rw[m]at h2
 cases h2
 exact⟨D,h1,tJ c m a IU⟩
theorem eI(c:_d.dy K W C)(m:mg nm=some (.ref C))(i:lq K mg nm q b)(t:uw K mg q tb):uw K mg q ((nm,b)::tb):=by
 obtain⟨D,f,h1,h2,e⟩:=i
 obtain⟨g,a,d⟩:=t
 rw[m]at h2
 cases h2
 rw[h1]at a
 cases a
 exact⟨D,h1,tJ c m e d⟩
theorem eJ{T:String}(c:_d.dy K W C)(m:mg nm=some (.ref C))(i:mI K mg nm T b)(t:tH K mg (.type T) tb):tH K mg (.type T) ((nm,b)::tb):=by
 obtain⟨d,h2,a⟩:=i
 rw[m]at h2
 cases h2
 exact tJ c m a t
theorem nN{b:β}:∀ {tb:L9 (Str×β)},tb.lookup x=some b->(x,b)∈tb
 | [],h=>by ext
 | (y,c)::t,h=>by
  rw[BR]at h
  cases q:(x == y)with
  | true=>simp_all
  | false=>rw[q]at h;exact AU _ (nN h)
section
variable{X:Cx}{c:Ct}{E:XK}{e:Ez}
theorem Ir{v:V}{d:V9}(g:X.mg=c.mg)(j:sI v=some d)(is:tH X.K X.mg d tb)
  (h:PE X e (rg (λxs H Q=>∃ x c t d b,xs=[x,c]/\wo X.K H x t/\sI c=some d/\kitOne X.K t d=some b/\Q (.bl b) H) (bR (bU i) (bR (tC v) dP)))):PD X c E e (mJ i tb):=PE.imp h λZ H Q ⟨Y,F,ab,k⟩=>by
 unfold mJ at k
 split at k
 .rename_i m hi
  split at k
  .rename_i b l
   obtain⟨W,C,h1⟩:=is _ (nN l)
   obtain⟨a,f⟩:=YL g h1.1 h1.2.1 ab hi rfl
   exact⟨_,f.1,_,_,_,_,b,rfl,f.2,j,h1.2.2,Rk.ok k _ F H (Ext.refl ab.fh) (.bl b)⟩
  .exact k.elim
 .exact k.elim
theorem Iq(a:X.mg=c.mg)(is:uw X.K X.mg q tb)
  (h:∀ D,X.mg q=some (.ref D)->PE X e (rg (λxs H Q=>∃ x c t cv b,xs=[x,c]/\wo X.K H x t/\sI c=some cv/\kitOne X.K t cv=some b/\Q (.bl b) H) (bR (bU i) (bR (tC (.ref D)) dP)))):PD X c E e (mJ i tb):=by
 obtain⟨D,h1⟩:=is
 exact Ir a rfl h1.2 (h D h1.1)
def xt(K:Frag)(mg:Str->O9 V9)(cl:L9 Str):Prop:=∃ Wc bm,mg "WayError"=some (.ref Wc)/\_d.f_ K Wc bm/\lF K mg Wc cl
theorem RC{a b:L9 Str}(h:xt K mg a)(h2:xt K mg b):xt K mg (a++b):=by
 obtain⟨W,bm,m,w⟩:=h
 obtain⟨e,d,c,w2⟩:=h2
 rw[m]at c
 cases c
 exact⟨W,bm,m,w.1,Yg w.2 w2.2⟩
end
end _f
variable{q:Int}
namespace _g
def Raw(h:Hz)(d:Az)(ar:Array DictEntry)(ep:Nat):Prop:=∃ o,h.get? d=some o/\o.ExactDict/\o.data=.dict ar ep
section
variable{prog:P9}{w:W9}{A:U9}{E:V9->S9->Prop}{s:S9}{d it:Az}{ar:Array DictEntry}{ep i:Nat}
theorem VI(c:(d == sysModules)=false)(b:Raw s.heap d ar ep)(q:Q (.ref s.heap.objs.size) {s with heap:=s.heap.push {cls:=.type "dict_keyiterator",data:=.fields #[.ref d,.int 0 0,.int ar.size 0,.int ep 0]}}) :
  wpAny (model prog w) A (pyIter (.ref d)) Q E s:=by
 obtain⟨o,a⟩:=b
 refine wpAny_pyIter_slot (⟨o,a.1,a.2.1.1⟩) F.slot_dict_iter (C3 F.slot_dict_iter (⟨o,a.1,a.2.1.1⟩) F.entry_dict_iter ?_ (F.args_dict_iter_1 _))
 refine AA ?_
 refine AA (wpAny_notOrdered_dict (⟨o,a.1,a.2.1.1⟩) (AC ?_))
 show wpAny _ _ (Builtin.Dict.showsAll d >>= _) _ _ s
 unfold Builtin.Dict.showsAll
 rw[AM (by simp_all)]
 refine AA (AC (AA (EQ a.1 a.2.2 (AA (GP a.1 a.2.2 ?_)))))
 refine AA (DN (AC ⟨_,rfl,"dict_keyiterator",_,⟨_,AN _ rfl,rfl⟩,CU.lookup,?_⟩))
 assumption
theorem VH{Q:O9 V9->S9->Prop}{f:DictEntry}(a:s.heap.IsKeyIter it d i ar.size ep)(g:Raw s.heap d ar ep)(hx:ar[i]? = some f)
  (q:∀ h',h'.IsKeyIter it d (i+1) ar.size ep->Heap.SameBut it s.heap h'->Q (some f.key) {s with heap:=h'}):wpAny (model prog w) A (pyNext (.ref it)) Q E s:=by
 obtain⟨o,c⟩:=id a
 obtain⟨od,b⟩:=g
 refine AA (ED (CI a.typeIs CU
  (C3 CU a.typeIs E5 ?_ (E2 _))))
 refine AA (AC (AA (AA ?_)))
 first|refine AA (DA a.typeIs (AC ?_))|rfl
 refine AA (wpAny_fieldsOf c.1 c.2.2 ?_)
 refine AA (AC (AA (EQ b.1 b.2.2 ?_)))
 rw[AM (by simp)]
 refine AA (AC (AA (GP b.1 b.2.2 ?_)))
 rw[AM (by simp)]
 refine AC ?_
 simp[hx]
 refine AA ?_
 first|refine AA (DA a.typeIs (AC ?_))|rfl
 refine AA (wpAny_isOneOf_keyiter a.typeIs ?_)
 show wpAny _ _ (setField _ 1 _ >>= _) _ _ s
 refine AA (DR c.1 c.2.2 (by simp) ?_)
 have e:(s.heap.update it (Obj.mapFields (·.setIfInBounds 1 _))).IsKeyIter it d (i+1) ar.size ep:=
  ⟨_,BK _ c.1 (D8 (C4 c.2.2 _)),(Obj.cls_mapFields ..).trans c.2.1,by rw[C4 c.2.2];rfl⟩
 refine AA (CA (AA (wpAny_isOneOf_keyiter e.typeIs ?_)))
 exact AC (AC ⟨_,rfl,AC (q _ e (CY ..))⟩)
theorem TF{Q:O9 V9->S9->Prop}(h:A.handled=none)(c:s.heap.IsKeyIter it d i ar.size ep)(g:Raw s.heap d ar ep)(hx:ar.size<=i)
  (q:∀ h',Heap.ExtBut it s.heap h'->Q none {s with heap:=h'}):wpAny (model prog w) A (pyNext (.ref it)) Q E s:=by
 obtain⟨o,f⟩:=id c
 obtain⟨od,e⟩:=g
 refine AA (ED (CI c.typeIs CU
  (C3 CU c.typeIs E5 ?_ (E2 _))))
 refine AA (AC (AA (AA ?_)))
 first|refine AA (DA c.typeIs (AC ?_))|rfl
 refine AA (wpAny_fieldsOf f.1 f.2.2 ?_)
 refine AA (AC (AA (EQ e.1 e.2.2 ?_)))
 rw[AM (by simp)]
 refine AA (AC (AA (GP e.1 e.2.2 ?_)))
 rw[AM (by simp)]
 refine AC ?_
 simp[Array.getElem?_eq_none hx]
 refine AA ?_
 first|refine AA (DA c.typeIs (AC ?_))|rfl
 show wpAny _ _ (setField _ 0 .none >>= _) _ _ s
 refine AA (DR f.1 f.2.2 (by simp) ?_)
 refine AA ?_
 refine AA (m:=firstArgMember _ _) (wpAny_of_eq (a:=Value.none) (by rfl) ?_)
 refine DN ?_ (by size_fits)
 refine AA (wpAny_handled ?_)
 rw[(h)]
 refine AA (AC (wpAny_throw ?_))
 refine AA (ET (b:=true) ⟨_,AN _ rfl,rfl⟩ isSubtype_stop ?_)
 exact AC (q _ (((CY ..).extBut.push _).push _))
end
end _g
namespace _f
theorem yU{f:α->β->Prop}:∀ {xs:L9 α} {ys:L9 β} {i:Nat} {x:α},Paired f xs ys->xs[i]? = some x->∃ y,ys[i]? = some y/\f x y
 | _,_,_,_,.nil,h=>by simp_all
 | _,_,0,_,.cons q t,h=>by simp_all
 | _,_,i+1,_,.cons q t,h=>by
  have y:=yU t (by assumption)
  simp_all
theorem L_{X:Cx}{Z:_a.St}{H:Hp}{d:Az}{es:L9 Ent}(I:Inv X av Z H s)(h:H d=some (eS X.w d es ep)):(d == sysModules)=false/\∃ ar,_g.Raw s.heap d ar ep/\Paired (qQ X.w) es ar.toList:=by
 obtain⟨⟨b,o,ar,h1,h2,c,a⟩,_,_⟩:=((I.cj d _ h))
 exact⟨b,ar,⟨o,h1,h2,c⟩,a⟩
section
variable{X:Cx}{c:Ct}{E:XK}{tg e:Ez}
def yV(i:Nat):Sg->R Dz:=λY=>match Y[i]? with
 | some (some (.m bd))=>if bd.length<=16777216 then .ok (.int (bd.length:Int))else .bad
 | some (some (.f bd))=>if bd.length<=16777216 then .ok (.int (bd.length:Int))else .bad
 | _=>.bad
end
end _f
namespace _g
abbrev xF(h:Hz)(S:Az)(b0:Array V9)(c:Nat):Prop:=h.get? S=some {cls:=.type "list",dict:=none,data:=.seq b0 c,slots:=#[]}
theorem VG{w:W9}{A:U9}{R:Result->S9->Prop}{I S:Az}{n:Nat}{res:V9}(J Jf:Array V9->Hz->Prop)(x:n<=sizeLine)
  (size:∀ b0 h,J b0 h->b0.size<=n)
  (frame:∀ b0 h h',J b0 h->h'.objs.size=h.objs.size->(∀ b o,b≠S->h.get? b=some o->h'.get? b=some o)->J b0 h')
  (item:∀ b0 (s:S9) (c:Nat) (Q:O9 V9->S9->Prop) (E:V9->S9->Prop),b0.size < n->J b0 s.heap->xF s.heap S b0 c->(∀ v h' tk,J (b0.push v) h'->xF h' S b0 c->Q (some v) {s with heap:=h',toks:=tk})->wpAny (model prog w) A.in1 (pyNext (.ref I)) Q E s)
  (done:∀ b0 (s:S9) (c:Nat) (Q:O9 V9->S9->Prop) (E:V9->S9->Prop),b0.size=n->J b0 s.heap->xF s.heap S b0 c->(∀ h' tk,Jf b0 h'->xF h' S b0 c->Q none {s with heap:=h',toks:=tk})->wpAny (model prog w) A.in1 (pyNext (.ref I)) Q E s) :
  ∀ (k:Nat) (s:S9) (b0:Array V9) (c:Nat),n - b0.size=k->J b0 s.heap->xF s.heap S b0 c->(∀ h' tk a j,Jf a h'->a.size=n->xF h' S a j->R (.ok (.ret res)) {s with heap:=h',toks:=tk})->
  codeAny (model prog w) A (.builtin "list.extend.loop" ⟨[.ref S,.ref I,res],[]⟩) R s:=by
 intro k
 induction k with
 | zero=>
  intro s b0 c q g l m
  have:=size b0 _ g
  refine codeAny_builtin F.entry_extend_loop ?_
  exact AA (done b0 s c _ _ (by ext) g l λh' tk f d=>AC (m h' tk b0 c f (by ext) d))
 | succ k ih=>
  intro s b0 c q g l m
  refine codeAny_builtin F.entry_extend_loop ?_
  refine AA (item b0 s c _ _ (by ext) g l λv h' tk f d=>?_)
  refine AA (E3 d rfl (AC ⟨plainId_quiet F.plain_extend_loop _,ih _ _ _ (by ext) (frame _ _ _ f (Heap.size_update ..) λb o r e=>?_) (BK _ d rfl) λh2 i a j u t p=>m h2 i a j u t p⟩) (by ext) (by ext))
  exact(BM _ _ (λh:S=b=>r h.symm)).trans e
end _g
namespace _b
end _b
namespace _f
end _f
namespace _a
end _a
namespace _g
section
variable{prog:P9}{w:W9}{A:U9}{E:V9->S9->Prop}{s:S9}{d:Az}{ar:Array DictEntry}{ep:Nat}
theorem Yw(e:(d == sysModules)=false) :
  MeetsIn prog w (Builtin.«dict.__len__» ⟨[.ref d],[]⟩) (λ_ R s=>∃ ar ep,Raw s.heap d ar ep/\R (.ok (.ret (.int ar.size s.toks))) {s with toks:=s.toks+1}):=
 .of_wp λA R s a=>by
  obtain⟨ar,ep,c,h⟩:=a
  obtain⟨o,b⟩:=c
  show wpAny _ _ (dictSize d >>= _) _ _ s
  refine AA (AA (EQ b.1 b.2.2 (AC ?_)))
  refine AA (wpAny_pendingCount_other e ?_)
  refine wpAny_ret_mkInt ?_
  assumption
theorem TC(f:(d == sysModules)=false)(c:Raw s.heap d ar ep)(b:(ar.size:Int) < 2 ^ 63)
  (h:∀ t t',Q (.int ar.size t) {s with toks:=t'}):wpAny (model prog w) A (call (.builtin "len") [.ref d]) Q E s:=by
 have e:s.TypeIs (.ref d) "dict":=by
  obtain⟨o,a⟩:=id c
  exact⟨o,a.1,a.2.1.1⟩
 refine Calls.call_function_entry kind_len plain_len entry_len (args_len1 _) ?_
 refine AA (m:=callSpecial? _ _) (CI e F.slot_dict_len
  (call_meetsIn F.slot_dict_len e F.entry_dict_len (F.args_dict_len_1 _) (Yw f) ⟨ar,ep,c,?_⟩))
 show wpAny _ _ (if (ar.size:Int)>=2 ^ 63 then _ else _) _ _ _
 rw[AM (by ext)]
 exact AA (wpAny_mkInt (AC ⟨_,rfl,h _ _⟩))
end
end _g
namespace _f
section
variable{X:Cx}{c:Ct}{E:XK}{e:Ez}
theorem WR:gV X (.builtin "len") (λxs H Q=>∃ d es ep,xs=[.ref d]/\H d=some (eS X.w d es ep)/\es.length<=16777216/\Q (.int (es.length:Int)) H):=by
 intro av s Z H xs us Q I r h
 obtain⟨d,es,ep,rfl,c,f,q⟩:=h
 obtain⟨u,rfl,b⟩:=n5 r
 cases((b))
 obtain⟨e,ar,hr⟩:=L_ I c
 have a:ar.size=es.length:=by rw[FD hr.2];rfl
 refine _g.TC e hr.1 (by ext) λt g=>?_
 rw[a]
 exact⟨.int es.length,H,I.tok _,⟨t,rfl⟩,q⟩
theorem TB(m:X.w=c.g.w)(b:X.w=c.w)(h:PE X e (rg (λxs H Q=>∃ d es ep,xs=[.ref d]/\H d=some (eS X.w d es ep)/\es.length<=16777216/\Q (.int (es.length:Int)) H) (bR (bU i) dP))):PD X c E e (yV i):=PE.imp h λZ H Q ⟨Y,F,ab,k⟩=>by
 unfold yV at k
 split at k
 .rename_i l hi
  split at k
  .obtain ⟨v,a,p,es,rfl,⟨ep,h2⟩,o,n,f⟩:=ab.slot i _ hi
   have j:=by simpa using congrArg length f.k1
   refine⟨_,a,p,es,ep,rfl,by rw[b];ext,by ext,?_⟩
   rw[j]
   exact Rk.ok k _ F H (Ext.refl ab.fh) (.int _)
  .exact k.elim
 .rename_i l hi
  split at k
  .obtain ⟨v,a,p,es,rfl,⟨ep,h2⟩,f⟩:=ab.slot i _ hi
   have j:=by simpa using congrArg length f.k1
   refine⟨_,a,p,es,ep,rfl,by rw[m];exact ab.fh _ _ h2,by ext,?_⟩
   rw[j]
   exact Rk.ok k _ F H (Ext.refl ab.fh) (.int _)
  .exact k.elim
 .exact k.elim
end
end _f
namespace _e
open _f
def yW:Sg->R Fw:=(aM (vD (e1 dn (e2 b_ (e2 b_ (rV 0) (eC (.int 0))) (eC (.int 1))))))
def dJ:L9 A->R A:=du 1 yW
def yX:Sg->R Fw:=(aM (vD (eL (cJ [none,some 1] (e1 bA (rV 0)) (stN 0) dS (e2 b_ (e2 b_ (rV 0) (eC (.int 1))) (rV 1))))))
def fS:L9 A->R A:=du 2 yX
def tK:Sg->R Fw:=(aG (aV 2 (vD (o_ ia (eC (.str "abc")) qf (qe (rV 0)))))
 (aG (j5 (e1 Ep (eV 1)) (u6 [(stN 3),(stN 4)]) (fu (e1 dg (e2 ot (rV 4) (rV 2))) (sZ "NoStrip" ["at"] (aC (eV 3) aF)) gb))
 (aM (vV 1))))
def fH:L9 A->R A:=du 5 tK
def N2:Sg->R Fw:=(aM (aK 2 fH (aC (aK 1 dJ (aC (vV 0) aF)) (aC (vV 1) aF))))
def bQ:L9 A->R A:=du 2 N2
def yb:Sg->R Bool:=(nI (e1 dg (e2 uf (e1 dn (rV 5)) (e1 dn (rV 3)))) (qV (e1 dg (Em 12 2 (aC (rV 3) (aC (e1 dn (rV 5)) aF))))))
def yc:Sg->R Fw:=(aG (fu (e1 dg (mH true 4 (eV 7))) (aG (lT 4 (eV 7) (e1 dn (rV 3)))
 (kO 3 (eV 7))) gb)
 (kO 6 (uU 4 (eV 7))))
def zh:Sg->R Fw:=(aG (dX 6 (gA aF))
 (aG (j5 (e1 bA (Dv 12 1 (aC (e2 b_ (rV 3) (e1 dn (rV 5))) aF))) (stN 7) yc)
 (kO 5 (e1 ew (rV 6)))))
def ID:Sg->R Fw:=aG (dX 3 (gA (aC (eV 0) aF))) (aG (Eo 4 (HM (eV 0) (eC (.int 0)) Hc)) (aG (dX 5 (gA aF)) (aG (bF yb zh) (ri 5 (ri 3 (aM (vD (bW (aC (eV 3) (aC (eV 5) aF))))))))) )
def kH:L9 A->R A:=du 8 ID
def WQ:Sg->R Fw:=(aM (vD (e1 (j7 "str") (rV 0))))
def kI:L9 A->R A:=du 1 WQ
def oM:Sg->R Fw:=(aG (aV 1 (vD (e1 ew (eL (cJ [none] (e1 bA (rV 0)) (stN 0) dS (e2 b_ (rV 0) (eC (.int 0))))))))
 (aM (vD (bW (aC (e2 b_ (rV 1) (eC (.int 0))) (aC (eV 1) aF))))))
def eE:L9 A->R A:=du 2 oM
def oT:Sg->R Bool:=(qV (e1 dg (eA (aK 1 kI (aC (vV 2) aF)))))
def oB:Sg->R Fw:=(aG (fu (e1 dg (mH false 3 (eV 2))) (aM (vD (eC (.str "ever")))) gb)
 (aG (lT 3 (eV 2) (eC (.bool true)))
 (aG (aV 4 (vD (e2 b_ (rV 1) (rV 2))))
 (aG (fu (e1 dg (e2 ey (e2 b_ (rV 4) (eC (.int 1))) (eC (.int 1)))) (aM (vD (e2 b_ (rV 4) (eC (.int 0))))) gb)
 (aV 2 (vD (e2 b_ (rV 0) (e2 b_ (rV 4) (eC (.int 0))))))))))
def IC:Sg->R Fw:=aG (mQ 3) (aG (bF oT oB) (aM (vV 2)))
def kJ:L9 A->R A:=du 5 IC
def Nf:Sg->R Fw:=(aG (aV 2 (aK 3 kJ (aC (vD (e2 b_ (rV 0) (eC (.int 1)))) (aC (vV 1) (aC (vD (e2 b_ (rV 0) (eC (.int 0)))) aF)))))
 (aG (aV 3 (vD (e1 ew (eL (cJ [none,some 0,some 1] (dN (e1 dn (rV 1))) (stN 0) dS (eA (aK 3 kJ (aC (vD (e2 b_ (rV 1) (eC (.int 1)))) (aC (vV 2) (aC (vV 0) aF))))))))))
 (aM (vD (bW (aC (eV 2) (aC (eV 3) aF)))))))
def fJ:L9 A->R A:=du 4 Nf
def o5:Sg->R Fw:=(aG (oJ (aK 2 bQ (aC (vV 0) (aC (vV 1) aF))))
 (aG (dX 2 (cJ [none,some 0] (dN (eA (aK 1 dJ (aC (vV 0) aF)))) (stN 0) dS (eA (aK 2 fS (aC (vV 1) (aC (vV 0) aF))))))
 (aG (aV 3 (aK 1 eE (aC (vV 0) aF)))
 (aG (j5 (e1 bA (eV 1)) (stN 4) (aV 3 (aK 2 fJ (aC (vV 3) (aC (vD (e2 b_ (rV 2) (e2 gM (eC (.str "abc")) (rV 4)))) aF)))))
 (aM (vV 3))))))
def gD:L9 A->R A:=du 5 o5
def wT:Sg->R Bool:=(qV (e1 dg (eA (aK 1 kI (aC (vV 2) aF)))))
def wB:Sg->R Fw:=(aG (fu (e1 dg (mH false 3 (eV 2))) (aM (vD (eC (.str "ever")))) gb)
 (aG (lT 3 (eV 2) (eC (.bool true)))
 (aG (aV 4 (vD (e2 b_ (e2 b_ (rV 0) (rV 2)) (eC (.int 2)))))
 (aV 2 (vD (we (e1 dg (eA (aK 1 kI (aC (vV 4) aF)))) (eV 4) (e2 b_ (e2 b_ (rV 1) (eC (.int 1))) (rV 4))))))))
def rR:Sg->R Fw:=aG (aV 2 (vD (e2 b_ (rV 1) (eC (.int 0))))) (aG (mQ 3) (aG (bF wT wB) (aM (vV 2))))
def eK:L9 A->R A:=du 5 rR
def c7:Sg->R Fw:=(aM (vD (eL (cJ [none,some 0] (e1 bA (rV 1)) (stN 0) dS (eA (aK 2 fJ (aC (vV 1) (aC (vV 0) aF))))))))
def eF:Sg->R Fw:=(aM (vD (e2 qg (e1 dn (rV 0)) (eC (.int 200)))))
def oN:Sg->R Fw:=(aG (dX 1 (cJ [none,some 0] (dN (eA (aK 1 dJ (aC (vV 0) aF)))) (stN 0) dS (eA (aK 2 fS (aC (vV 1) (aC (vV 0) aF))))))
 (aG (yR 2 "one_way.<locals>.after")
 (aG (ri 1 (aV 3 (tF [1] 3 kH (aC (aK 1 eE (aC (vV 0) aF)) (aC (yT "one_way.<locals>.after" [1] 4 1 (gC 2 c7) 2) (aC (Ba [] 1 2 (gC 2 eF)) aF))))))
 (aG (aV 4 (vD (e2 b_ (rV 3) (eC (.int 0)))))
 (aG (fu (e1 dg (e2 qg (e1 dn (rV 4)) (eC (.int 200)))) (uV "TooMany" (eC (.int 200))) gb)
 (aM (vD (bW (aC (e1 ew (e2 b_ (rV 3) (eC (.int 1)))) (aC (e1 ew (eL (cJ [none,some 0] (e1 bA (rV 4)) (stN 0) dS (eA (aK 2 eK (aC (vV 1) (aC (vV 0) aF))))))) aF))))))))))
def gQ:L9 A->R A:=du 5 oN
def wD:Sg->R Fw:=(aG (j5 (e1 bA (eV 2)) (stN 3) (aV 1 (vD (e2 b_ (e2 b_ (e2 b_ (rV 0) (eC (.int 0))) (rV 1)) (e2 gM (eC (.str "abc")) (rV 3))))))
 (aM (vV 1)))
def dF:L9 A->R A:=du 4 wD
def N1:Sg->R Fw:=(aG (aV 3 (vD (e2 b_ (rV 2) (eC (.int 0)))))
 (aG (aV 4 (vD (e2 b_ (rV 0) (e2 b_ (rV 2) (eC (.int 1))))))
 (aG (fu (e1 dg (e2 ey (rV 3) (eC (.int 0)))) (aM (vD (bW (aC (e2 b_ (rV 4) (eC (.int 0))) (aC (eC (.int 1)) aF))))) gb)
 (aG (fu (e1 dg (e2 ey (rV 3) (e2 bN (e1 dn (rV 1)) (eC (.int 1))))) (aM (vD (bW (aC (e2 b_ (rV 4) (eC (.int 2))) (aC (e1 hW (eC (.int 1))) aF))))) gb)
 (aM (vD (e2 b_ (e2 b_ (rV 4) (eC (.int 1))) (e2 gM (eC (.str "abc")) (e2 b_ (rV 1) (e2 fj (rV 3) (eC (.int 1))))))))))))
def l9:L9 A->R A:=du 5 N1
def wa:Sg->R Bool:=(e1 dg (mH true 4 (eV 2)))
def wb:Sg->R Fw:=(aG (lT 4 (eV 2) (eC (.bool true)))
 (aG (aV 5 (aK 3 l9 (aC (vV 0) (aC (vV 1) (aC (vV 2) aF)))))
 (aG (fu (e1 dg (e2 ug (e2 b_ (rV 5) (eC (.int 0))) (eC (.tuple [.str "by",.str "out"])))) (ri 3 (aM (vV 3))) gb)
 (aG (aV 2 (vD (bW (aC (e2 bN (e2 b_ (rV 2) (eC (.int 0))) (e2 b_ (rV 5) (eC (.int 1)))) (aC (e2 b_ (rV 5) (eC (.int 0))) aF)))))
 (kO 3 (eV 2))))))
def Eg:Sg->R Fw:=(aG (oJ (aK 2 bQ (aC (vV 0) (aC (vV 1) aF)))) (aG (aV 2 (vD (eC (.tuple [.int 0,.int 0])))) (aG (dX 3 (gA (aC (eV 2) aF))) (aG (mQ 4) (aG (bF wa wb) (ri 3 (aM (vV 3))))))))
def mB:L9 A->R A:=du 6 Eg
def L8:Sg->R Fw:=(aG (aV 1 (vD (e1 ew (eL (cJ [none] (dN (rV 0)) (stN 0) dS (bW (aC (eC (.int 1)) (aC (eV 0) aF))))))))
 (aG (aV 2 (vD (e1 ew (eL (cJ [none] (dN (rV 0)) (stN 0) dS (bW (aC (e1 hW (eC (.int 1))) (aC (eV 0) aF))))))))
 (aM (vD (bW (aC (eV 1) (aC (eV 2) aF)))))))
def uY:L9 A->R A:=du 3 L8
def nO:Sg->R Fw:=(aG (oJ (aK 2 bQ (aC (vV 0) (aC (vV 1) aF))))
 (aG (aV 2 (vD (e1 ew (eL (cJ [none] (e1 bA (eA (aK 2 fS (aC (vV 0) (aC (vD (e2 gM (eC (.str "abc")) (rV 1))) aF))))) (stN 0) dS (bW (aC (e2 b_ (rV 0) (eC (.int 1))) (aC (e2 b_ (rV 0) (eC (.int 0))) aF))))))))
 (aM (vD (bW (aC (eV 2) (aC (eV 2) aF)))))))
def dL:L9 A->R A:=du 3 nO
def gT:Sg->R Bool:=(nI (e1 dg (e2 mh (rV 2) (eC .none))) (e1 dg (e2 ey (e2 b_ (rV 2) (eC (.int 0))) (rV 3))))
def gB:Sg->R Fw:=(aG (fu (e1 dg (mH false 4 (eV 2))) (aM (vD (eC .none))) gb)
 (aG (lT 4 (eV 2) (eC (.bool true)))
 (aG (aV 2 (vD (we (e1 dg (e2 ey (rV 3) (eC (.int 1)))) (e2 b_ (e2 b_ (rV 1) (eC (.int 0))) (e2 b_ (rV 2) (eC (.int 1)))) (e2 b_ (e2 b_ (rV 0) (eC (.int 1))) (e2 b_ (rV 2) (eC (.int 1)))))))
 (aV 3 (vD (e1 hW (rV 3)))))))
def LK:Sg->R Fw:=aG (mQ 4) (aG (bF gT gB) (aM (vV 2)))
def gX:L9 A->R A:=du 5 LK
def Nd:Sg->R Fw:=(aG (aV 2 (vD (e1 ew (eL (cJ [none,some 0,some 1] (e1 bA (e2 b_ (rV 0) (eC (.int 0)))) (stN 0) dS (eA (aK 4 gX (aC (vV 1) (aC (vV 2) (aC (vV 0) (aC (vD (eC (.int 1))) aF)))))))))))
 (aG (aV 3 (vD (e1 ew (eL (cJ [none,some 0,some 1] (e1 bA (e2 b_ (rV 1) (eC (.int 1)))) (stN 0) dS (eA (aK 4 gX (aC (vV 1) (aC (vV 2) (aC (vV 0) (aC (vD (e1 hW (eC (.int 1)))) aF)))))))))))
 (aM (vD (bW (aC (eV 2) (aC (eV 3) aF)))))))
def nP:L9 A->R A:=du 4 Nd
def rD:Sg->R Fw:=(aG (oJ (aK 2 bQ (aC (vV 0) (aC (vV 1) aF))))
 (aG (dX 2 (cJ [none,some 0] (e1 bA (o_ ia (eC (.str "abc")) qf (qe (eA (aK 1 dJ (aC (vV 0) aF)))))) (stN 0) dS (eA (aK 2 dL (aC (vV 1) (aC (vV 0) aF))))))
 (aG (aV 3 (aK 1 uY (aC (vD (e1 dn (rV 0))) aF)))
 (aG (j5 (e1 bA (eV 1)) (stN 4) (aV 3 (aK 2 nP (aC (vV 3) (aC (vD (e2 b_ (rV 2) (e2 gM (eC (.str "abc")) (rV 4)))) aF)))))
 (aM (vV 3))))))
def gY:L9 A->R A:=du 5 rD
def XZ:Sg->R Fw:=(aM (vD (e1 dn (e2 b_ (e2 b_ (rV 0) (eC (.int 0))) (eC (.int 0))))))
def rE:L9 A->R A:=du 1 XZ
def tL:Sg->R Fw:=(aM (aK 3 dF (aC (vV 0) (aC (vD (eC (.int 0))) (aC (aK 2 fH (aC (aK 1 rE (aC (vV 0) aF)) (aC (vV 1) aF))) aF)))))
def gR:L9 A->R A:=du 2 tL
def tM:Sg->R Fw:=(aM (vD (e2 b_ (e2 b_ (rV 0) (eC (.int 1))) (eA (aK 2 gR (aC (vV 0) (aC (vV 1) aF)))))))
def i9:L9 A->R A:=du 2 tM
end _e
namespace _e
variable{rs:L9 Rw}
def jV(k:Nat)(rs:L9 Rw):Tb:=⟨rs.map λr=>some ((r.c.getD k (0,0)).2,(r.c.getD k (0,0)).1),rs.map λr=>some ((r.c.getD k (0,0)).2,(r.c.getD k (0,0)).1)⟩
theorem VF(k:Nat)(rs:L9 Rw):jx (jV k rs)=Ee (HU k rs) (HU k rs):=by
 unfold jx jV HU
 rw[B1];rfl
theorem mZ{r:Rw}(M:cg rs sg)(hr:r∈rs)(a:k < sg):r.c[k]? = some (r.c.getD k (0,0))/\qL rs.length (r.c.getD k (0,0)):=by
 have h:=M.row r hr
 exact⟨(by rw[BO,AJ (by simp_all)];rfl),h.1.2.2 _ (AD (by rw[BO,AJ (by simp_all)];rfl))⟩
theorem wE(M:cg rs sg)(e:k < sg):(jV k rs).good rs.length:=by
 have a:∀ x∈rs.map λr=>some ((r.c.getD k (0,0)).2,(r.c.getD k (0,0)).1),jU rs.length x:=λx d=>by
  obtain⟨r,hr,rfl⟩:=BG.mp d
  have b:=mZ M hr e
  exact⟨b.2.2.2,b.2.1,b.2.2.1⟩
 exact⟨by unfold jV;simp,by unfold jV;simp,a,a⟩
theorem aN.take{z:L9 Nat}(S:aN sg z)(i:Nat):aN sg (z.take i):=⟨by rw[BQ];have:=S.1;ext,λc a=>S.2 c (EC a)⟩
theorem yY(l:L9 Nat)(a:Nat):∀ n:Nat,a+n<=l.length->((range n).map λk=>a+k).filterMap (λi=>l[i]?)=(l.drop a).take n
 | 0,_=>rfl
 | n+1,h=>by
  rw[List.range_succ,BZ,List.filterMap_append,yY l a n (by ext),D7,List.getElem?_drop]
  rfl
theorem N0{a b:Nat}(h1:a<=b)(h2:b<=z.cps.toList.length):Txt.slice z (some (a:Int)) (some (b:Int))=⟨((z.cps.toList.drop a).take (b - a)).toArray⟩:=by
 have h:z.length=z.cps.toList.length:=by rfl
 unfold Txt.slice
 rw[StrLaws.strSliceIndices_plain h1 (by simp_all)]
 have e:((range (b - a)).map λk=>a+k).filterMap (λi=>z.cps[i]?)=(z.cps.toList.drop a).take (b - a):=by
  rw[<-yY z.cps.toList a _ (by ext)]
  simp
 rw[e]
 by_cases g:(1 == 1 && (((range (b - a)).map λk=>a+k).length == z.length))=true
 .have f:b - a=z.length:=by
   ext
  have d:a=0:=by ext
  have c:b=z.cps.toList.length:=by ext
  have e2:(z.cps.toList.drop a).take (b - a)=z.cps.toList:=by rw[d,c,List.drop_zero,Nat.sub_zero,CM (AG _)]
  simp_all
 ext
theorem XY(h:i<=z.cps.toList.length):Txt.slice z none (some (i:Int))=⟨(z.cps.toList.take i).toArray⟩:=by
 have e:Txt.slice z none (some i)=Txt.slice z (some ((0:Nat))) (some i):=by rfl
 rw[e,N0 (CT _) h];rfl
theorem XX(h:i<=z.cps.toList.length):Txt.slice z (some (i:Int)) none=⟨(z.cps.toList.drop i).toArray⟩:=by
 have a:z.length=z.cps.toList.length:=by rfl
 have e:Txt.slice z (some i) none=Txt.slice z (some i) (some (z.cps.toList.length)):=by unfold Txt.slice;rw[StrLaws.sliceIdx_none_hi,a]
 rw[e,N0 h (AG _),CM (by simp)]
theorem L7:∀ {x y:L9 Nat} {c i:Nat},(∀ d∈x,bK sg d=true)->bK sg c=false->dW sg i (x++c::y)=some (i+x.length)
 | [],y,c,i,_,hc=>by
  show dW sg i (c::y)=_
  rw[mO,AM (by simp_all)];rfl
 | d::x,y,c,i,hx,hc=>by
  show dW sg i (d::(x++c::y))=_
  rw[mO,AI (hx d (by simp)),L7 (λe a=>hx e (by simp[a])) hc]
  ext
end _e
variable{i:Int}
namespace _f
variable{lo hi:O9 Int}{Y:Sg}
@[simp] theorem fN(d:Dz)(Y:Sg):eC d Y=.ok d:=id rfl
@[simp] theorem fU(g:α->R β)(f:Sg->R α)(Y:Sg):e1 g f Y=(f Y).bind g:=id rfl
@[simp] theorem gZ{γ:Type}(g:α->β->R γ)(f:Sg->R α)(a:Sg->R β)(Y:Sg):e2 g f a Y=(f Y).bind λx=>(a Y).bind λy=>g x y:=id rfl
@[simp] theorem rF(i:Nat)(Y:Sg):eV i Y=match Y[i]? with|some (some (.d x))=>.ok x|_=>.bad:=id rfl
@[simp] theorem fO(i:Nat)(Y:Sg):rV i Y=match Y[i]? with|some (some (.d x))=>.ok x|some (some (.l xs))=>.ok (.list xs)|_=>.bad:=id rfl
@[simp] theorem kR(i:Nat)(Y:Sg):vV i Y=match Y[i]? with|some (some (.d x))=>.ok (.d x)|some (some (.x e))=>.ok (.x e)|some (some (.g k n f))=>.ok (.g k n f)|some (some (.f bd))=>.ok (.f bd)|_=>.bad:=id rfl
@[simp] theorem iO(f:Sg->R Dz)(Y:Sg):vD f Y=(f Y).bind λx=>.ok (.d x):=id rfl
@[simp] theorem mC(x:Dz):getD (.d x)=.ok x:=id rfl
@[simp] theorem oO(f:Sg->R A)(Y:Sg):eA f Y=(f Y).bind getD:=id rfl
@[simp] theorem Kj(f:Sg->R (L9 Dz))(Y:Sg):eL f Y=(f Y).bind λxs=>.ok (.list xs):=id rfl
@[simp] theorem fA(Y:Sg):(aF (α:=α)) Y=.ok []:=id rfl
@[simp] theorem eM(f:Sg->R α)(g:Sg->R (L9 α))(Y:Sg):aC f g Y=(f Y).bind λx=>(g Y).bind λxs=>.ok (x::xs):=id rfl
@[simp] theorem L6(f:Sg->R (L9 Dz))(Y:Sg):bW f Y=(f Y).bind λxs=>if xs.length<=16777216 then .ok (.tuple xs)else .bad:=id rfl
@[simp] theorem IT(f:Sg->R (L9 Dz))(Y:Sg):gA f Y=(f Y).bind λxs=>if xs.length<=16777216 then .ok xs else .bad:=id rfl
@[simp] theorem gE(n:Nat)(G:L9 A->R A)(f:Sg->R (L9 A))(Y:Sg):aK n G f Y=(f Y).bind λas=>if as.length=n then G as else .bad:=id rfl
@[simp] theorem cX(n:Nat)(fb:Sg->R Fw)(b:L9 A):du n fb b=(fb (b.map some++replicate (n - b.length) none)).bind λw=>match w with | .rt (.l _)=>.bad | .rt a=>.ok a | .nx _=>.ok (.d .none)|_=>.bad:=id rfl
@[simp] theorem pQ(Y:Sg):gb Y=.ok (.nx Y):=id rfl
@[simp] theorem aU(f g:Sg->R Fw)(Y:Sg):aG f g Y=(f Y).bind λw=>match w with | .nx Y'=>g Y'|w=>.ok w:=id rfl
@[simp] theorem jK(f:Sg->R A)(Y:Sg):aM f Y=(f Y).bind λa=>.ok (.rt a):=id rfl
@[simp] theorem kS(t:Sg->R Bool)(f g:Sg->R Fw)(Y:Sg):fu t f g Y=(t Y).bind λb=>if b=true then f Y else g Y:=id rfl
@[simp] theorem RB(t:Sg->R Bool)(f g:Sg->R α)(Y:Sg):we t f g Y=(t Y).bind λb=>if b=true then f Y else g Y:=id rfl
@[simp] theorem eG(i:Nat)(f:Sg->R A)(Y:Sg):aV i f Y=(f Y).bind λa=>.ok (.nx (Y.set i (some a))):=id rfl
@[simp] theorem lG(i:Nat)(f:Sg->R (L9 Dz))(Y:Sg):dX i f Y=(f Y).bind λxs=>.ok (.nx (Y.set i (some (.l xs)))):=id rfl
@[simp] theorem xG(f:Sg->R A)(Y:Sg):oJ f Y=(f Y).bind λ_=>.ok (.nx Y):=id rfl
@[simp] theorem ZA(i:Nat)(f:Sg->R Fw)(Y:Sg):ri i f Y=f (fz i Y):=id rfl
@[simp] theorem Zk(i:Nat)(Y:Sg):fz i Y=match Y[i]? with|some (some (.l xs))=>Y.set i (some (.d (.list xs)))|_=>Y:=id rfl
@[simp] theorem ZZ(i:Nat)(f:Sg->R Dz)(Y:Sg):kO i f Y=match Y[i]? with|some (some (.l xs))=>(f Y).bind λx=>if xs.length < 16777216 then .ok (.nx (Y.set i (some (.l (xs++[x])))))else .bad|_=>.bad:=id rfl
@[simp] theorem ZY(fs:Dz->Sg->O9 Sg)(f:Sg->R Dz)(Y:Sg):xA fs f Y=(f Y).bind λx=>(yq (fs x Y)).bind λY'=>.ok (.nx Y'):=id rfl
@[simp] theorem pR(fi:Sg->R (L9 Dz))(fs:Dz->Sg->O9 Sg)(fb:Sg->R Fw)(Y:Sg):j5 fi fs fb Y=(fi Y).bind λxs=>iK fs fb xs Y:=id rfl
@[simp] theorem lH(js:L9 (O9 Nat))(fi:Sg->R (L9 Dz))(fs:Dz->Sg->O9 Sg)(ft:Sg->R Bool)(fe:Sg->R Dz)(Y:Sg):cJ js fi fs ft fe Y=(fi Y).bind λxs=>di fs ft fe (eH js Y) xs:=id rfl
@[simp] theorem Zf(cn:Str)(fs:L9 Str)(f:Sg->R (L9 Dz))(Y:Sg):sZ cn fs f Y=(f Y).bind λxs=>if xs.length=fs.length then .ex ⟨cn,fs.zip xs⟩else .bad:=id rfl
@[simp] theorem K7(i:Nat)(x:Dz)(Y:Sg):stN i x Y=some (Y.set i (some (.d x))):=id rfl
@[simp] theorem RA(fs:L9 (Dz->Sg->O9 Sg))(xs:L9 Dz)(Y:Sg):u6 fs (.tuple xs) Y=u_ fs xs Y:=id rfl
@[simp] theorem Tz(Y:Sg):u_ [] [] Y=some Y:=id rfl
@[simp] theorem VE(f:Dz->Sg->O9 Sg)(fs:L9 (Dz->Sg->O9 Sg))(x:Dz)(xs:L9 Dz)(Y:Sg):u_ (f::fs) (x::xs) Y=(f x Y).bind (u_ fs xs):=id rfl
@[simp] theorem Ul(Y:Sg):dS Y=.ok true:=id rfl
@[simp] theorem kT(b:Bool):dg (.bool b)=.ok b:=id rfl
@[simp] theorem ZX(f:Sg->R Bool)(Y:Sg):qV f Y=(f Y).bind λb=>.ok (!b):=id rfl
@[simp] theorem uZ(f g:Sg->R Bool)(Y:Sg):nI f g Y=(f Y).bind λb=>if b=true then g Y else .ok false:=id rfl
@[simp] theorem Zz(f g:Sg->R Bool)(Y:Sg):uo f g Y=(f Y).bind λb=>if b=true then .ok true else g Y:=id rfl
@[simp] theorem ZW(f:Sg->R Dz)(Y:Sg):Ay f Y=(f Y).bind λx=>(dg x).bind λb=>.ok (.bool (!b)):=id rfl
@[simp] theorem Uk(f g:Sg->R Dz)(Y:Sg):sV f g Y=(f Y).bind λx=>(dg x).bind λb=>if b=true then g Y else .ok (.bool false):=id rfl
@[simp] theorem yZ(g:Dz->O9 Int->O9 Int->R α)(f:Sg->R Dz)(lo hi:Sg->R (O9 Int))(Y:Sg):o_ g f lo hi Y=(f Y).bind λx=>(lo Y).bind λl=>(hi Y).bind λh=>g x l h:=id rfl
@[simp] theorem y3(Y:Sg):qf Y=.ok none:=id rfl
@[simp] theorem y4(f:Sg->R Dz)(Y:Sg):qe f Y=(f Y).bind λx=>match x with | .int i=>.ok (some i)|_=>.bad:=id rfl
@[simp] theorem kU(f:Sg->R Dz)(Y:Sg):dN f Y=(f Y).bind λx=>match x with | .int j=>kP 0 j|_=>.bad:=id rfl
@[simp] theorem ZV(i:Nat)(g:Dz->Dz->R Dz)(f:Sg->R Dz)(Y:Sg):Dx i g f Y=(eV i Y).bind λx=>(f Y).bind λy=>(g x y).bind λz=>.ok (.nx (Y.set i (some (.d z)))):=id rfl
@[simp] theorem rG(i:Nat)(Y:Sg):mQ i Y=.ok (.nx (Y.set i (some (.m [])))):=id rfl
@[simp] theorem Uj(a:Bool)(i:Nat)(f:Sg->R Dz)(Y:Sg):mH a i f Y=(f Y).bind λk=>match Y[i]? with|some (some (.m bd))=>if cZ k (bd.map (·.1))=true then .ok (.bool (if a=true then !eU bd k else eU bd k))else .bad|some (some (.f bd))=>if cZ k (bd.map (·.1))=true then .ok (.bool (if a=true then !eU bd k else eU bd k))else .bad|_=>.bad:=id rfl
@[simp] theorem ZQ(i:Nat)(f:Sg->R Dz)(Y:Sg):uU i f Y=match Y[i]? with|some (some (.m bd))=>(f Y).bind λk=>if cZ k (bd.map (·.1))=true then(match j9 bd k with|some v=>.ok v|none=>.bad)else .bad|some (some (.f bd))=>(f Y).bind λk=>if cZ k (bd.map (·.1))=true then(match j9 bd k with|some v=>.ok v|none=>.bad)else .bad|_=>.bad:=id rfl
@[simp] theorem VD(i:Nat)(f g:Sg->R Dz)(Y:Sg):lT i f g Y=(g Y).bind λv=>match Y[i]? with|some (some (.m bd))=>(f Y).bind λk=>if cZ k (bd.map (·.1))=true/\bd.length<=16777216 then .ok (.nx (Y.set i (some (.m (iu bd k v)))))else .bad|_=>.bad:=id rfl
@[simp] theorem y6(i j:Int):bN (.int i) (.int j)=.ok (.int (i+j)):=id rfl
@[simp] theorem K6(i j:Int):fj (.int i) (.int j)=.ok (.int (i - j)):=id rfl
@[simp] theorem ZU(i j:Int):uT (.int i) (.int j)=.ok (.int (i+j)):=id rfl
@[simp] theorem Ih(i:Int):hW (.int i)=.ok (.int (-i)):=id rfl
@[simp] theorem HT(i j:Int):uf (.int i) (.int j)=.ok (.bool (decide (i < j))):=id rfl
@[simp] theorem Qs(i j:Int):qg (.int i) (.int j)=.ok (.bool (decide (j < i))):=id rfl
@[simp] theorem Zj(i j:Int):vw (.int i) (.int j)=.ok (.bool (decide (j<=i))):=id rfl
theorem bS{i j:Int}(h:0 < j):cy (.int i) (.int j)=.ok (.int (i % j)):=AI h
theorem iA{j:Int}(h:0 < j)(h2:j < 18446744073709551616):eT (.int i) (.int j)=.ok (.int (i / j)):=AI ⟨h,h2⟩
theorem tN{j:Int}(h : -18446744073709551616 < j)(h2:j < 18446744073709551616):hF (.int i) (.int j)=.ok (.int (i * j)):=AI (.inr ⟨h,h2⟩)
theorem Ig{j:Int}(h : -18446744073709551616 < i)(h2:i < 18446744073709551616):hF (.int i) (.int j)=.ok (.int (i * j)):=AI (.inl ⟨h,h2⟩)
@[simp] theorem tO(xs:L9 Dz):dn (.list xs)=.ok (.int xs.length):=id rfl
@[simp] theorem Rz(xs:L9 Dz):dn (.tuple xs)=.ok (.int xs.length):=id rfl
theorem y7{z:Str}(h:z.length<=16777216):dn (.str z)=.ok (.int z.length):=AI h
@[simp] theorem Ry(xs:L9 Dz):ew (.list xs)=.ok (.tuple xs):=id rfl
@[simp] theorem Zy(xs:L9 Dz):ew (.tuple xs)=.ok (.tuple xs):=id rfl
@[simp] theorem Zx(i:Int):D_ (.int i)=.ok (.int i):=id rfl
@[simp] theorem Zw(b:Bool):D_ (.bool b)=.ok (.int (if b=true then 1 else 0)):=id rfl
@[simp] theorem Zi(x:Dz):Jt x .none=.ok (.bool (jX x)):=id rfl
@[simp] theorem ZT(x:Dz):mh x .none=.ok (.bool (!jX x)):=id rfl
@[simp] theorem ZS:jX .none=true:=id rfl
@[simp] theorem ZR(xs:L9 Dz):jX (.tuple xs)=false:=id rfl
@[simp] theorem ZH(i:Int):jX (.int i)=false:=id rfl
@[simp] theorem ZG(i:Str):jX (.str i)=false:=id rfl
theorem jL{xs:L9 α}{v:α}(h0:0<=i)(h:xs[i.toNat]? = some v):j1 xs i=some v:=by
 obtain⟨j,rfl⟩:∃ j:Nat,i=j:=⟨i.toNat,by ext⟩
 exact cM h
theorem Nc(x:α)(t:L9 α):j1 (x::t) 0=some x:=cM rfl
theorem L5(x y:α)(t:L9 α):j1 (x::y::t) 1=some y:=cM rfl
theorem Ui(x y z:α)(t:L9 α):j1 (x::y::z::t) 2=some z:=cM rfl
theorem g7{v:Dz}(h:j1 xs i=some v):b_ (.tuple xs) (.int i)=.ok v:=by show(match j1 xs i with|some v=>R.ok v|none=>.bad)=_;rw[h]
theorem jY{v:Dz}(h:j1 xs i=some v):b_ (.list xs) (.int i)=.ok v:=by show(match j1 xs i with|some v=>R.ok v|none=>.bad)=_;rw[h]
theorem El{u:Nat}(a:z.length<=16777216)(h:j1 z.cps.toList i=some u):b_ (.str z) (.int i)=.ok (.str ⟨#[u]⟩):=by
 show(if z.length<=sizeLine then match j1 z.cps.toList i with|some u=>R.ok _|none=>.bad else .bad)=_
 rw[iF,AI a,h]
@[simp] theorem tP(x:Dz)(t:L9 Dz):b_ (.tuple (x::t)) (.int 0)=.ok x:=g7 (Nc x t)
@[simp] theorem Ie(x y:Dz)(t:L9 Dz):b_ (.tuple (x::y::t)) (.int 1)=.ok y:=g7 (L5 x y t)
@[simp] theorem Zv(x y z:Dz)(t:L9 Dz):b_ (.tuple (x::y::z::t)) (.int 2)=.ok z:=g7 (Ui x y z t)
@[simp] theorem Zu(x:Dz)(t:L9 Dz):b_ (.list (x::t)) (.int 0)=.ok x:=jY (Nc x t)
@[simp] theorem Zt(x y:Dz)(t:L9 Dz):b_ (.list (x::y::t)) (.int 1)=.ok y:=jY (L5 x y t)
theorem rH(h:xs.length<=16777216):bA (.tuple xs)=.ok xs:=AI h
theorem gF{xs:L9 Dz}(h:xs.length<=16777216):bA (.list xs)=.ok xs:=AI h
theorem rJ{z:Str}(h:z.cps.toList.length<=16777216):bA (.str z)=.ok (z.cps.toList.map λu=>.str ⟨#[u]⟩):=AI h
theorem y8{x:Dz}(hx:shaped x=true)(a:shaped y=true):ey x y=.ok (.bool (PyData.eqv x y)):=AI ⟨hx,a⟩
theorem K5{x:Dz}(hx:shaped x=true)(a:shaped y=true):ou x y=.ok (.bool (!PyData.eqv x y)):=AI ⟨hx,a⟩
@[simp] theorem Zs(T:String)(i:Int):j7 T (.int i)=.ok (.bool (j6 "int" T)):=id rfl
@[simp] theorem Zr(T:String)(i:Str):j7 T (.str i)=.ok (.bool (j6 "str" T)):=id rfl
@[simp] theorem Zp(T:String)(i:L9 Dz):j7 T (.tuple i)=.ok (.bool (j6 "tuple" T)):=id rfl
@[simp] theorem Zo(T:String)(i:L9 Dz):j7 T (.list i)=.ok (.bool (j6 "list" T)):=id rfl
@[simp] theorem Zn(T:String)(i:Bool):j7 T (.bool i)=.ok (.bool (j6 "bool" T)):=id rfl
@[simp] theorem Zm(T:String):j7 T .none=.ok (.bool (j6 "NoneType" T)):=id rfl
theorem PH(h:¬ (_b.fo xs.length 0 lo=0/\_b.fo xs.length xs.length hi=xs.length)):ia (.tuple xs) lo hi=.ok (.tuple (kQ xs lo hi)):=AI h
theorem PF(xs:L9 Dz)(lo hi:O9 Int):ia (.list xs) lo hi=.ok (.list (kQ xs lo hi)):=id rfl
theorem Ki(h:z.length<=16777216):ia (.str z) lo hi=.ok (.str (Txt.slice z lo hi)):=AI h
theorem Rx{ys:L9 Dz}(h:xs.isEmpty=false)(h2:xs.length+ys.length<=16777216):bN (.tuple xs) (.tuple ys)=.ok (.tuple (xs++ys)):=AI ⟨h,by assumption⟩
theorem K4{y:Str}(h:x.length+y.length<=16777216):bN (.str x) (.str y)=.ok (.str (x++y)):=AI (by assumption)
theorem cL{fs:Dz->Sg->O9 Sg}{fe:Sg->R Dz}{Y0:Sg}{d:α->Dz}{g:α->Dz}:∀ {xs:L9 α},(∀ x∈xs,∃ Y1,fs (d x) Y0=some Y1/\fe Y1=.ok (g x))->di fs dS fe Y0 (xs.map d)=.ok (xs.map g)
 | [],_=>rfl
 | x::t,h=>by
  obtain⟨Y1,h1⟩:=h x A5
  rw[AV]
  unfold di
  rw[h1.1,cL λy a=>h y (AU _ a),l8,R.cf,h1.2];rfl
theorem jA{fs:Dz->Sg->O9 Sg}{fb:Sg->R Fw}{d:α->Dz}{xs:L9 α}(J:Nat->Sg->Prop)(h0:J 0 Y)(b:∀ (i:Nat) (x:α) (Y:Sg),xs[i]? = some x->J i Y->∃ Y1 Y2,fs (d x) Y=some Y1/\(fb Y1=.ok (.nx Y2)\/fb Y1=.ok (.ct Y2))/\J (i+1) Y2) :
  ∃ Y',iK fs fb (xs.map d) Y=.ok (.nx Y')/\J xs.length Y':=by
 induction xs generalizing Y J with
 | nil=>exact⟨Y,rfl,h0⟩
 | cons x t ih=>
  obtain⟨Y1,Y2,h1,h2,e⟩:=b 0 x Y rfl h0
  obtain⟨Y',a⟩:=ih (λi=>J (i+1)) e (λi y Y f c=>b _ y Y (by assumption) c)
  refine⟨Y',?_,a.2⟩
  rw[AV]
  unfold iK
  rw[h1,l8,R.cf]
  rcases h2 with h2|h2<;>rw[h2]<;>exact a.1
theorem eX{t:Sg->R Bool}{b:Sg->R Fw}{a:Sg}(h1:t Y=.ok true)(h2:b Y=.ok (.nx a)):bF t b Y=bF t b a:=by
 rw[sX,h1,h2];rfl
theorem kK{t:Sg->R Bool}{b:Sg->R Fw}{a:A}(h1:t Y=.ok true)(h2:b Y=.ok (.rt a)):bF t b Y=.ok (.rt a):=by
 rw[sX,h1,h2];rfl
theorem cC{t:Sg->R Bool}{b:Sg->R Fw}(h1:t Y=.ok false):bF t b Y=.ok (.nx Y):=by
 rw[sX,h1,R.cf,AM (by simp)]
def ef(d:α->Dz)(ps:L9 α):L9 (Dz×Dz):=ps.map λp=>(d p,.bool true)
theorem tQ(d:α->Dz)(ps:L9 α):(ef d ps).map (·.1)=ps.map d:=by unfold ef;rw[B1];rfl
theorem lI{d:α->Dz}(c:∀ a b,d a=d b->a=b){ps:L9 α}{p:α}:eU (ef d ps) (d p)=true↔p∈ps:=by
 rw[w9,tQ]
 ext
theorem gS{d:α->Dz}(c:∀ a b,d a=d b->a=b){ps:L9 α}{p:α}(h:p∉ps):eU (ef d ps) (d p)=false:=by
 cases q:eU _ _ with
 | false=>rfl
 | true=>exact absurd ((lI c).mp q) h
theorem lJ{d:α->Dz}(c:∀ a b,d a=d b->a=b){ps:L9 α}{p:α}(h:p∉ps):iu (ef d ps) (d p) (.bool true)=ef d (ps++[p]):=by
 unfold iu
 rw[gS c h]
 unfold ef
 rw[BZ];rfl
theorem eY{d:α->Dz}(b:∀ a,mF (d a)=true)(ps:L9 α)(p:α):cZ (d p) ((ef d ps).map (·.1))=true:=by
 unfold cZ
 rw[tQ,b,GY,D5,B7]
 ext
theorem g8(d:α->Dz)(ps:L9 α):(ef d ps).length=ps.length:=by unfold ef;simp
def dh(p:Int×Int):Dz:=.tuple [.int p.1,.int p.2]
theorem iG(a b:Int×Int)(h:dh a=dh b):a=b:=by
 unfold dh at h
 ext
theorem iH(a:Int×Int):mF (dh a)=true:=rfl
end _f
variable{i:Nat}{s:Int×Int}
namespace _e
open _f
variable{rs:L9 Rw}
theorem u7{r:Rw}:dJ [.d (aL (r::rs))]=.ok (.d (.int r.c.length)):=by
 simp[dJ,yW,aL,cU]
theorem VC(h1:1<=n)(e:n<=3)(z:Str):∀ (cs:L9 Nat) (k:Nat) (u3 u4:O9 A),
  iK (u6 [stN 3,stN 4]) (fu (e1 dg (e2 ot (rV 4) (rV 2))) (sZ "NoStrip" ["at"] (aC (eV 3) aF)) gb) (mG k (cs.map λu=>.str ⟨#[u]⟩)) [some (.d (.int n)),some (.d (.str z)),some (.d (.str (Txt.slice "abc" none (some (n:Int))))),u3,u4] =
  match dW n k cs with
  | some i=>.ex ⟨"NoStrip",[("at",.int i)]⟩
  | none=>.ok (.nx [some (.d (.int n)),some (.d (.str z)),some (.d (.str (Txt.slice "abc" none (some (n:Int))))),if cs=[]then u3 else some (.d (.int ((k+cs.length - 1:Nat):Int))),if cs=[]then u4 else(cs.getLast?.map λu=>A.d (.str ⟨#[u]⟩))]):=by
 intro cs
 induction cs with
 | nil=>intro k u3 u4;rfl
 | cons c t ih=>
  intro k u3 u4
  have a:ot (.str ⟨#[c]⟩) (.str (Txt.slice "abc" none (some n)))=.ok (.bool (!bK n c)):=by
   show R.ok _=_
   rw[V4 h1 e]
  rw[AV,mG]
  unfold iK
  rw[mO]
  cases b:bK n c with
  | false=>simp[a,b]
  | true=>
   simp[a,b,ih]
   cases dW n _ t with
   | some i=>rfl
   | none=>
    cases t with
    | nil=>rfl
    | cons c' t'=>rfl
theorem HS(h1:1<=n)(e:n<=3)(c:z.cps.toList.length<=16777216):fH [.d (.int n),.d (.str z)]=match dW n 0 z.cps.toList with
  | some i=>.ex ⟨"NoStrip",[("at",.int i)]⟩
  | none=>.ok (.d (.str z)):=by
 have a:ia (.str "abc") none (some n)=.ok (.str (Txt.slice "abc" none (some n))):=by
  rfl
 have b:Ep (.str z)=.ok _:=AI c
 simp only[fH,tK,cX,aU,eG,iO,yZ,fN,y3,y4,fO,pR,fU,rF,AV,BF,A7,BC,AT,A9]
 simp only[replicate,AW,AK,a,R.cf,A3,A4,b,VC h1 e]
 cases dW n 0 z.cps.toList with
 | some i=>rfl
 | none=>rfl
theorem cg.cons{rs:L9 Rw}{sg:Nat}(M:cg rs sg):∃ r t,rs=r::t/\r.c.length=sg:=by
 cases rs with
 | nil=>have:=M.len;simp_all
 | cons r t=>exact⟨r,t,rfl,(M.row r A5).2⟩
theorem Lk(M:cg rs sg)(a:z.cps.toList.length<=16777216):bQ [.d (aL rs),.d (.str z)]=match dW sg 0 z.cps.toList with
  | some i=>.ex ⟨"NoStrip",[("at",.int i)]⟩
  | none=>.ok (.d (.str z)):=by
 obtain⟨r,t,rfl,hr⟩:=M.cons
 simp[bQ,N2,u7,hr,HS M.rh M.qc a]
 cases dW sg 0 z.cps.toList<;>rfl
theorem lK(M:cg rs sg)(S:aN sg z.cps.toList):bQ [.d (aL rs),.d (.str z)]=.ok (.d (.str z)):=by
 rw[Lk M (by have:=S.1;ext),wR S.2]
def ck(k:Nat)(r:Rw):Int×Int:=r.c.getD k (0,0)
theorem L4(M:cg rs sg)(a:k < sg):fS [.d (aL rs),.d (.int k)]=.ok (.d (.list (rs.map λr=>dr (ck k r)))):=by
 have h:=cL (fs:=stN 0) (fe:=e2 b_ (e2 b_ (rV 0) (eC (.int 1))) (rV 1)) (Y0:=[none,some (.d (.int k))]) (d:=cU) λr hr=>by
  refine⟨_,rfl,?_⟩
  have e:b_ _ _=.ok (dr (ck k r)):=g7 (cM (by rw[AZ,(mZ M hr a).1];rfl))
  assumption
 have b:(rs.map cU).length<=16777216:=by have:=M.l_;ext
 simp[fS,yX,aL,rH b,eH,h]
theorem fV{n:Nat}(h:n<=16777216):kP 0 (n:Int)=.ok ((range n).map λi:Nat=>.int (i:Int)):=by
 unfold kP
 rw[AI (by ext)]
 unfold nK
 simp
theorem PB{n:Nat}(h:n<=1000):uY [.d (.int n)]=.ok (.d (jx (pG n))):=by
 rw[UE]
 simp only[uY,L8,cX,aU,eG,iO,fU,Kj,lH,kU,fO,R.cf,AV,BF,A7,AT,A9,replicate,AW,(fV (n:=n) (by ext)),eH,GC,(cL (fs:=stN 0) (fe:=bW (aC (eC _) (aC (eV 0) aF))) (Y0:=[none]) (g:=λi:Nat=>nA 1 i) (xs:=range n) λi _=>⟨_,rfl,by rfl⟩),(cL (fs:=stN 0) (fe:=bW (aC (e1 hW (eC (.int 1))) (aC (eV 0) aF))) (Y0:=[none]) (g:=λi:Nat=>nA (-1) i) (xs:=range n) λi _=>⟨_,rfl,by rfl⟩),Ry,A3]
 rfl
theorem W8(z y:Str):gM (.str z) (.str y)=match Builtin.Str.occurrences z y 0 z.length 1 with|i::_=>R.ok (PyData.int i)|[]=>.bad:=rfl
theorem m4(h:bK 3 c=true):gM (.str "abc") (.str ⟨#[c]⟩)=.ok (.int ((c - 97:Nat):Int)):=by
 obtain⟨r,e⟩:=Xe h
 rw[W8,e]
theorem lL(a:n<=3)(h:bK n c=true):bK 3 c=true:=A2 (by have:=BH h;ext)
theorem W7(b:bK sg c=true):aN sg (⟨#[c]⟩:Str).cps.toList:=⟨by simp,λx a=>by
 simp_all⟩
theorem Kh(M:cg rs sg)(a:bK sg c=true):dL [.d (aL rs),.d (.str ⟨#[c]⟩)]=.ok (.d (jx (jV (c - 97) rs))):=by
 have b:c - 97 < sg:=by have:=BH a;ext
 have e:(rs.map λr:Rw=>dr (ck (c - 97) r)).length<=16777216:=by have:=M.l_;ext
 rw[VF]
 simp[dL,nO,lK M (W7 a),m4 (lL M.qc a),L4 M b,gF e,eH,(cL (fs:=stN 0) (fe:=bW (aC (e2 b_ (rV 0) (eC (.int 1))) (aC (e2 b_ (rV 0) (eC (.int 0))) aF))) (Y0:=[none]) (d:=λr:Rw=>dr _) (g:=λr:Rw=>nA _ (ck (c - 97) r).1) λr _=>⟨_,rfl,by rfl⟩)]
 rfl
theorem Nb(s:Int×Int):ng (some s)=dh s:=id rfl
theorem wF(s:Int×Int):shaped (dh s)=true:=id rfl
theorem mR(i:Int):shaped (.int i)=true:=id rfl
theorem cY(i j:Int):ey (.int i) (.int j)=.ok (.bool (decide (i=j))):=by rfl
theorem Rv(s:Int×Int):b_ (dh s) (.int 1)=.ok (.int s.2):=Ie _ _ _
def gρ(a b:Tb)(th:Th)(w:Int)(ps:L9 (Int×Int)):Sg:=[some (.d (jx a)),some (.d (jx b)),some (.d (ng th)),some (.d (.int w)),some (.m (ef dh ps))]
theorem L3(a b:Tb)(w:Int)(ps:L9 (Int×Int)):gT (gρ a b none w ps)=.ok false:=by rfl
theorem u8(a b:Tb)(s:Int×Int)(w:Int)(ps:L9 (Int×Int)):gT (gρ a b (some s) w ps)=.ok (decide (s.1=w)):=by rfl
theorem Uh{t:Tb}(h:t.good m)(h0:0<=q)(h1:q < m):b_ (.tuple (t.f.map ng)) (.int q)=.ok (ng (t.at 1 q)):=by
 refine g7 (jL h0 ?_)
 have:=(h.at (w:=1) h0 h1).1
 simp_all
theorem QY{t:Tb}(h:t.good m)(h0:0<=q)(h1:q < m):b_ (.tuple (t.a.map ng)) (.int q)=.ok (ng (t.at (-1) q)):=by
 refine g7 (jL h0 ?_)
 have:=(h.at (w:=-1) h0 h1).1
 simp_all
theorem Kg(t:Tb):b_ (jx t) (.int 0)=.ok (.tuple (t.f.map ng)):=tP _ _
theorem Kf(t:Tb):b_ (jx t) (.int 1)=.ok (.tuple (t.a.map ng)):=Ie _ _ _
theorem QX{a b:Tb}{w:Int}(h:s∈ps):gB (gρ a b (some s) w ps)=.ok (.rt (.d .none)):=by
 simp[gB,gρ,Nb,(eY iH ps s),((lI iG).mpr h)]
theorem Pz{a b:Tb}(d:a.good m)(hb:b.good m)(h:s∉ps)(V:uN m s)(e:ps.length<=16777216) :
  gB (gρ a b (some s) s.1 ps)=.ok (.nx (gρ a b (if s.1=1 then b.at 1 s.2 else a.at (-1) s.2) (-s.1) (ps++[s]))):=by
 have i:=lJ iG h
 have c:(ef dh ps).length<=16777216:=by rw[g8];ext
 have f:=Uh hb V.2.1 V.2.2
 have g:=QY d V.2.1 V.2.2
 simp only[gB,gρ,Nb,aU,kS,fU,Uj,rF,AW,AK,R.cf,(eY iH ps s),CG,(gS iG h),kT,CC,DU,pQ,VD,fN,c,and_self,A4,A3,eG,iO,RB,gZ,fO,cY,Rv,Kg,Kf,decide_eq_true_eq]
 by_cases q:s.1=1<;>simp_all
def o6:Sg->R Fw:=(aG (aV 2 (vD (eC (.int 0))))
 (aG (fu (e1 dg (e2 qg (e1 dn (rV 0)) (eC (.int 0)))) (aV 2 (vD (e2 b_ (rV 0) (e2 cy (rV 1) (e1 dn (rV 0)))))) gb)
 (aG (aV 3 (vD (e2 cy (e2 hF (e2 bN (e2 bN (e2 cy (rV 2) (eC (.int 2147483647))) (e2 hF (eC (.int 7919)) (rV 1))) (eC (.int 1))) (eC (.int 48271))) (eC (.int 2147483647)))))
 (aM (vD (e2 bN (e2 hF (e2 eT (rV 2) (eC (.int 2147483647))) (eC (.int 2147483659))) (e2 cy (e2 bN (e2 hF (rV 3) (eC (.int 69621))) (e2 hF (eC (.int 104729)) (rV 1))) (eC (.int 2147483659)))))))))
def bJ:L9 A->R A:=du 4 o6
def rK:Sg->R Fw:=(aG (fu (e1 dg (e2 ey (e2 cy (rV 0) (eC (.int 3))) (eC (.int 0)))) (aM (vD (e2 b_ (eL (gA (aC (eC (.str "by")) (aC (eC (.str "out")) aF)))) (e2 cy (e2 eT (rV 0) (eC (.int 3))) (eC (.int 2)))))) gb)
 (aM (vD (e2 cy (e2 eT (rV 0) (eC (.int 3))) (rV 1)))))
def g9:L9 A->R A:=du 2 rK
def nQ:Sg->R Fw:=(aG (aV 3 (vD (e2 cy (rV 0) (e2 bN (rV 1) (eC (.int 2))))))
 (aG (aV 0 (vD (e2 eT (rV 0) (e2 bN (rV 1) (eC (.int 2))))))
 (aG (dX 4 (gA aF))
 (aG (j5 (dN (rV 2)) (stN 5) (aG (kO 4 (bW (aC (e2 cy (e2 eT (rV 0) (eC (.int 2))) (rV 1)) (aC (e2 fj (eC (.int 1)) (e2 hF (e2 cy (rV 0) (eC (.int 2))) (eC (.int 2)))) aF))))
 (aV 0 (vD (e2 eT (rV 0) (e2 hF (eC (.int 2)) (rV 1)))))))
 (aG (dX 6 (gA (aC (eV 3) (aC (e2 cy (rV 0) (e2 bN (rV 1) (eC (.int 2)))) aF))))
 (aG (dX 6 (cJ [none,some 1] (e1 bA (rV 6)) (stN 0) dS (we (e1 dg (e2 vw (rV 0) (rV 1))) (e2 b_ (eL (gA (aC (eC (.str "by")) (aC (eC (.str "out")) aF)))) (e2 fj (rV 0) (rV 1))) (eV 0))))
 (aM (vD (bW (aC (e2 b_ (rV 6) (eC (.int 0))) (aC (e1 ew (rV 4)) (aC (e2 b_ (rV 6) (eC (.int 1))) aF))))))))))))
def hU:L9 A->R A:=du 7 nQ
def Cg:Sg->R Fw:=aG (aV 0 (vD (e2 cy (e2 bN (e2 hF (rV 0) (eC (.int 48271))) (eC (.int 7919))) (eC (.int 2147483647))))) (kO 3 (e2 eT (rV 0) (eC (.int 64))))
def Cf:Sg->R Dz:=bW (aC (e2 cy (rV 0) (rV 1)) (aC (e2 fj (eC (.int 1)) (e2 hF (e2 eT (e2 cy (e2 eT (rV 0) (eC (.int 64))) (eC (.int 3))) (eC (.int 2))) (eC (.int 2)))) aF))
def nR:Sg->R Fw:=(aG (dX 3 (gA aF))
 (aG (j5 (dN (e2 bN (rV 2) (eC (.int 2)))) (stN 4) Cg)
 (aG (aV 5 (vD (e1 ew (eL (cJ [none,some 1] (e1 bA (o_ ia (rV 3) (qe (eC (.int 2))) qf)) (stN 0) dS Cf)))))
 (aM (vD (bW (aC (eA (aK 2 g9 (aC (vD (e2 b_ (rV 3) (eC (.int 0)))) (aC (vV 1) aF)))) (aC (eV 5) (aC (eA (aK 2 g9 (aC (vD (e2 b_ (rV 3) (eC (.int 1)))) (aC (vV 1) aF)))) aF)))))))))
def hV:L9 A->R A:=du 6 nR
def Cj:Sg->R Bool:=(nI (e1 dg (e2 uf (e2 bN (rV 1) (rV 5)) (e1 dn (rV 0)))) (e1 dg (e2 ey (e2 cy (e2 b_ (rV 0) (eC (.int 0))) (eC (.int 2))) (eC (.int 1)))))
def Ci:Sg->R Bool:=(nI (e1 dg (e2 ey (rV 5) (eC (.int 0)))) (nI (e1 dg (e1 (j7 "str") (e2 b_ (rV 6) (eC (.int 0))))) (e1 dg (e2 qg (e2 cy (e2 eT (eA (aK 2 bJ (aC (vV 0) (aC (vV 1) aF)))) (eC (.int 8))) (eC (.int 8))) (eC (.int 0))))))
def zo:Sg->R Fw:=(fu Cj (kO 4 (eA (aK 3 hU (aC (vD (e2 b_ (rV 0) (e2 bN (rV 1) (rV 5)))) (aC (vV 2) (aC (vV 3) aF)))))) (aG (aV 6 (aK 3 hV (aC (vD (e2 cy (eA (aK 2 bJ (aC (vV 0) (aC (vD (e2 bN (rV 1) (rV 5))) aF)))) (eC (.int 2147483647)))) (aC (vV 2) (aC (vV 3) aF)))))
 (aG (fu Ci (aV 6 (vD (e2 bN (bW (aC (e2 cy (e2 eT (eA (aK 2 bJ (aC (vV 0) (aC (vV 1) aF)))) (eC (.int 64))) (rV 2)) aF)) (o_ ia (rV 6) (qe (eC (.int 1))) qf)))) gb)
 (kO 4 (eV 6)))))
def pS:Sg->R Fw:=(aG (dX 4 (gA aF)) (aG (j5 (dN (rV 2)) (stN 5) zo) (aM (vD (e1 ew (rV 4))))))
def jM:L9 A->R A:=du 7 pS
def kW:Sg->R Fw:=(aG (fu (nI (e1 dg (e2 uf (rV 1) (e1 dn (rV 0)))) (e1 dg (e2 ey (e2 cy (e2 b_ (rV 0) (eC (.int 0))) (eC (.int 2))) (eC (.int 1))))) (aG (aV 4 (vD (e2 b_ (rV 0) (rV 1))))
 (aG (aV 5 (vD (eC (.str ""))))
 (aG (j5 (dN (rV 2)) (stN 6) (aG (aV 5 (vD (e2 bN (rV 5) (e2 b_ (eC (.str "abc")) (e2 cy (rV 4) (rV 3))))))
 (aV 4 (vD (e2 eT (rV 4) (rV 3))))))
 (aM (vV 5))))) gb)
 (aM (vD (e2 Es (eC (.str "")) (eL (cJ [none,some 0,some 1,some 3] (dN (rV 2)) (stN 0) dS (e2 b_ (eC (.str "abc")) (e2 cy (eA (aK 2 bJ (aC (vV 1) (aC (vD (e2 bN (rV 2) (rV 0))) aF)))) (rV 3)))))))))
def gN:L9 A->R A:=du 7 kW
def Yl:Sg->R Fw:=(aM (vD (sV (e1 (j7 "int") (rV 0)) (Ay (e1 (j7 "bool") (rV 0))))))
def nS:L9 A->R A:=du 1 Yl
def wG:Sg->R Fw:=(aG (xA (u6 [(stN 3),(stN 4)]) (eV 2))
 (aG (xA (u6 [(stN 5),(stN 6),(stN 7)]) (e2 b_ (rV 0) (rV 4)))
 (aG (fu (uo (e1 dg (e2 ey (rV 3) (eC (.int 0)))) (e1 dg (e2 qg (rV 3) (e1 dn (rV 1))))) (aG (aV 8 (vD (e2 b_ (eL (gA (aC (eV 5) (aC (eV 7) aF)))) (e1 D_ (e2 qg (rV 3) (eC (.int 0)))))))
 (aG (fu (e1 dg (e1 (j7 "str") (rV 8))) (aM (vD (eC .none))) gb)
 (aM (vD (bW (aC (e2 b_ (eL (gA (aC (eC (.int 1)) (aC (e1 dn (rV 1)) aF)))) (e1 D_ (e2 qg (rV 3) (eC (.int 0))))) (aC (eV 8) aF))))))) gb)
 (aG (xA (u6 [(stN 8),(stN 9)]) (e2 b_ (rV 6) (e2 gM (eC (.str "abc")) (e2 b_ (rV 1) (e2 fj (rV 3) (eC (.int 1)))))))
 (aM (vD (bW (aC (e2 bN (rV 3) (rV 9)) (aC (eV 8) aF)))))))))
def o7:L9 A->R A:=du 10 wG
def xH:Sg->R Bool:=(e1 dg (mH true 3 (e2 b_ (rV 2) (e1 hW (eC (.int 1))))))
def xI:Sg->R Fw:=(aG (lT 3 (e2 b_ (rV 2) (e1 hW (eC (.int 1)))) (eC (.bool true)))
 (aG (aV 4 (aK 3 o7 (aC (vV 0) (aC (vV 1) (aC (vD (e2 b_ (rV 2) (e1 hW (eC (.int 1))))) aF)))))
 (aG (fu (e1 dg (e2 Jt (rV 4) (eC .none))) (ri 2 (aM (vV 2))) gb)
 (kO 2 (eV 4)))))
def rS:Sg->R Fw:=aG (dX 2 (gA (aC (bW (aC (eC (.int 0)) (aC (eC (.int 0)) aF))) aF))) (aG (mQ 3) (aG (bF xH xI) (ri 2 (aM (vV 2)))))
def rT:L9 A->R A:=du 5 rS
def bO(ns:L9 Int):Dz:=.list (ns.map .int)
theorem lM(ns:L9 Int):dn (bO ns)=.ok (.int ns.length):=by unfold bO;simp
theorem tR{ns:L9 Int}{i:Int}(h0:0<=i)(h1:i < ns.length):∃ v,b_ (bO ns) (.int i)=.ok (.int v):=by
 refine⟨ns[i.toNat]'(by ext),jY (jL h0 ?_)⟩
 simp
theorem jB(ns:L9 Int)(k:Int):∃ v,bJ [.d (bO ns),.d (.int k)]=.ok (.d (.int v)):=by
 by_cases h:(0:Int) < ns.length
 .obtain ⟨v,b⟩:=tR (i:=k % ns.length) (CP _ (by ext)) (CD _ h)
  have a:0 < ns.length:=by ext
  unfold bJ o6
  simp[lM,a,(bS h),b,bS,tN,Ig,iA]
 .have a:¬ 0 < ns.length:=by ext
  unfold bJ o6
  simp[lM,a,bS,tN,Ig,iA]
theorem QW(x y:Dz)(i:Int):∃ z,b_ (.list [x,y]) (.int (i % 2))=.ok z/\(z=x\/z=y):=by
 rcases Int.emod_two_eq i with h|h<;>simp_all
theorem Ke(x:Int){n:Int}(a:0 < n):∃ t:Tn,g9 [.d (.int x),.d (.int n)]=.ok (.d t.d)/\t.good n:=by
 by_cases h:x % 3=0
 .obtain ⟨z,b⟩:=QW (.str "by") (.str "out") (x / 3)
  have e:g9 [.d (.int x),.d (.int n)]=.ok (.d z):=by
   unfold g9 rK
   simp[bS,iA,cY,(A2 h),b.1]
  rcases b.2 with rfl|rfl
  .exact ⟨.w "by",e,.inl rfl⟩
  .exact ⟨.w "out",e,.inr rfl⟩
 .refine ⟨.n (x / 3 % n),?_,CP _ (by ext),CD _ a⟩
  unfold g9 rK
  simp[bS,iA,cY,(BB h),a]
  rfl
theorem XU{n:Nat}(h:n<=16777216):kP 0 (n:Int)=.ok ((range n).map λi:Nat=>.int (i:Int)):=fV h
theorem VB{fs:Dz->Sg->O9 Sg}{fb:Sg->R Fw}{x:Dz}{Y b a:Sg}(h1:fs x Y=some b)(h2:fb b=.ok (.nx a)):iK fs fb (x::xs) Y=iK fs fb xs a:=by
 conv=>lhs;unfold iK
 simp_all
theorem HR{Z:Type}{fs:Dz->Sg->O9 Sg}{fb:Sg->R Fw}{d:α->Dz}{e:β->Dz}{G:β->Prop}{R':L9 Dz->Z->Sg}:∀ {xs:L9 α},(∀ x∈xs,∀ L s,L.length < 16777216->∃ Y1 s' b,fs (d x) (R' L s)=some Y1/\fb Y1=.ok (.nx (R' (L++[e b]) s'))/\G b)->∀ L s,L.length+xs.length<=16777216->
  ∃ (s':Z) (bs:L9 β),iK fs fb (xs.map d) (R' L s)=.ok (.nx (R' (L++bs.map e) s'))/\bs.length=xs.length/\∀ b∈bs,G b
 | [],_,L,s,_=>⟨s,[],by rw[BF,BF,CO];rfl,rfl,λb h=>nomatch h⟩
 | x::t,h,L,s,hl=>by
  rw[AT]at hl
  obtain⟨Y1,s1,b,h1⟩:=h x A5 L s (by ext)
  obtain⟨s',bs,c⟩:=HR (λy a=>h y (AU _ a)) (L++[e b]) s1 (by rw[AY,DJ];ext)
  exact⟨s',b::bs,by rw[AV,VB h1.1 h1.2.1,c.1,C9];rfl,by simp_all,λy a=>(AQ.mp a).elim (λe=>e▸h1.2.2) (c.2.2 y)⟩
theorem Ug(x:Int){n:Int}(m:0 < n)(z:sg<=1000):∃ r:Rw,hV [.d (.int x),.d (.int n),.d (.int sg)]=.ok (.d (cU r))/\r.good n/\r.c.length=sg:=by
 have hr:kP 0 (sg+2)=.ok _:=fV (n:=sg+2) (by ext)
 obtain⟨⟨y,u⟩,ps,p,o,_⟩:=HR (fs:=stN 4) (fb:=Cg) (d:=λi:Nat=>.int i) (e:=PyData.int) (G:=λ_=>True) (xs:=range (sg+2)) (R':=λL s=>[some (.d (.int s.1)),some (.d (.int n)),some (.d (.int sg)),some (.l L),s.2,none]) (λk _ L s t=>by
  refine⟨_,((s.1 * 48271+7919) % 2147483647,some (.d (.int k))),(s.1 * 48271+7919) % 2147483647 / 64,rfl,?_,trivial⟩
  unfold Cg
  simp[tN,bS,iA,t]) [] (x,none) (by simp;ext)
 rw[B8]at o
 obtain⟨a,b,qs,rfl,v⟩:∃ a b qs,ps=a::b::qs/\qs.length=sg:=by
  match ps,o with
  | a::b::qs,o=>exact⟨a,b,qs,rfl,by simp_all⟩
 have h:ia (.list (.int a::.int b::qs.map .int)) (some 2) none=.ok (.list (qs.map .int)):=by
  show R.ok _=_
  unfold kQ _b.fo
  ext
 obtain⟨t0,e0⟩:=Ke a m
 obtain⟨w,f⟩:=Ke b m
 have j:=cL (fs:=stN 0) (fe:=Cf) (Y0:=[none,some (.d (.int n))]) (d:=PyData.int) (g:=λq=>dr (q % n,1 - q / 64 % 3 / 2 * 2)) (xs:=qs) λq _=>⟨_,rfl,by unfold Cf;simp[bS,iA,tN,m,dr]⟩
 have hi:bA (.list (qs.map .int))=.ok (qs.map .int):=gF (by rw[AL];ext)
 refine⟨⟨t0,qs.map λq=>(q % n,1 - q / 64 % 3 / 2 * 2),w⟩,?_,⟨e0.2,f.2,λc j=>?_⟩,by simpa using v⟩
 .unfold hV cU
  rw[nR,B1]
  change di _ _ _ _ _=.ok (qs.map (dr∘λq=>(q % n,1 - q / 64 % 3 / 2 * 2)))at j
  simp only[BC,AV]at p
  generalize qs.map PyData.int=Q at *
  generalize qs.map (dr∘λq=>(q % n,1 - q / 64 % 3 / 2 * 2))=C at *
  simp[hr,p,h,hi,eH,j,e0.1,f.1]
 .obtain ⟨q,_,rfl⟩:=BG.mp j
  refine⟨CP _ (by ext),CD _ m,?_⟩
  ext
theorem Ue(x:Int){n:Int}(C:0 < n)(F:n<=1000)(I:sg<=1000):∃ r:Rw,hU [.d (.int x),.d (.int n),.d (.int sg)]=.ok (.d (cU r))/\r.good n/\r.c.length=sg:=by
 have hr:=fV (n:=sg) (by ext)
 have f:0 < n+2:=by ext
 have q:0 < 2 * n:=by ext
 have m:2 * n < 18446744073709551616:=by ext
 obtain⟨J,E,y,cs,B,p,v,rfl⟩:=jA (fs:=stN 5) (fb:=aG (kO 4 (bW (aC (e2 cy (e2 eT (rV 0) (eC (.int 2))) (rV 1)) (aC (e2 fj (eC (.int 1)) (e2 hF (e2 cy (rV 0) (eC (.int 2))) (eC (.int 2)))) aF)))) (aV 0 (vD (e2 eT (rV 0) (e2 hF (eC (.int 2)) (rV 1))))))
  (d:=λi:Nat=>.int i) (xs:=range sg) (Y:=[some _,some _,some _,some _,some (.l []),none,none])
  (λi Y=>∃ (y:Int) (cs:L9 _) (B:O9 A),cs.length=i/\(∀ c∈cs,qL n c)/\Y=[some (.d (.int y)),some (.d (.int n)),some (.d (.int sg)),some (.d (.int (x % (n+2)))),some (.l (cs.map dr)),B,none]) ⟨x / (n+2),[],none,rfl,λc o=>by simp_all,rfl⟩
  (λi k Y G s=>by
   obtain⟨y,cs,B,p,v,rfl⟩:=s
   have hi:=by have:=(AH.mp G).1;simpa using this
   refine⟨_,_,rfl,.inl ?_,y / (2 * n),cs++[(y / 2 % n,1 - y % 2 * 2)],some (.d (.int k)),by simp[p],λc o=>?_,rfl⟩
   .have u:cs.length < 16777216:=by ext
    simp[tN,Ig,bS,iA,C,q,m,dr,u]
   .rcases BN.mp o with z|z
    .exact v c z
    .rw[AS.mp z]
     refine⟨CP _ (by ext),CD _ C,?_⟩
     simp only;ext)
 rw[B8]at p
 have j:∀ e:Int,0<=e->e < n+2->∃ t:Tn,(we (e1 dg (e2 vw (rV 0) (rV 1))) (e2 b_ (eL (gA (aC (eC (.str "by")) (aC (eC (.str "out")) aF)))) (e2 fj (rV 0) (rV 1))) (eV 0)) [some (.d (.int e)),some (.d (.int n))]=.ok t.d/\t.good n:=λe H h1=>by
  by_cases h:n<=e
  .obtain rfl|rfl:e=n\/e=n+1:=by ext
   .exact ⟨.w "by",by simp[Tn.d],.inl rfl⟩
   .exact ⟨.w "out",by simp[Tn.d,show n+1 - n=1 by ext,show n<=n+1 by ext],.inr rfl⟩
  .exact ⟨.n e,by simp[Tn.d,h],H,by ext⟩
 obtain⟨t0,e0⟩:=j (x % (n+2)) (CP _ (by ext)) (CD _ f)
 obtain⟨D,g⟩:=j (y % (n+2)) (CP _ (by ext)) (CD _ f)
 have o:di (stN 0) dS (we (e1 dg (e2 vw (rV 0) (rV 1))) (e2 b_ (eL (gA (aC (eC (.str "by")) (aC (eC (.str "out")) aF)))) (e2 fj (rV 0) (rV 1))) (eV 0)) [none,some (.d (.int n))] [.int (x % (n+2)),.int (y % (n+2))]=.ok [t0.d,D.d]:=by
  simp only[di,K7,A4,l8,R.cf,Ul,R.vq,CG,e0.1,g.1]
 have hi:∀ a b:Dz,bA (.list [a,b])=.ok [a,b]:=λa b=>gF (by simp)
 refine⟨⟨t0,cs,D⟩,?_,⟨e0.2,g.2,v⟩,p⟩
 unfold hU nQ
 simp only[cX,AV,BF,A7,BC,AT,A9,replicate,aU,eG,iO,gZ,fO,fN,AW,AK,R.cf,y6,bS f,iA f (by ext),A4,A3,lG,IT,fA,pR,kU,hr]
 simp only[CT,CG,R.cf,A4,A3,AW,AK,hr,E]
 simp only[eM,rF,fA,gZ,fO,fN,AW,AK,R.cf,y6,bS f,lH,fU,A4,A3]
 simp[hi,eH,o,cU,bS f]
theorem QV{ns:L9 Int}{at':Int}{n sg:Nat}(J:0<=at')(h1:1<=n)(h2:n<=1000)(s1:1<=sg)(M:sg<=3):∃ rs:L9 Rw,jM [.d (bO ns),.d (.int at'),.d (.int n),.d (.int sg)]=.ok (.d (aL rs))/\cg rs sg/\rs.length=n:=by
 have hr:=fV (n:=n) (by ext)
 have m:0 < (n:Int):=by ext
 obtain⟨s',rs,F,x,K⟩:=HR (fs:=stN 5) (fb:=zo) (d:=λi:Nat=>.int i) (e:=cU) (xs:=range n) (R':=λL s=>[some (.d (bO ns)),some (.d (.int at')),some (.d (.int n)),some (.d (.int sg)),some (.l L),s.1,s.2]) (λk _ L s u=>by
  obtain⟨b,q,p⟩:∃ b,Cj [some (.d (bO ns)),some (.d (.int at')),some (.d (.int n)),some (.d (.int sg)),some (.l L),some (.d (.int k)),s.2]=.ok b/\(b=true->∃ w,b_ _ _=.ok (.int w)):=by
   unfold Cj
   by_cases o:at'+k < ns.length
   .obtain ⟨H,A⟩:=tR (ns:=ns) (i:=0) (DQ _) (by ext)
    exact⟨decide (H % 2=1),by simp[lM,o,A,bS,cY],λ_=>tR (by ext) o⟩
   .exact ⟨false,by simp[lM,o],λh=>nomatch h⟩
  cases b with
  | true=>
   obtain⟨w1,z⟩:=p rfl
   obtain⟨N,a⟩:=Ue w1 (n:=(n:Int)) (sg:=sg) m (by ext) (by ext)
   refine⟨_,(some (.d (.int k)),s.2),N,rfl,?_,a.2⟩
   generalize bO ns=C at *
   unfold zo
   simp[q,z,a.1,u]
  | false=>
   obtain⟨v,D⟩:=jB ns (at'+k)
   obtain⟨g,j⟩:=jB ns at'
   obtain⟨r,hr⟩:=Ug (v % 2147483647) (n:=(n:Int)) (sg:=sg) m (by ext)
   have G:cy (.int v) (.int 2147483647)=.ok (.int (v % 2147483647)):=bS (by decide)
   have I:b_ (cU r) (.int 0)=.ok r.l.d:=tP _ _
   obtain⟨B,t⟩:∃ b,j7 "str" r.l.d=.ok (.bool b):=by cases r.l<;>exact⟨_,rfl⟩
   obtain⟨c,E⟩:∃ c,Ci [some (.d (bO ns)),some (.d (.int at')),some (.d (.int n)),some (.d (.int sg)),some (.l L),some (.d (.int k)),some (.d (cU r))]=.ok c:=by
    generalize cU r=O at *
    refine⟨decide (k=0) && (B && decide (0 < g / 8 % 8)),?_⟩
    unfold Ci
    cases B<;>by_cases h:k=0<;>simp[j,bS,iA,cY,I,t,h]
   have y:ia (cU r) (some 1) none=.ok (.tuple [.tuple (r.c.map dr),r.r.d]):=by
    unfold cU
    rw[PH (by unfold _b.fo;simp)]
    unfold kQ _b.fo
    simp
   have f:bN (.tuple [.int (g / 64 % (n:Int))]) (.tuple [.tuple (r.c.map dr),r.r.d])=.ok (cU ⟨.n (g / 64 % (n:Int)),r.c,r.r⟩):=by
    rw[Rx rfl (by simp)];rfl
   refine⟨_,(some (.d (.int k)),some (.d (cU (if c=true then⟨.n (g / 64 % (n:Int)),r.c,r.r⟩else r)))),if c=true then⟨.n (g / 64 % (n:Int)),r.c,r.r⟩else r,rfl,?_,by cases c;exact hr.2;exact(⟨⟨⟨CP _ (by ext),CD _ m⟩,hr.2.1.2.1,hr.2.1.2.2⟩,hr.2.2⟩)⟩
   generalize bO ns=C at *
   unfold zo
   cases c
   .simp[q,D,G,hr.1,E,u]
   .simp[q,D,G,hr.1,E,u,j,iA,bS m,y,f]) [] (none,none) (by simp;ext)
 rw[B8]at x
 refine⟨rs,?_,⟨by ext,by ext,s1,M,λr hr=>by rw[x];exact K r hr⟩,x⟩
 unfold jM aL
 rw[pS]
 simp only[BC]at F
 generalize bO ns=C at *
 generalize rs.map cU=P at *
 simp[hr,F]
theorem wH(x y:Str):(x++y).cps.toList=x.cps.toList++y.cps.toList:=by
 show(x.cps++y.cps).toList=_
 simp
def zf:Sg->R Fw:=(aG (aV 5 (vD (e2 bN (rV 5) (e2 b_ (eC (.str "abc")) (e2 cy (rV 4) (rV 3)))))) (aV 4 (vD (e2 eT (rV 4) (rV 3)))))
theorem Ud{ns:L9 Int}{at':Int}{m sg:Nat}(B:0<=at')(S:m<=1000)(s1:1<=sg)(P:sg<=3):∃ z:Str,gN [.d (bO ns),.d (.int at'),.d (.int m),.d (.int sg)]=.ok (.d (.str z))/\aN sg z.cps.toList/\z.cps.toList.length=m:=by
 have hr:=fV (n:=m) (by ext)
 have G:0 < (sg:Int):=by ext
 have h:∀ y:Int,∃ c,b_ _ _=.ok _/\bK sg c=true:=λy=>by
  obtain⟨c,h1⟩:=UG (k:=y) s1 P
  exact⟨c,El (by decide) h1.1,h1.2⟩
 have C:∃ z:Str,(aM (vD (e2 Es (eC (.str "")) (eL (cJ [none,some 0,some 1,some 3] (dN (rV 2)) (stN 0) dS (e2 b_ (eC (.str "abc")) (e2 cy (eA (aK 2 bJ (aC (vV 1) (aC (vD (e2 bN (rV 2) (rV 0))) aF)))) (rV 3)))))))) [some (.d (bO ns)),some (.d (.int at')),some (.d (.int m)),some (.d (.int sg)),none,none,none]=.ok (.rt (.d (.str z)))/\aN sg z.cps.toList/\z.cps.toList.length=m:=by
  have b:∀ i:Nat,∃ c,(e2 b_ (eC (.str "abc")) (e2 cy (eA (aK 2 bJ (aC (vV 1) (aC (vD (e2 bN (rV 2) (rV 0))) aF)))) (rV 3))) [some (.d (.int i)),some (.d (bO ns)),some (.d (.int at')),some (.d (.int sg))]=.ok (.str ⟨#[c]⟩)/\bK sg c=true:=λi=>by
   obtain⟨v,O⟩:=jB ns (at'+i)
   obtain⟨c,h1⟩:=h v
   exact⟨c,by simp[O,bS G,h1.1],h1.2⟩
  obtain⟨f,r⟩:=(Classical.skolem.mp b)
  have F:qZ ((range m).map λi:Nat=>PyData.str ⟨#[f i]⟩)=some (((range m).map f).map one):=by
   rw[B1]
   generalize range m=l
   induction l with
   | nil=>rfl
   | cons a t ih=>simp only[AV,qZ,ih];rfl
  have N:Es (.str "") (.list ((range m).map λi:Nat=>.str ⟨#[f i]⟩))=.ok (.str ⟨((range m).map f).toArray⟩):=by
   show(match qZ ((range m).map λi:Nat=>PyData.str ⟨#[f i]⟩)with|some ys=>if _ then R.ok _ else .bad|none=>.bad)=_
   rw[F]
   simp only
   rw[AI (by rw[UJ,AL,AL,B8];show m+m * 0<=_;ext),UH]
  refine⟨⟨((range m).map f).toArray⟩,?_,⟨by simp;ext,λc b=>?_⟩,by simp⟩
  .simp[hr,eH,(cL (fs:=stN 0) (fe:=e2 b_ (eC (.str "abc")) (e2 cy (eA (aK 2 bJ (aC (vV 1) (aC (vD (e2 bN (rV 2) (rV 0))) aF)))) (rV 3))) (Y0:=[none,some (.d (bO ns)),some (.d (.int at')),some (.d (.int sg))]) (d:=λi:Nat=>.int (i:Int)) (g:=λi:Nat=>.str ⟨#[f i]⟩) (xs:=range m) λi _=>⟨_,rfl,(r i).1⟩),N]
  .simp at b
   obtain⟨i,_,rfl⟩:=b
   exact(r i).2
 obtain⟨K,j,u⟩:=C
 by_cases p:at' < (ns.length:Int)
 .obtain ⟨L,o⟩:=tR (ns:=ns) (i:=0) (DQ _) (by ext)
  by_cases J:L % 2=1
  .obtain ⟨w1,H⟩:=tR (ns:=ns) (i:=at') B p
   obtain⟨Q,r,y,z,D,s,E,rfl⟩:=jA (fs:=stN 6) (fb:=aG (aV 5 (vD (e2 bN (rV 5) (e2 b_ (eC (.str "abc")) (e2 cy (rV 4) (rV 3)))))) (aV 4 (vD (e2 eT (rV 4) (rV 3)))))
    (d:=λi:Nat=>.int (i:Int)) (xs:=range m) (Y:=[some (.d (bO ns)),some (.d (.int at')),some (.d (.int m)),some (.d (.int sg)),some (.d (.int w1)),some (.d (.str "")),none])
    (λi Y=>∃ (y:Int) (z:Str) (D:O9 A),z.cps.toList.length=i/\(∀ c∈z.cps.toList,bK sg c=true)/\Y=[some (.d (bO ns)),some (.d (.int at')),some (.d (.int m)),some (.d (.int sg)),some (.d (.int y)),some (.d (.str z)),D]) ⟨w1,"",none,rfl,λc b=>(nomatch (show c∈([]:L9 Nat)from b)),rfl⟩
    (λi k Y M w=>by
     obtain⟨y,z,D,s,E,rfl⟩:=w
     have hi:i < m:=by have:=(AH.mp M).1;simpa using this
     obtain⟨c,h1⟩:=h y
     have e:bN (.str z) (.str ⟨#[c]⟩)=.ok (.str (z++⟨#[c]⟩)):=K4 (by
      have:z.length=z.cps.toList.length:=by simp[Str.length]
      show z.length+1<=_
      ext)
     refine⟨_,_,rfl,.inl ?_,y / sg,z++⟨#[c]⟩,some (.d (.int k)),by rw[wH,AY,s];rfl,λx I=>?_,rfl⟩
     .simp[bS G,h1.1,e,iA G (show(sg:Int) < 18446744073709551616 by ext)]
     .rw[wH]at I
      rcases BN.mp I with q|q
      .exact E x q
      .have:x=c:=by simpa using q
       rw[this];exact h1.2)
   rw[B8]at s
   refine⟨z,?_,⟨by ext,E⟩,s⟩
   unfold gN kW
   simp only[cX,AV,BF,A7,BC,AT,A9,replicate,aU,kS,uZ,fU,gZ,fO,fN,AW,AK,R.cf,lM,HT,kT,p,decide_true,CG,o,bS (show(0:Int) < 2 by decide),cY,J,eG,iO,H,A4,A3,pR,kU,hr,r,jK,kR]
  .refine ⟨K,?_,u.1,u.2⟩
   unfold gN kW
   simp only[cX,AV,BF,A7,BC,AT,A9,replicate]
   rw[aU,kS]
   simp only[uZ,fU,gZ,fO,fN,AW,AK,R.cf,lM,HT,kT,p,decide_true,CG,o,bS (show(0:Int) < 2 by decide),cY,J,decide_false,CC,DU,pQ]
   rw[j];rfl
 .refine ⟨K,?_,u.1,u.2⟩
  unfold gN kW
  simp only[cX,AV,BF,A7,BC,AT,A9,replicate]
  rw[aU,kS]
  simp only[uZ,fU,gZ,fO,fN,AW,AK,R.cf,lM,HT,kT,p,decide_false,CC,DU,pQ]
  rw[j];rfl
theorem Uc(i:Int):nS [.d (.int i)]=.ok (.d (.bool true)):=by
 rfl
end _e
namespace _e
def fW(rs:L9 Rw)(z:L9 Nat)(s:Int×Int):O9 ((Int×Int)⊕Str):=
 match (aQ rs z s).1 with
 | .w x=>some (.inr x)
 | .n q=>some (.inl (s.1+(aQ rs z s).2,q))
theorem m_{rs:L9 Rw}{z:L9 Nat}:(∃ x,bZ rs z s=none/\(aQ rs z s).1=.w x/\fW rs z s=some (.inr x))\/∃ s',bZ rs z s=some s'/\fW rs z s=some (.inl s'):=by
 unfold bZ fW
 cases(aQ rs z s).1 with
 | w x=>exact .inl ⟨x,rfl,rfl,rfl⟩
 | n q=>exact .inr ⟨_,rfl,rfl⟩
end _e
namespace _e
open _f
variable{rs:L9 Rw}
theorem Lj:j6 "int" "str"=false:=by rfl
theorem Li:j6 "str" "str"=true:=by rfl
theorem y9(h0:0<=q)(h1:q < (rs.length:Int)):b_ (aL rs) (.int q)=.ok (cU (aZ rs q)):=g7 (jL h0 (by rw[AZ,cK h0 h1];rfl))
def tS:O9 (Int×Int)->Dz
 | none=>.none
 | some s=>dh s
theorem lN(z:Str):z.length=z.cps.toList.length:=by rfl
theorem Lh(M:cg rs sg)(S:aN sg z.cps.toList)(V:fK rs z.cps.toList s):o7 [.d (aL rs),.d (.str z),.d (dh s)]=.ok (.d (tS (bZ rs z.cps.toList s))):=by
 obtain⟨p,q⟩:=s
 have hr:=y9 V.2.2.1 V.2.2.2
 have j:z.length<=16777216:=by rw[lN];have:=S.1;ext
 have g:=y7 j
 rw[lN]at g
 generalize B:z.cps.toList=h at *
 unfold o7 wG
 by_cases f:p=0
 .subst f
  have a:bZ rs h (0,q)=match (aZ rs q).l with | .w _=>none | .n q'=>some (0+1,q'):=by
   unfold bZ aQ;simp only[CG]<;>(cases(aZ rs q).l<;>rfl)
  cases e:(aZ rs q).l with
  | w x=>
   rw[e]at a
   rw[a]
   simp[dh,hr,g,cU,cY,e,Tn.d,Li,tS]
  | n q'=>
   rw[e]at a
   rw[a]
   simp[dh,hr,g,cU,cY,e,Tn.d,Lj,tS]
 .by_cases h1:p=(h.length:Int)+1
  .have a:bZ rs h (p,q)=match (aZ rs q).r with | .w _=>none | .n q'=>some (p + -1,q'):=by
    unfold bZ aQ;simp only[AM f,AI h1]<;>(cases(aZ rs q).r<;>rfl)
   have u:(0:Int) < p:=by ext
   have b:(h.length:Int) < p:=by ext
   cases e:(aZ rs q).r with
   | w x=>
    rw[e]at a
    rw[a]
    simp[dh,hr,g,cU,cY,e,Tn.d,Li,tS,f,b,u]
   | n q'=>
    rw[e]at a
    rw[a]
    simp[dh,hr,g,cU,cY,e,Tn.d,Lj,tS,f,b,u]
    ext
  .obtain ⟨c,o,C,k⟩:=zU S V f h1
   obtain⟨i,m,t,E⟩:=qM M S V f h1
   have D:=V.1
   have v:=V.2.1
   simp only at D v o k m t
   have a:bZ rs h (p,q)=some (p+i.2,i.1):=by
    unfold bZ aQ;simp only[AM f,AM h1,t]
   have b:¬ (h.length:Int) < p:=by ext
   have A:b_ (.str z) (.int (p - 1))=.ok (.str ⟨#[c]⟩):=El j (jL (by ext) (by rw[B,<-o];congr 1;ext))
   have y:b_ (.tuple ((aZ rs q).c.map dr)) (.int ((c - 97:Nat):Int))=.ok (dr i):=g7 (cM (by rw[AZ,<-k,m];rfl))
   rw[a]
   simp[dh,hr,g,cU,cY,tS,f,b,A,(m4 (lL M.qc C)),y,dr]
theorem nT(xs:L9 Dz)(x:Dz):b_ (.list (xs++[x])) (.int (-1))=.ok x:=jY (_a.Wf xs x)
def jz(rs:L9 Rw)(z:Str)(ps:L9 (Int×Int))(s:Int×Int)(u:O9 A):Sg:=[some (.d (aL rs)),some (.d (.str z)),some (.l (ps.map dh++[dh s])),some (.m (ef dh ps)),u]
theorem QU{u:O9 A}(h:s∈ps):xH (jz rs z ps s u)=.ok false:=by
 simp[xH,jz,nT,(eY iH ps s),((lI iG).mpr h)]
theorem L2{u:O9 A}(h:s∉ps):xH (jz rs z ps s u)=.ok true:=by
 simp[xH,jz,nT,(eY iH ps s),(gS iG h)]
theorem W6(s:Int×Int):jX (dh s)=false:=id rfl
theorem Ub(M:cg rs sg)(S:aN sg z.cps.toList){u:O9 A}(V:fK rs z.cps.toList s)(h:s∉ps)(b:ps.length<=2000000)(e:bZ rs z.cps.toList s=none):xI (jz rs z ps s u)=.ok (.rt (.d (.list ((ps++[s]).map dh)))):=by
 have a:(ef dh ps).length<=16777216:=by rw[g8];ext
 have f:=Lh M S V
 rw[e]at f
 simp[xI,jz,nT,(eY iH ps s),a,f,tS]
theorem QT(M:cg rs sg)(S:aN sg z.cps.toList){s':Int×Int}{u:O9 A}(V:fK rs z.cps.toList s)(h:s∉ps)(c:ps.length<=2000000)(e:bZ rs z.cps.toList s=some s'):xI (jz rs z ps s u)=.ok (.nx (jz rs z (ps++[s]) s' (some (.d (dh s'))))):=by
 have b:(ef dh ps).length<=16777216:=by rw[g8];ext
 have f:=Lh M S V
 rw[e]at f
 have a:ps.length+1 < 16777216:=by ext
 simp[xI,jz,nT,(eY iH ps s),(lJ iG h),b,f,tS,W6,a]
def iL(rs:L9 Rw)(z:L9 Nat)(s:Int×Int):Prop:=fK rs z s/\((bZ rs z s=none/\∃ x,(aQ rs z s).1=.w x/\bM (fW rs z) (0,0)=some x)\/((∃ s',bZ rs z s=some s')/\bM (fW rs z) (0,0)=none))
theorem Ye(M:cg rs sg)(S:aN sg z.cps.toList):∀ (k:Nat) (ps:L9 (Int×Int)) (s:Int×Int) (u:O9 A),Way rs z.cps.toList ps s k->gn (fW rs z.cps.toList) (0,0) ps s->
  aG (bF xH xI) (ri 2 (aM (vV 2))) (jz rs z ps s u)=.ok (.rt (.d (.list ((eP rs z.cps.toList).map dh))))/\∃ t_ s',eP rs z.cps.toList=t_++[s']/\iL rs z.cps.toList s':=by
 have f:n8 rs z.cps.toList<=1002 * 1000:=GV (by have:=S.1;ext) M.l_
 have b:∀ k ps s u,Way rs z.cps.toList ps s k->gn (fW rs z.cps.toList) (0,0) ps s->s∈ps->aG (bF xH xI) (ri 2 (aM (vV 2))) (jz rs z ps s u)=.ok (.rt (.d (.list ((eP rs z.cps.toList).map dh))))/\∃ t_ s',eP rs z.cps.toList=t_++[s']/\iL rs z.cps.toList s':=by
  intro k ps s u W U a
  refine⟨?_,ps,s,(W.stop a).symm,W.here,.inr ⟨?_,U.met a⟩⟩
  .rw[aU,cC (QU a),<-W.stop a]
   simp[jz]
  .obtain ⟨m,r⟩:=U.back s a
   cases r with
   | cons h t=>
    rcases m_ with ⟨x,_,_,e⟩|⟨s',e,_⟩
    · rw [e]at h; ext
    · exact⟨s', e⟩
 intro k
 induction k with
 | zero=>
  intro ps s u W U
  by_cases a:s∈ps
  .exact b 0 ps s u W U a
  .have j:=W.more a;ext
 | succ k ih=>
  intro ps s u W U
  by_cases a:s∈ps
  .exact b _ ps s u W U a
  .rcases m_ with ⟨x,e,e2,c⟩|⟨s',e,c⟩
   .refine ⟨?_,ps,s,(W.ends a e).symm,W.here,.inl ⟨e,x,e2,U.outs c⟩⟩
    rw[aU,kK (L2 a) (Ub M S W.here a (by have:=W.num;ext) e),<-W.ends a e];rfl
   .have:=ih _ s' (some (.d (dh s'))) (W.next M S a e) (U.next a c)
    rw[aU]at this ⊢
    rw[eX (L2 a) (QT M S W.here a (by have:=W.num;ext) e)]
    ext
theorem Na{z:Str}(M:cg rs sg)(S:aN sg z.cps.toList):rT [.d (aL rs),.d (.str z)]=.ok (.d (.list ((eP rs z.cps.toList).map dh)))/\∃ t_ s',eP rs z.cps.toList=t_++[s']/\iL rs z.cps.toList s':=by
 have h:=Ye M S _ [] _ none (Way.start M) gn.start
 refine⟨?_,h.2⟩
 unfold rT
 rw[rS]
 simp only[cX,aU,lG,IT,eM,L6,fN,fA,R.cf,AT,A9,Nat.reduceAdd,Nat.reduceLeDiff,CG,AV,BF,A7,BC,replicate,A4,A3,rG]
 have e:=h.1
 rw[aU]at e
 simp only[jz,BF,BC,ef,dh]at e
 rw[e];rfl
def cT(rs:L9 Rw)(z:L9 Nat):Str:=(bM (fW rs z) (0,0)).getD "ever"
theorem M_{x:Dz}(hx:shaped x=true)(h:∀ i,x≠.str i\/True):inD x (.tuple [.str "by",.str "out"])=some (PyData.eqv (.str "by") x || (PyData.eqv (.str "out") x || false)):=by
 have a:shaped (.tuple [.str "by",.str "out"])=true:=by decide +kernel
 cases x<;>simp[inD,hx,a]
theorem XT(q:Int):ug (.int q) (.tuple [.str "by",.str "out"])=.ok (.bool false):=by
 unfold ug
 rw[M_ rfl λ_=>.inr trivial];rfl
theorem XS(h:x="by"\/x="out"):ug (.str x) (.tuple [.str "by",.str "out"])=.ok (.bool true):=by
 unfold ug
 rw[M_ (by rcases h with rfl|rfl<;>decide +kernel) λ_=>.inr trivial]
 rcases h with rfl|rfl<;>rfl
end _e
variable{z:L9 Nat}
namespace _f
@[simp] theorem ZP(i:Nat)(f:Sg->R (L9 (Dz×Dz)))(Y:Sg):Eo i f Y=(f Y).bind λbd=>(i8 [] bd).bind λres=>.ok (.nx (Y.set i (some (.m res)))):=id rfl
@[simp] theorem ZF(Y:Sg):Hc Y=.ok []:=id rfl
@[simp] theorem ZO(f g:Sg->R Dz)(r:Sg->R (L9 (Dz×Dz)))(Y:Sg):HM f g r Y=(f Y).bind λx=>(g Y).bind λy=>(r Y).bind λt=>.ok ((x,y)::t):=id rfl
end _f
namespace _e
open _f
theorem VA{rs:L9 Rw}(M:cg rs sg)(S:aN sg z):cT rs z="by"\/cT rs z="out"\/cT rs z="ever":=by
 obtain⟨_,ps,⟨p,r⟩,_,V,q⟩:=Na (z:=⟨z.toArray⟩) M S
 have c:=(M.row _ (AD (cK V.2.2.1 V.2.2.2))).1
 unfold cT
 rcases q with ⟨_,x,a,d⟩|⟨_,d⟩
 .have:x="by"\/x="out":=by
   unfold aQ at a
   by_cases b:p=0
   .rw[AI b]at a;have k:=c.1;rw[show(aZ rs r).l=.w x from a]at k;exact k
   .rw[AM b]at a
    split at a
    · have k := c.2.1; rw [show(aZ rs r).r = .w x from a]at k; exact k
    simp_all
  ext
 ext
theorem rL{w:Str}(h:w="by"\/w="out"\/w="ever"):shaped (.str w)=true:=by rcases h with rfl|rfl|rfl<;>decide +kernel
theorem zA{w v:Str}(h:w="by"\/w="out"\/w="ever")(h':v="by"\/v="out"\/v="ever"):ey (.str w) (.str v)=.ok (.bool (decide (w=v))):=by
 rw[y8 (rL h) (rL h')]
 rfl
end _e
namespace _g
end _g
namespace _f
end _f
namespace _g
structure Jk(s0:Heap)(d it S:Az)(ar:Array DictEntry)(ep:Nat)(b0:Array V9)(h:Heap):Prop where
 size:b0.size<=ar.size
 told:b0.toList=(ar.toList.take b0.size).map (·.key)
 iter:h.IsKeyIter it d b0.size ar.size ep
 raw:Raw h d ar ep
 keep:∀ c o,c≠it->c≠S->s0.get? c=some o->h.get? c=some o
theorem Vz:typeLookup (.type "dict") "__len__"=pure (some (.builtin "dict.__len__")):=by kernel_rfl
theorem W5{w:W9}{A:U9}{s:S9}{d:Az}{ar:Array DictEntry}(hh:A.handled=none)(hd:(d == sysModules)=false)(hm:Raw s.heap d ar ep)(hn:ar.size<=sizeLine)
  (hQ:∀ h' tk b0 c,(∀ b o,s.heap.get? b=some o->h'.get? b=some o)->xF h' s.heap.objs.size b0 c->b0.toList=ar.toList.map (·.key)->Q (.ref s.heap.objs.size) {s with heap:=h',toks:=tk}) :
  wpAny (model prog w) A (call (.type "list") [.ref d]) Q E s:=by
 have v:d < s.heap.objs.size:=by obtain⟨o,a⟩:=hm;exact AE a.1
 refine callType_codes (Q₁:=λobj p=>obj=.ref s.heap.objs.size/\p={s with heap:=s.heap.push {cls:=.type "list",data:=.seq #[]}}) F.called_list (F.typeCall_list_1 _) F.entry_list_init
  (code_list_new _ ⟨rfl,rfl⟩) λobj p t=>?_
 obtain⟨rfl,rfl⟩:=t
 have L:(s.heap.push {cls:=.type "list",data:=.seq #[]}).get? s.heap.objs.size=some {cls:=.type "list",data:=.seq #[]}:=AN _ rfl
 refine⟨⟨_,L,rfl⟩,F.args_list_init_2 _ _,?_⟩
 generalize G:s.heap.objs.size=S at *
 refine AA ?_
 refine AA (DD L rfl (AC ?_))
 refine AA (E3 L rfl (AA (wpAny_letGo ?_)))
 have g1:=BK (Obj.mapSeq (λ_=>(#[]))) L rfl
 have Y:∀ c o,c≠S->s.heap.get? c=some o->((s.heap.push {cls:=.type "list",data:=.seq #[]}).update S (Obj.mapSeq (λ_=>(#[])))).get? c=some o:=
  λc o y e=>(BM _ _ (BD y)).trans (AB _ e)
 have g3:((s.heap.push {cls:=.type "list",data:=.seq #[]}).update S (Obj.mapSeq (λ_=>(#[]:Array V9)))).objs.size=S+1:=by rw[Heap.size_update,BX,G]
 generalize (s.heap.push {cls:=.type "list",data:=.seq #[]}).update S (Obj.mapSeq (λ_=>(#[]:Array V9)))=m at *
 have nd:d≠S:=A0 v
 have q:Raw m d ar ep:=by obtain⟨o,a⟩:=hm;exact⟨o,Y _ _ nd a.1,a.2⟩
 unfold Builtin.List.listExtendWith
 refine AA (wpAny_typeOf (by obtain⟨o,a⟩:=q;exact⟨o,a.1,a.2.1.1⟩) ?_)
 have e1:Builtin.List.listSameRef (.ref S) (.ref d)=false:=by simp[Builtin.List.listSameRef,BD nd]
 simp only[e1,show(Value.type "dict" == Value.type "list")=false by decide,show(Value.type "dict" == Value.type "tuple")=false by decide,Bool.or_false,CC,DU]
 refine AA (VI (s:={s with heap:=m}) hd q (AA (CA ?_)))
 have l:(m.push {cls:=.type "dict_keyiterator",data:=.fields #[.ref d,.int 0 0,.int ar.size 0,.int ep 0]}).IsKeyIter m.objs.size d 0 ar.size ep:=⟨_,AN _ rfl,rfl,rfl⟩
 have u:∀ c o,m.get? c=some o->(m.push {cls:=.type "dict_keyiterator",data:=.fields #[.ref d,.int 0 0,.int ar.size 0,.int ep 0]}).get? c=some o:=λc o e=>AB _ e
 rw[g3]at l
 show wpAny _ _ (Builtin.List.listLengthHint (.ref d)) _ _ ({s with heap:=m.push {cls:=.type "dict_keyiterator",data:=.fields #[.ref d,.int 0 0,.int ar.size 0,.int ep 0]}}:S9)
 generalize m.push {cls:=.type "dict_keyiterator",data:=.fields #[.ref d,.int 0 0,.int ar.size 0,.int ep 0]}=C at *
 have K:Raw C d ar ep:=by obtain⟨o,a⟩:=q;exact⟨o,u _ _ a.1,a.2⟩
 have f:(({s with heap:=C}:S9)).TypeIs (.ref d) "dict":=by obtain⟨o,a,y,_⟩:=K;exact⟨o,a,y.1⟩
 unfold Builtin.List.listLengthHint
 refine AA (GJ f Vz ?_)
 have P:splitId "dict.__len__"=some ("dict","__len__"):=by decide +kernel
 simp only[P]
 refine AA (ET (b:=true) f isSubtype_dict_dict ?_)
 simp only[Bool.not_true,CC,DU]
 rw[AI (by decide +kernel)]
 refine AA (wpAny_typeOf f (AC ?_))
 simp only[Bool.false_or]
 rw[AI (by decide +kernel)]
 have D:=u _ _ g1
 rw[g3]
 refine AA (wpAny_rule (AA ?_))
 show wpAny _ _ (updateSeq S (·.push .none) >>= λ_=>updateSeq S (·.pop)) _ _ _
 refine AA (E3 D rfl ?_)
 have g4:=BK (Obj.mapSeq (·.push Value.none)) D rfl
 refine E3 g4 rfl ?_
 have g5:=BK (Obj.mapSeq (·.pop)) g4 rfl
 have R:∀ c o,c≠S->C.get? c=some o->((C.update S (Obj.mapSeq (·.push Value.none))).update S (Obj.mapSeq (·.pop))).get? c=some o:=
  λc o y e=>(BM _ _ (BD y)).trans ((BM _ _ (BD y)).trans e)
 generalize (C.update S (Obj.mapSeq (·.push Value.none))).update S (Obj.mapSeq (·.pop))=hr at *
 have i:S+1≠S:=Nat.succ_ne_self S
 refine AC ⟨plainId_quiet F.plain_extend_loop _,VG (A:=A.in1) (I:=S+1) (S:=S) (n:=ar.size) (Jk s.heap d (S+1) S ar ep) (λb0 h=>b0.toList=ar.toList.map (·.key)/\∀ c o,c≠S+1->c≠S->s.heap.get? c=some o->h.get? c=some o) hn (λb0 h J=>J.size) (λb0 h h' J M U=>?_) (λb0 s' c Q' E' N J H x=>?_) (λb0 s' c Q' E' T J H x=>?_) ar.size _ #[] _ (by simp) ?_ g5 λh' tk b0 c J M H=>?_⟩
 .obtain ⟨o,a,r⟩:=J.iter
  obtain⟨B,g,r2⟩:=J.raw
  exact⟨J.size,J.told,⟨o,U _ _ i a,r⟩,⟨B,U _ _ nd g,r2⟩,λc o k j e=>U _ _ j (J.keep c o k j e)⟩
 .have X:ar[b0.size]? = some ar[b0.size]:=Array.getElem?_eq_getElem N
  refine VH J.iter J.raw X λh2 st O=>?_
  have W:d≠S+1:=λz=>by rw[z]at v;exact absurd v (GX.mpr (DP S))
  refine x _ h2 s'.toks ⟨by rw[GQ];ext,?_,by rw[GQ];exact st,?_,λc o k j e=>O.extBut _ _ k (J.keep c o k j e)⟩ (O.extBut _ _ (BD i) H)
  .rw[Array.toList_push,J.told,GQ,D7,BZ]
   congr 1
   rw[D9,X];rfl
  .obtain ⟨B,g,r2⟩:=J.raw
   exact⟨B,O.extBut _ _ W g,r2⟩
 .refine TF (A:=A.in1.in1) hh J.iter J.raw (by ext) λh2 Z=>?_
  refine x h2 s'.toks ⟨?_,λc o k j e=>Z c o k (J.keep c o k j e)⟩ (Z _ _ (BD i) H)
  have:=J.told
  rw[T,CM (by simp)]at this
  exact this
 .obtain ⟨o,a,r⟩:=l
  obtain⟨B,g,r2⟩:=K
  exact⟨CT _,by simp,⟨o,R _ _ i a,r⟩,⟨B,R _ _ nd g,r2⟩,λc o k j e=>R _ _ j (u _ _ (Y _ _ j e))⟩
 .refine ⟨rfl,hQ h' tk b0 c (λb o e=>?_) H J.1⟩
  have V:=AE e
  rw[G]at V
  exact J.2 b o (A0 (Nat.lt_succ_of_lt V)) (A0 V) e
end _g
namespace _f
variable{Y:Sg}{Z:_a.St}{F H:Hp}
section
variable{X:Cx}{c:Ct}{E:XK}{e:Ez}
theorem XR(f:X.calm=true):gV X (.type "list") (λxs H Q=>∃ d es ep,xs=[.ref d]/\H d=some (eS X.w d es ep)/\es.length<=16777216/\∀ l,H l=none->Q (.ref l) (upd H l (.lst (es.map (·.2.1))))):=by
 intro av s Z H xs us Q I r h
 obtain⟨d,es,ep,rfl,c⟩:=h
 obtain⟨u,rfl,j⟩:=n5 r
 cases((j))
 obtain⟨hd,ar,hr⟩:=L_ I c.1
 have b:es.length=ar.size:=by rw[FD hr.2];rfl
 refine _g.W5 (I.ok.hd f) hd hr.1 (by rw[<-b];exact c.2.1) λh' q e k g m a=>?_
 refine⟨.ref s.heap.objs.size,_,I.laid (o:=.lst _) g (AG _) ⟨by rw[AL];exact c.2.1,e.toList,k,?_,by ext⟩,rfl,c.2.2 _ (I.cj.fresh (AG _))⟩
 rw[a]
 refine MF (by simp[b]) λi x y h1 h2=>?_
 cases e1:es[i]? with
 | none=>simp_all
 | some en=>
  obtain⟨n,v,p,t⟩:=yU hr.2 e1
  simp_all
end
def rq:Dz->Dz->R Dz
 | .int i,.int j=>if 0<=j/\j<=1000000/\i.natAbs < 2 ^ 64 then .ok (.int (i ^ j.toNat))else .bad
 | _,_=>.bad
section
variable{X:Cx}{c:Ct}{E:XK}{st:Stmt}
theorem Tj:e_ X (binaryOp .Pow) (mr (bG c) (bG c) (b6 c) rq):=l6 RY (λ_ _ _=>.int _) λa b d h=>by
 unfold rq at h;split at h
 .split at h
  · rename_i e; cases h; exact⟨_, _, rfl, rfl, e, rfl⟩
  simp_all
 simp_all
theorem W4:cV rq:=by intro a b e h;unfold rq at h;split at h<;>(try split at h)<;>cases h
end
def Ic(Y:Sg)(Z:_a.St)(p:Az):Prop:=∀ (j:Nat) (a:A),Y[j]? = some (some a)->a.own=true->Z[j]? ≠ some (some (.ref p))
theorem Ab.F_{c:Ct}{o:HO}(b:Ab c Y Z F H)(s:F p=none)(r:c.H0 p=none)(q:Ic Y Z p):Ab c Y Z F (upd H p o) where
 len:=b.len
 fh:=λa o' z=>by rw[aE (λw=>by rw[w,s]at z;cases z)];exact b.fh a o' z
 slot:=λj a h=>by
  obtain⟨v,h1,h2⟩:=b.slot j a h
  refine⟨v,h1,?_⟩
  cases i:a.own with
  | true=>exact h2.off λz=>q j a h i (by rw[h1,z])
  | false=>
   cases a with
   | l xs=>cases i
   | m xs=>cases i
   | d x=>exact h2
   | x e=>exact h2
   | g k n f=>exact h2
   | k S=>exact h2
   | f S=>exact h2
   | o S=>exact h2
   | w S=>exact h2
   | h _ _ _ _=>exact h2
 apart:=b.apart
 f0:=b.f0
 h0:=λa o' z=>by rw[aE (λw=>by rw[w,r]at z;cases z)];exact b.h0 a o' z
 n0:=b.n0
 t0:=b.t0
theorem Ab.zi{c:Ct}{o:HO}(b:Ab c Y Z F H)(h2:H p=some o)(A:F p=none)(u:c.H0 p=none)(v:Ic Y Z p):Ab c Y Z (upd F p o) H:=by
 have i:aH F (upd F p o):=aH.upd A
 exact {
  len:=b.len
  fh:=λa o' z=>by
   by_cases w:a=p
   .subst w;rw[aI]at z;rw[h2];ext
   .rw[aE w]at z;exact b.fh a o' z
  slot:=λj a h=>by
   obtain⟨w,s,q⟩:=b.slot j a h
   refine⟨w,s,?_⟩
   have off:∀ r,a.own=true->w=.ref r->F r=none->upd F p o r=none:=λr t e f=>by
    rw[aE]
    .omega
    .intro z
     subst z
     exact v j a h t (by rw[s,e])
   cases a with
   | l zs=>obtain⟨r,ws,e⟩:=q;exact⟨r,ws,e.1,e.2.1,off r rfl e.1 e.2.2.1,e.2.2.2.1,e.2.2.2.2.same i⟩
   | m bd=>obtain⟨r,ws,e⟩:=q;exact⟨r,ws,e.1,e.2.1,off r rfl e.1 e.2.2.1,e.2.2.2.1,e.2.2.2.2.same i⟩
   | d x=>exact b5.same i q
   | x e=>exact AF.same (g:=c.g) (a:=.x e) i q
   | g k n f=>exact AF.same (K:=c.K) (mg:=c.mg) (a:=.g k n f) i q
   | k S=>obtain⟨S,f,cl,doc,pm,y,ct,h0⟩:=q;exact⟨S,f,cl,doc,pm,y,ct,h0.1,h0.2.1,i _ _ h0.2.2.1,i _ _ h0.2.2.2.1,h0.2.2.2.2⟩
   | f bd=>exact AF.same (mg:=c.mg) (a:=.f bd) i q
   | o e=>exact AF.same (g:=c.g) (a:=.o e) i q
   | w e=>exact q
   | h k n f ds=>exact AF.same (mg:=c.mg) (a:=.h k n f ds) i q
  apart:=b.apart
  f0:=λa o z=>i a o (b.f0 a o z)
  h0:=b.h0
  n0:=λa z n=>by
   by_cases w:a=p
   .subst w;exact .inl u
   .rw[aE w]at n;exact b.n0 a z n
  t0:=b.t0}
theorem Ab.Ad{c:Ct}(b:Ab c Y Z F H)(i:Nat)(v:V):Ab c (Y.set i none) (Z.set i (some v)) F H where
 len:=by rw[BJ,BJ];exact b.len
 fh:=b.fh
 slot:=λj a h=>by
  rcases get_set h with ⟨e,q,n⟩|⟨l,q⟩
  .cases q
  .rw[A1 l];exact b.slot j a q
 apart:=λj k o s d h1 h2 r m=>by
  rcases get_set h1 with ⟨e,q,n⟩|⟨l,q⟩
  .cases q
  .rcases get_set h2 with ⟨t,g,p⟩|⟨f,g⟩
   .cases g
   .rw[A1 l,A1 f]
    exact b.apart j k o s d q g r m
 f0:=b.f0
 h0:=b.h0
 n0:=b.n0
 t0:=b.t0
theorem Vy{l:L9 α}{x:α}(h:l[i]? = some x):l.set i x=l:=by
 rw[<-(AH.mp h).2];exact List.set_getElem_self (AH.mp h).1
def zj(F:Hp)(q:Az):Hp:=λa=>if a=q then none else F a
section
variable{X:Cx}{c:Ct}{E:XK}{st:Stmt}
end
end _f
variable{p:Pos}
namespace _a
section
variable{X:Cx}
def Kd(K:Frag):L9 V->Hp->VK->Prop:=λxs H Q=>∃ (a W C:Az) (p:Az) (as:L9 Az) (b:Bool),xs=[.ref a,.ref p]/\_d.dy K W C/\(H a=some (mv a C none)\/∃ d fs,H a=some (mv a C (some d))/\H d=some (.xd fs))/\fq K H p (as.map V.ref)/\kitAny K (.ref C) (as.map Value.ref)=some b/\Q (.bl b) H
theorem Yy:gV X (.builtin "isinstance") (Kd X.K):=by
 intro av s Z H xs us Q I r h
 obtain⟨a,W,C,p,D,b,rfl,i,c,j,e,q⟩:=h
 obtain⟨u,v,rfl,y,w⟩:=uG r
 cases((y))
 cases((w))
 rcases c with c|⟨d,fs,c,x⟩
 .obtain ⟨vs,m⟩:=pC I.cj c
  obtain⟨t,r1⟩:=I.tuple j
  obtain⟨⟨F,A,g,k⟩,B,l,n,f⟩:=r1.2.1
  cases((l))
  cases((f))
  rw[<-sJ r1.1]at e
  exact kia_tup (_d.wO (o:=none) i) I.ee ⟨m,rfl,rfl,True.intro⟩ B e (λz=>nomatch z) λE=>⟨.bl b,H,I.tok _,rfl,q⟩
 .exact Yo av s Z H _ _ Q I r ⟨a,W,C,d,fs,p,D,b,rfl,i,c,x,j,e,q⟩
end
end _a
namespace _f
section
variable{X:Cx}{c:Ct}{E:XK}{e:Ez}{st:Stmt}{rest:L9 Stmt}{pos:Pos}
end
section
variable{X:Cx}{c:Ct}{E:XK}{e:Ez}{st:Stmt}
def zB(i:Nat):Sg->R (L9 Dz):=λY=>match Y[i]? with
 | some (some (.m bd))=>if bd.length<=16777216 then .ok (bd.map (·.1))else .bad
 | _=>.bad
theorem Vx(b:X.w=c.w)(h:PE X e (rg (λxs H Q=>∃ d es ep,xs=[.ref d]/\H d=some (eS X.w d es ep)/\es.length<=16777216/\∀ l,H l=none->Q (.ref l) (upd H l (.lst (es.map (·.2.1))))) (bR (bU i) dP))):PN X c E e (zB i):=PE.imp h λZ H Q ⟨Y,F,ab,k⟩=>by
 unfold zB at k
 split at k
 .rename_i g hi
  split at k
  .obtain ⟨v,f,p,es,rfl,⟨ep,h2⟩,o,j,m⟩:=ab.slot i _ hi
   have n:=by simpa using congrArg length m.k1
   refine⟨_,f,p,es,ep,rfl,by rw[b];ext,by ext,λl a=>?_⟩
   exact Rk.ok k _ F _ (Ext.own ab.fh a) ⟨l,_,rfl,a,aI,aY ab.fh a,m.k2⟩
  .exact k.elim
 .exact k.elim
end
end _f
namespace _a
def Fy(C:Az)(sp:Sp)(iw:L9 V)(E:XK)(ta:TE)(t:TA):TE:=λZ H Q=>ta Z H λx H1=>x=.ref C/\t Z H1 λvs H2=>sp (vs++iw) H2 Q E
structure x3(K:Frag)(C:Az)(m:Str)(f:Az):Prop where
 sp:specialIn K (.ref C) "__getattribute__"=some (some (.builtin "type.__getattribute__"))
 rd:readsIn K C (.type "type")=true
 fc:findCls K (.ref C) (.type "type") m=some (.val (.ref f))
 kp:keepIn K (.ref f)=true
section
variable{X:Cx}{CX:nr}{k:Nat}{f C:Az}{fd:FuncData}{ps:L9 Str}{sp:Sp}{iw:L9 V}{ds:L9 V9}{E:XK}{m:Str}{pos apos:Pos}{e o:Ez}{es:L9 Ez}{ta:TE}{t:TA}
theorem IS{pl:Sem Bool}(i:PE X o ta)(cm:x3 X.K C m f)(F:c5 X.prog X.w X.K X.mg X.base CX k f fd ps sp)(hr:cw k X.A)(hb:cG X.K fd ps ds)(l:aX iw ds)(hx:fR CX X E)(j:PA X (e::es) t)
  (c:autoParam (starEach (e::es) X.env=(false,eval e X.env)::starEach es X.env) z3) (gk:autoParam ((backTo pos (starEach es X.env)).any (·.1)=false) z3)
  (ht:autoParam (eval (.Call (.Attribute o m apos) (e::es) [] pos) X.env=(do
   let ov <-eval o X.env
   standAt apos.atName
   let (f,first) <-holding [ov] (getMethod ov m pl)
   callWith pos f first (backTo pos (starEach (e::es) X.env)) (backToKw pos (keywordEach [] X.env)))) z3) :
  PE X (.Call (.Attribute o m apos) (e::es) [] pos) (Fy C sp iw E ta t):=by
 intro av s Z H Q I h
 refine GT (cz (i av s Z H _ I h) λu s1 a=>?_) ht
 obtain⟨x,H1,b,g,ex,q⟩:=a
 subst ex
 obtain rfl:=g
 refine PySem.W.method_cls b.ee cm.sp (PySem.W.cls_value b.ee cm.rd cm.fc rfl ?_)
 refine B3 I.ok.mod.jy cm.kp (cz (j pos av _ Z H1 _ (b.tok (s1.toks+1)) q) λus p ⟨vs,H2,d,r,n⟩=>⟨d.ee,?_⟩) c gk
 exact sC F hr hb l hx d r n
end
def zf(K:Frag)(fs:L9 Str):Sp:=λvs H Q _=>∃ x C dx us,vs=.ref x::us/\us.length=fs.length/\H x=some (.ins C dx [])/\ky K C/\(∀ f∈fs,cQ K C f)/\Q .fg (upd H x (.ins C dx (fs.zip us)))
def Fz(C:Az)(fs:L9 Str):Sp:=λvs H Q _=>∃ x dx us,vs=.ref x::us/\us.length=fs.length/\H x=some (.ins C dx [])/\Q .fg (upd H x (.ins C dx (fs.zip us)))
structure Bq(P:Program)(w:World)(K:Frag)(mg:Str->Option V9)(base:Heap)(k:Nat)(cn:Str)(fs:List Str)(C:Az):Prop where
 m:mg cn=some (.ref C)
 i:∃ f fd,Mk K C f/\c5 P w K mg base mw k f fd ("self"::fs) (Fz C fs)/\cG K fd ("self"::fs) []
end _a
variable{cn:Str}
namespace _f
def vO(i:Nat):Sg->R A:=λY=>match Y[i]? with
 | some (some (.o e))=>.ok (.o e)
 | _=>.bad
theorem IQ{X:Cx}{c:Ct}{E:XK}{e:Ez}(h:PE X e (bU i)):PV X c E e (vO i):=PE.imp h λZ H Q ⟨Y,F,ab,k⟩=>by
 unfold vO at k
 split at k
 .rename_i x a
  obtain⟨v,h1⟩:=ab.slot i _ a
  exact⟨v,h1.1,k v F H (Ext.refl ab.fh) h1.2⟩
 .exact k.elim
def rM(cn:Str)(fs:L9 Str)(f:Sg->R (L9 Dz)):Sg->R A:=λY=>(f Y).bind λxs=>if xs.length=fs.length then .ok (.o ⟨cn,fs.zip xs⟩)else .bad
section
variable{X:Cx}{c:Ct}{E:XK}{e o:Ez}{es:L9 Ez}{pos apos:Pos}
theorem Ti{fs:L9 Str}{m:XK}{f:Sg->R (L9 Dz)}(l:c.mg cn=some (.ref C))(h:PE X e (Kr C (Fz C fs) [] m (vm c E f))):PV X c E e (rM cn fs f):=PE.imp h λZ H Q g=>by
 obtain⟨Y,F,ab,k⟩:=g
 refine⟨Y,F,ab,(Rk.bind k).imp λxs _ q vs n H1 s1 r1 x dx o i b=>?_⟩
 by_cases a:xs.length=fs.length
 .rw[AI a]at q
  have j:vs.length=fs.length:=by rw[r1.length,a]
  refine⟨x,dx,vs,by rw[CO],j,aI,rfl,?_⟩
  rw[kB]
  have d:Ext n H1 _ (upd H1 dx (.own x)):=Ext.new s1.fh i
  exact Rk.ok q _ _ _ (s1.trans (d.trans (Ext.new d.fh (by rw[aE (BD b)];ext)))) ⟨x,rfl,C,dx,fs.zip vs,l,aI,(by rw[jH j,jH a]),(by rw[jI j,jI a];exact r1.same (d.trans (Ext.new d.fh (by rw[aE (BD b)];ext))).ff)⟩
 .rw[AM a]at q;exact q.elim
theorem Ib{fs:L9 Str}{f:Sg->R (L9 Dz)}(d:X.mg=c.mg)(M:Bq X.prog X.w X.K X.mg X.base k cn fs C)(hr:cw (k+1) X.A)(h:Gl X cn)(g:v8 X c E (e::es) f)(b:autoParam ((cn == ("__debug__":Str))=false) z5)(he:autoParam (starEach (e::es) X.env=(false,eval e X.env)::starEach es X.env) z3)(gk:autoParam ((backTo pos (starEach es X.env)).any (·.1)=false) z3):PV X c E (.Call (.Name cn p) (e::es) [] pos) (rM cn fs f):=by
 obtain⟨fI,fd,a⟩:=M.i
 exact Ti (by rw[<-d];exact M.m) (Vd a.1 a.2.1 hr h M.m a.2.2 .nil Fb g b he gk)
def vv(i:Nat)(cs:L9 Str)(g:Str):Sg->R Dz:=λY=>match Y[i]? with
 | some (some (.o e))=>if cs.contains e.c=true then(match e.fs.lookup g with|some d=>.ok d|none=>.bad)else .bad
 | _=>.bad
def mK(K:Frag)(mg:Str->O9 V9)(cs:L9 Str)(g:Str):Prop:=∀ nm∈cs,∃ C,mg nm=some (.ref C)/\ky K C/\cQ K C g
theorem pU{cs:L9 Str}{e:Ez}(t:X.K=c.K)(n:X.mg=c.mg)(o:mK X.K X.mg cs g)(h:PE X e (JT X.K (bU i) g)):PD X c E e (vv i cs g):=PE.imp h λZ H Q ⟨Y,F,ab,k⟩=>by
 unfold vv at k
 split at k
 .rename_i q hi
  split at k
  .split at k
   .rename_i d r
    obtain⟨v,p,a,rfl,C,dx,b,m,h1⟩:=ab.slot i _ hi
    obtain⟨s,j,l⟩:=o q.c (by simp_all)
    rw[n,m]at j
    cases j
    obtain⟨u,f⟩:=rA h1.2.1 h1.2.2 r
    exact⟨_,p,a,C,dx,b,u,rfl,ab.fh _ _ h1.1,l.1,l.2,f.1,Rk.ok k u F H (Ext.refl ab.fh) f.2⟩
   .exact k.elim
  .exact k.elim
 .exact k.elim
def xJ(P:P9)(w:W9)(K:Frag)(mg:Str->O9 V9)(base:Hz)(T:Hp)(k:Nat)(cn m:Str)(G:L9 A->R A):Prop:=
 ∃ C f fd,mg cn=some (.ref C)/\ky K C/\Meth K C m f/\c5 P w K mg base (d4 P w) k f fd ["self"] (nh (g6 P w K mg base T) K mg 1 G)/\cG K fd ["self"] []
theorem oE{V W:Type}:∀ {nk:L9 (Str×V)} {fs:L9 (Str×W)},nk.map (·.1)=fs.map (·.1)->fs.lookup g=none->nk.lookup g=none
 | [],[],_,_=>rfl
 | [],_::_,h,_=>by rfl
 | _::_,[],h,_=>by simp_all
 | (a,v)::nk,(b,x)::fs,h,e=>by
  injection h with h1 h2
  subst h1
  rw[BR]at e ⊢
  cases q:(g == a)with
  | true=>simp_all
  | false=>rw[q]at e;exact oE h2 e
theorem wI{k:Str}{v:α}:∀ {l:L9 (Str×α)},l.lookup k=some v->(k,v)∈l
 | [],h=>by ext
 | (a,x)::t,h=>by
  rw[BR]at h
  cases q:(k == a)with
  | true=>simp_all
  | false=>rw[q]at h;exact .tail _ (wI h)
def u5(f:Sg->R A)(m:Str)(tb:L9 (Str×(L9 A->R A))):Sg->R A:=λY=>(f Y).bind λa=>match a with
 | .o e=>if (e.fs.lookup m).isNone=true then(match tb.lookup e.c with|some G=>G [.o e]|none=>.bad)else .bad
 | _=>.bad
theorem Ek{m:Str}{T:Hp}{tb:L9 (Str×(L9 A->R A))}{f:Sg->R A}{pl:Sem Bool}(u:c.g=g6 X.prog X.w X.K X.mg X.base T)(y:X.K=c.K)(q:X.mg=c.mg)(h:∀ p∈tb,xJ X.prog X.w X.K X.mg X.base T k p.1 m p.2)(hr:cw k X.A)(hx:fR (d4 X.prog X.w) X E)(M:PV X c E o f)
  (D:autoParam (eval (.Call (.Attribute o m apos) [] [] pos) X.env=(do
   let ov <-eval o X.env
   standAt apos.atName
   let (f,first) <-holding [ov] (getMethod ov m pl)
   callWith pos f first (backTo pos (starEach [] X.env)) (backToKw pos (keywordEach [] X.env)))) z3):PV X c E (.Call (.Attribute o m apos) [] [] pos) (u5 f m tb):=by
 intro av s Z H Q I ⟨Y,F,ab,k⟩
 refine Yi M I ⟨Y,F,ab,(Rk.bind k).imp λa _ k v L H1 s1 r1=>?_⟩ D
 cases a with
 | o er=>
  dsimp at k
  split at k
  .rename_i i
   split at k
   .rename_i G J
    obtain⟨a,rfl,C,dx,j,d⟩:=r1
    obtain⟨N,f,fd,l,cl,B,ok,b⟩:=(show xJ X.prog X.w X.K X.mg X.base T _ er.c m G from h _ (wI J))
    rw[q]at l
    rw[d.1]at l
    cases l
    refine⟨a,C,dx,j,f,rfl,s1.fh _ _ d.2.1,cl,B,oE d.2.2.1 (FS.mp i),λO x=>?_⟩
    refine PySem.W.callWith_K0 x.ee B.kp (sC (vs:=[.ref a]) ok hr b .nil hx x (.cons rfl .nil) ?_)
    refine⟨L,[.o er],by rw[<-u];exact λa o z=>s1.ff a o (ab.f0 a o (ab.t0 a o z)),s1.fh,⟨⟨a,rfl,?_⟩,trivial⟩,rfl,?_⟩
    .rw[y,q];exact⟨C,dx,j,d.1,d.2.1,d.2.2.1,d.2.2.2⟩
    .rw[<-u,y,q]
     cases n:G _ with
     | bad=>rw[n]at k;exact k
     | ok a=>rw[n]at k;exact λv t H' s r=>Rk.ok k v t H' (s1.trans s) r
     | ex e=>rw[n]at k;exact λa C t H' s r=>k a C t H' ((ab.all.trans s1).trans s) r
   .exact k.elim
  .exact k.elim
 | _=>exact k.elim
end
theorem jN{P:P9}{w:W9}{K:Frag}{mg:Str->O9 V9}{base:Hz}{T:Hp}{x q:Str}{st:Stmt}{N ps:L9 Str}{k:Nat}{f:Az}{fd:FuncData}{fb:Sg->R Fw}(c:jt K x q st f fd)(S:cb N ps (aD st))
  (a:∀ (c_:V9) (A:U9) (outer:L9 Env) (s:S9) (H F:Hp) (E:XK),cw k (A.deeper (envOfC q (aD st) s.heap.objs.size f c_))->
   gc ((cR (d4 P w) P w K mg base N q (aD st) f c_ A outer s H E).mf E) ⟨K,mg,w,F,H,g6 P w K mg base T,(envOfC q (aD st) s.heap.objs.size f c_).cells,λ_=>none⟩ E (aT st) fb):c5 P w K mg base (d4 P w) (k+1) f fd ps (nh (g6 P w K mg base T) K mg ps.length (du N.length fb)):=by
 refine c.xc S (λvs H Q E h=>?_) (λc_ A outer s H vs Q E hr h=>?_)
 .obtain ⟨F,d,h2⟩:=h
  rw[h2.2.2.1.len,h2.2.2.2.1]
 .obtain ⟨F,d,b⟩:=h
  exact⟨_,a c_ A outer s H F E hr,mY b.1 b.2.1 b.2.2.1 b.2.2.2.2⟩
end _f
namespace _a
def HH(C:Az)(fs:L9 Str)(ta:TA):TE:=λZ H Q=>ta Z H λvs H1=>vs.length=fs.length/\vs.length<=1000/\∀ e d,H1 e=none->H1 d=none->d≠e->Q (.ref e) (upd (upd H1 e (mv e C (some d))) d (.xd (fs.zip vs)))
def Kc(C:Az)(ta:TA):TE:=λZ H Q=>ta Z H λvs H1=>vs.length<=1000/\∀ e,H1 e=none->Q (.ref e) (upd H1 e (mv e C none))
section
variable{X:Cx}{W C:Az}{x:Str}{np d9:Pos}{e0:Ez}{rest:L9 Ez}{ta:TA}{fs:L9 Str}
theorem jO(n:ju X.prog X.w X.K X.mg X.base x fs W C)(hg:Gl X x)(hr:cw 2 X.A)(ha:PA X (e0::rest) ta)(y:autoParam ((x == ("__debug__":Str))=false) z5)
  (he:autoParam (starEach (e0::rest) X.env=(false,eval e0 X.env)::starEach rest X.env) z3) (gk:autoParam ((backTo d9 (starEach rest X.env)).any (·.1)=false) z3) :
  PE X (.Call (.Name x np) (e0::rest) [] d9) (HH C fs ta):=by
 intro av s Z H Q I h
 obtain⟨fI,oq,l⟩:=n.i
 obtain⟨nm,q,N,bs,sn,sub,ab,col,dd,k0,k1,k2,k3,k5,lk⟩:=n.c.lk
 refine B2 (iC I hg n.m ?_ y)
 refine B3 I.ok.mod.jy n.c.kp (cz (ha d9 av s Z H _ I h) λus s1 ⟨vs,H1,k,r,B,R,q1⟩=>⟨k.ee,?_⟩) he gk
 obtain⟨hp,g,d,tk,os⟩:=s1
 have D:us.length<=sizeLine:=by rw[<-r.length,CS];ext
 refine _d.NN DK (_d.wN W) k.ee (k.ee _ _ lk) l.2.1 l.2.2.1 (λh' e j f=>?_) D
 obtain⟨t,F⟩:=j.there
 have p:=k.laid (t':=tk) j.keeps f (Iv F.1 rfl)
 have r2:aX (V.ref e::vs) _:=.cons rfl r
 have S:(Value.ref e::us++[]).length=(("self":Str)::fs).length:=by
  have z:=r2.length
  simp_all
 have M:=l.2.2.2 _ _ p.ee S
 rw[CO]at M
 refine DO (DF (l.1.run _ X.stack _ _ _ _ _ _ E0 (hr.make C us []) (p.ue.make C us []) M r2 ((yI (E:=λ_ Y H'=>∃ a,Y=some a/\Q (.ref a) H') B R λe d h1 h2 U=>⟨e,rfl,q1 e d h1 h2 U⟩).2 e (k.cj.fresh f))) λo s' J=>?_)
 cases o with
 | error e=>exact False.elim J
 | ok fl=>
  cases fl with
  | next=>assumption
  | brk=>assumption
  | cont=>assumption
  | ret u=>
   obtain⟨v,H3,P,rv,ev,od,O,a,L⟩:=p.after J
   subst ev
   cases L.1
   obtain⟨T,G⟩:=yG P.cj O
   exact⟨rv,.ref e,_,(P.write (by rw[O];exact True.intro) (.inl rfl) (λb u _ z=>z) ⟨_,G.1⟩ (pB G.1)),rfl,L.2⟩
theorem pV(b:m3 X.K X.mg x W C)(u:Gl X x)(p:PA X (e0::rest) ta)(k:autoParam ((x == ("__debug__":Str))=false) z5)
  (he:autoParam (starEach (e0::rest) X.env=(false,eval e0 X.env)::starEach rest X.env) z3) (gk:autoParam ((backTo d9 (starEach rest X.env)).any (·.1)=false) z3) :
  PE X (.Call (.Name x np) (e0::rest) [] d9) (Kc C ta):=by
 intro av s Z H Q I h
 obtain⟨nm,q,N,bs,sn,sub,ab,col,dd,k0,k1,k2,k3,k5,lk⟩:=b.lk
 obtain⟨c0,w,cd,sl,lw⟩:=b.lw
 refine B2 (iC I u b.m ?_ k)
 refine B3 I.ok.mod.jy b.c.kp (cz (p d9 av s Z H _ I h) λus s1 ⟨vs,H1,f,r,y,o⟩=>⟨f.ee,?_⟩) he gk
 obtain⟨v,g,d,A,os⟩:=s1
 have i:us.length<=sizeLine:=by rw[<-r.length,CS];ext
 have jy:X.K.In v:=f.ee
 obtain⟨z,l⟩:=En jy lk.2.1 lk.2.2
 obtain⟨B,n⟩:=En jy lw.2.1 lw.2.2
 refine wpAny_call_exc_subT DK (.own (jy _ _ lw.1) n.1 n.2 .base) (jy _ _ lk.1) l.1 l.2 (λh' e a=>?_) i
 obtain⟨t,j⟩:=a.there
 exact⟨.ref e,_,(f.uc a.keeps a.new (pB j.1)),rfl,o e (f.cj.free a.new)⟩
end
end _a
variable{qs:L9 Az}
namespace _f
variable{es:L9 Ez}{Y:Sg}{Z:_a.St}{F H:Hp}{st2:Stmt}{elt:Ez}{fe:Sg->R Dz}
def xK(cn:Str)(fs:L9 Str)(f:Sg->R (L9 Dz)):Sg->R A:=λY=>(f Y).bind λxs=>if xs.length=fs.length then .ok (.x ⟨cn,fs.zip xs⟩)else .bad
def u9(cn:Str)(f:Sg->R (L9 Dz)):Sg->R A:=λY=>(f Y).bind λxs=>if xs.length<=1000 then .ok (.x ⟨cn,[]⟩)else .bad
def vA(fs:L9 Str)(f:Sg->R (L9 Dz))(g:Str):Sg->R Dz:=λY=>(f Y).bind λxs=>if xs.length=fs.length then(match (fs.zip xs).lookup g with
 | some d=>.ok d
 | none=>.bad)else .bad
section
variable{X:Cx}{c:Ct}{E:XK}{e:Ez}{cn:Str}{C:Az}{fs:L9 Str}{f:Sg->R (L9 Dz)}
theorem tT(l:c.mg cn=some (.ref C))(o:fs.length<=1000)(h:PE X e (HH C fs (vm c E f))):PV X c E e (xK cn fs f):=PE.imp h λZ H Q i=>by
 obtain⟨Y,F,ab,k⟩:=i
 refine⟨Y,F,ab,(Rk.bind k).imp λxs _ q vs n H1 s1 r1=>?_⟩
 by_cases b:xs.length=fs.length
 .rw[AI b]at q
  have j:vs.length=fs.length:=by rw[r1.length,b]
  refine⟨j,by simp_all,λe d m p a=>?_⟩
  have g:Ext n H1 _ (upd H1 e (mv e C (some d))):=Ext.new s1.fh m
  refine Rk.ok q _ _ _ (s1.trans (g.trans (Ext.new g.fh (by rw[aE a];ext)))) ⟨e,C,rfl,l,some d,?_,.inr ⟨d,fs.zip vs,rfl,aI,?_,?_⟩⟩
  .rw[aE (BD a),aI]
  .rw[jH j,jH b]
  .rw[jI j,jI b]
   exact r1.same (g.trans (Ext.new g.fh (by rw[aE a];ext))).ff
 .rw[AM b]at q;exact q.elim
theorem pW(d:c.mg cn=some (.ref C))(h:PE X e (Kc C (vm c E f))):PV X c E e (u9 cn f):=PE.imp h λZ H Q a=>by
 obtain⟨Y,F,ab,k⟩:=a
 refine⟨Y,F,ab,(Rk.bind k).imp λxs _ q vs i H1 s1 r1=>?_⟩
 by_cases b:xs.length<=1000
 .rw[AI b]at q
  exact⟨by rw[r1.length];ext,λe g=>Rk.ok q _ _ _ (s1.trans (Ext.new s1.fh g)) ⟨e,C,rfl,d,none,aI,.inl ⟨rfl,rfl⟩⟩⟩
 .rw[AM b]at q;exact q.elim
theorem vB{w:W9}{base:Hz}(l:ju P w X.K X.mg base cn fs W C)(s:fs.length<=1000)(o:g∈fs)(h:PE X e (HW X.K (HH C fs (vm c E f)) g)):PD X c E e (vA fs f g):=PE.imp h λZ H Q ⟨Y,F,ab,k⟩=>by
 refine⟨Y,F,ab,(Rk.bind k).imp λxs _ q vs p H1 s1 r1=>?_⟩
 by_cases b:xs.length=fs.length
 .rw[AI b]at q
  have j:vs.length=fs.length:=by rw[r1.length,b]
  refine⟨j,by simp_all,λe d n t a=>?_⟩
  have i:Ext p H1 _ (upd H1 e (mv e C (some d))):=Ext.new s1.fh n
  split at q
  .rename_i y r
   obtain⟨u,m⟩:=rA (by rw[jH j,jH b]) (by rw[jI j,jI b];ext) r
   exact⟨e,W,C,d,fs.zip vs,u,rfl,l.c,l.na g o,by rw[aE (BD a),aI],aI,m.1,Rk.ok q u _ _ (s1.trans (i.trans (Ext.new i.fh (by rw[aE a];ext)))) (m.2.same (i.trans (Ext.new i.fh (by rw[aE a];ext))).ff)⟩
  .exact q.elim
 .rw[AM b]at q;exact q.elim
def vX(i:Nat):Sg->R A:=λY=>match Y[i]? with
 | some (some (.x e))=>.ok (.x e)
 | _=>.bad
theorem Tf(h:PE X e (bU i)):PV X c E e (vX i):=PE.imp h λZ H Q ⟨Y,F,ab,k⟩=>by
 unfold vX at k
 split at k
 .rename_i x a
  obtain⟨v,h1⟩:=ab.slot i _ a
  exact⟨v,h1.1,k v F H (Ext.refl ab.fh) h1.2⟩
 .exact k.elim
def x5:L9 Az->TA
 | []=>dP
 | D::t=>bR (tC (.ref D)) (x5 t)
def yz(mg:Str->O9 V9):L9 Str->L9 Az->Prop
 | [],[]=>True
 | q::qs,D::Ds=>mg q=some (.ref D)/\yz mg qs Ds
 | _,_=>False
theorem Te:∀ Ds,yz X.mg [] Ds->PA X [] (x5 Ds):=λDs h=>by
 cases Ds with
 | nil=>exact bI
 | cons D t=>exact h.elim
theorem jC{q:Str}{qs:L9 Str}(h:∀ Ds,yz X.mg qs Ds->PA X es (x5 Ds))(b:autoParam (Gl X q) z3)(vr:autoParam ((q == ("__debug__":Str))=false) z5)(hs:autoParam (starEach (.Name q p::es) X.env=(false,eval (.Name q p) X.env)::starEach es X.env) z3):∀ Ds,yz X.mg (q::qs) Ds->PA X (.Name q p::es) (x5 Ds):=λDs a=>by
 cases Ds with
 | nil=>exact a.elim
 | cons D t=>exact aO (iD b a.1 rfl vr) (h t a.2) hs
theorem M9:∀ {Ds:L9 Az} {Z:_a.St} {H:Hp} {Q:L9 V->Hp->Prop},Q (Ds.map V.ref) H->x5 Ds Z H Q
 | [],_,_,_,h=>h
 | D::t,_,_,_,h=>M9 (Ds:=t) h
theorem NZ{t:V9}:∀ {Ds:L9 Az},(∀ D∈Ds,kitOne K t (.ref D)=some false)->kitAny K t (Ds.map Value.ref)=some false
 | [],_=>by rfl
 | D::Ds,h=>by
  simp[kitAny,(h D (.head _)),(NZ λD a=>h D (.tail _ a))]
theorem L1:∀ {qs:L9 Str},(∀ q∈qs,uw X.K X.mg q tb)->∃ Ds,yz X.mg qs Ds/\∀ D∈Ds,tH X.K X.mg (.ref D) tb
 | [],_=>⟨[],trivial,λ_ h=>nomatch h⟩
 | q::qs,h=>by
  obtain⟨D,d1⟩:=h q (.head _)
  obtain⟨Ds,c⟩:=L1 λq b=>h q (.tail _ b)
  exact⟨D::Ds,⟨d1.1,c.1⟩,λd a=>by
   rcases AQ.mp a with rfl|a<;>simp_all⟩
theorem Tc{qs:L9 Str}(o:X.mg=c.mg)(is:∀ q∈qs,uw X.K X.mg q tb)(u:∀ p∈tb,p.2=false)(n:0 < qs.length/\qs.length<=1000)
  (h:∀ Ds,yz X.mg qs Ds->PE X e (rg (Kd X.K) (bR (bU i) (bR (JS (x5 Ds)) dP)))):PD X c E e (mJ i tb):=by
 obtain⟨Ds,f,j⟩:=L1 is
 have x:Ds.length=qs.length:=by
  clear h is j n
  induction qs generalizing Ds with
  | nil=>cases Ds with
   | nil=>rfl
   | cons _ _=>exact f.elim
  | cons q qs ih=>cases Ds with
   | nil=>exact f.elim
   | cons D t=>rw[AT,AT,ih t f.2]
 refine PE.imp (h Ds f) λZ H Q ⟨Y,F,ab,k⟩=>?_
 unfold mJ at k
 split at k
 .rename_i y hi
  split at k
  .rename_i b d
   have d:=u _ (nN d)
   subst d
   obtain⟨v,s,a,w,rfl,m,od,e1,e2⟩:=ab.slot i _ hi
   refine⟨_,s,M9 ⟨by rw[AL,CS];ext,λp r=>?_⟩⟩
   have ex:Ext F H F (upd H p (.tup (Ds.map V.ref))):=Ext.own ab.fh r
   cases l:Ds with
   | nil=>simp_all
   | cons D0 Dt=>
    obtain⟨W,C,h1⟩:=j D0 (by simp_all) _ (nN d)
    rw[<-o,h1.2.1]at m
    cases m
    rw[<-l]
    refine⟨a,W,_,p,Ds,false,rfl,h1.1,?_,fq.of aI,NZ λD l=>?_,Rk.ok k _ F _ ex (.bl false)⟩
    .rcases e2 with ⟨_,rfl⟩|⟨dd,g,rfl,e2,B,z⟩
     · exact .inl (ex.hh _ _ (ab.fh _ _ e1))
     · exact .inr ⟨dd, g, ex.hh _ _ (ab.fh _ _ e1), ex.hh _ _ (ab.fh _ _ e2)⟩
    .obtain ⟨A,G,f⟩:=j D l _ (nN d)
     ext
  .exact k.elim
 .exact k.elim
theorem Ab.zu(b:Ab c Y Z F H)(i:Nat)(v:O9 V):Ab c (Y.set i none) (Z.set i v) F H where
 len:=by rw[BJ,BJ];exact b.len
 fh:=b.fh
 slot:=λj a h=>by
  rcases get_set h with ⟨e,q,n⟩|⟨g,q⟩
  .cases q
  .obtain ⟨v,h1,h2⟩:=b.slot j a q
   exact⟨v,by rw[A1 g];exact h1,h2⟩
 apart:=λj k a o l h1 h2 r m=>by
  rcases get_set h1 with ⟨e,q,n⟩|⟨g,q⟩
  .cases q
  .rcases get_set h2 with ⟨s,f,p⟩|⟨d,f⟩
   .cases f
   .rw[A1 g,A1 d]
    exact b.apart j k a o l q f r m
 f0:=b.f0
 h0:=b.h0
 n0:=b.n0
 t0:=b.t0
def HG(fe:Sg->R Dz)(i0:Nat)(Y0:Sg)(a:A):Bool:=match fe (Y0.set i0 (some a))with
 | .ok (.bool true)=>true
 | _=>false
def Kb(j:Nat)(f1 f2:Sg->R (L9 A))(js:L9 (O9 Nat))(i0:Nat)(fe:Sg->R Dz):Sg->R Fw:=λY=>(f1 Y).bind λxs=>if xs.length<=1000/\j < Y.length then(f2 (Y.set j none)).bind λys=>if ys.length<=1000/\(xs++ys).all (HG fe i0 (eH js (Y.set j none)))=true then .ok (.rt (.d (.bool true)))else .bad else .bad
theorem je.get'{g:Gb}:∀ {as:L9 A} {vs:L9 V} {i:Nat} {v:V},je g K mg F as vs->vs[i]? = some v->∃ a,as[i]? = some a/\AF g K mg F a v:=by
 intro as
 induction as with
 | nil=>
  intro vs _ _ h e
  cases vs with
  | nil=>simp at e
  | cons _ _=>exact h.elim
 | cons a as ih=>
  intro vs i _ h e
  cases vs with
  | nil=>exact h.elim
  | cons v vs=>
   cases i with
   | zero=>simp at e;subst e;exact⟨a,rfl,h.1⟩
   | succ i=>obtain⟨w,h1,h2⟩:=ih h.2 (by assumption);exact⟨w,by assumption,h2⟩
theorem Vw{L S:Sg->R (L9 A)}{r w:Stmt}{tg:Ez}(hK:X.K=c.K)
  (h1:PS X r (jR (Ec (ya c E L)) (fQ j))) (h2:PS X st2 (jR (vk JO (bU j) (Ec (ya c E S))) (fQ j)))
  (h3:PS X w (Ht (rg (λxs H Q=>∃ (a:Az) (bs:L9 Bool),xs=[.ref a]/\d_ X.K H a (bs.map V.bl)/\Q (.bl (bs.all id)) H) (bR (qG X N scope js tg elt [] (Ku X.K (bU j))) dP))))
  (ho:js.Pairwise λa b=>a=none\/a≠b) (hi:js[m]? = some none)
  (hb:∀ (cl:L9 (Str×Az)) (C:Az) (s:S9) (H0:Hp) (fp:L9 Az),PG (dB X N scope cl C s H0 fp) tg (fQ m)/\PD (dB X N scope cl C s H0 fp) c E0 elt fe) :
  gc X c E [r,st2,w] (Kb j L S js m fe):=by
 intro av s Z H D I h
 refine _a.aJ h1 (_a.aJ h2 (_a.bC h3)) av s Z H D I ?_
 obtain⟨Y,F,ab,k⟩:=h
 refine⟨Y,F,ab,(Rk.bind k).imp λxs _ k vs G H1 s1 r1=>?_⟩
 by_cases o:xs.length<=1000/\j < Y.length
 .rw[AI o]at k
  have l1:=r1.len
  refine⟨by rw[CS];ext,λp hp=>?_⟩
  have e1:Ext G H1 G (upd H1 p (.lst vs)):=Ext.own s1.fh hp
  have u:=(ab.ext (s1.trans e1)).zu j (some (.ref p))
  have M:=ab.len▸o.2
  refine⟨.ref p,BV M,Y.set j none,G,u,(Rk.bind (k.ext (s1.trans e1))).imp λys _ k f y H2 n r2=>?_⟩
  by_cases J:ys.length<=1000/\(xs++ys).all (HG fe m (eH js (Y.set j none)))=true
  .rw[AI J]at k
   have l2:=r2.len
   refine⟨by rw[CS];ext,λq B=>?_⟩
   refine⟨p,q,vs,f,rfl,rfl,(Ext.own n.fh B).hh _ _ (n.hh _ _ aI),aI,by rw[CS];ext,λt T=>?_⟩
   have P:Ext y _ y (upd _ t (.lst (vs++f))):=Ext.own (Ext.own n.fh B).fh T
   have l:=(u.ext (n.trans ((Ext.own n.fh B).trans P))).zu j (some (.ref t))
   rw[List.set_set]at l
   refine⟨.ref t,BV (by simp_all),t,rfl,⟨_,d_.of aI⟩,?_⟩
   refine Xm (xs:=vs++f) (λi ws H'=>∃ F',Ext y _ F' H'/\ws=replicate i (.bl true)) (by rw[AY,CS];ext) ⟨y,Ext.refl P.fh,rfl⟩ ?_ ?_ ?_
   .rintro i ws H' hi ⟨F',e,rfl⟩
    exact⟨by simp,d_.of (e.hh _ _ aI)⟩
   .rintro i x ws H' o ⟨F',e,rfl⟩ cl C s H0 fp
    refine⟨fQ m,Ef,_,(hb cl C s H0 fp).1,_a.lA,(hb cl C s H0 fp).2,λZ0 k0=>⟨w4 (is:=[m]) k0 BJ (λj M=>A1 (by intro z;simp_all)) (λi h=>by simp_all),?_⟩⟩
    dsimp only[Ef]
    obtain⟨a,O⟩:=((r1.same n.ff).append r2).get' o
    have g:=B7.mp J.2 a (AD O.1)
    refine⟨(eH js (Y.set j none)).set m (some a),F',((l.ext e).uj (qX ho) k0).qo (O.2.same e.ff),?_⟩
    unfold HG at g
    split at g
    .rename_i W
     rw[W]
     intro v U H5 e5 r5
     obtain rfl:=b5.kL r5
     exact⟨U,e.trans e5,by rw[List.replicate_succ']⟩
    .cases g
   .rintro ws H' ⟨F',e,rfl⟩ p' OT
    refine⟨p',replicate (vs++f).length true,rfl,d_.of (by rw[aI,List.map_replicate]),?_⟩
    rw[show(replicate (vs++f).length true).all id=true by simp]
    exact Rk.ok k (.bl true) F' _ (l.all.trans (e.trans (Ext.own e.fh OT))) (AR.of (a:=.d (.bool true)) (.bl true))
  .rw[AM J]at k;exact k.elim
 .rw[AM o]at k;exact k.elim
end
def Hr:Sg->R Unit:=λ_=>.ok ()
theorem lO{x:Const}:starEach (.Constant x k p::es) env=(false,eval (.Constant x k p) env)::starEach es env:=by rfl
theorem Ta{X:Cx}{c:Ct}{E:XK}{a:L9 Stmt}:gc X c E a JL:=λ_ _ _ _ _ _ k=>by obtain⟨_,_,k⟩:=k;exact k.2.elim
def Lg(X:Cx)(E:XK)(tf:TE)(t:TA):TE:=λZ H Q=>tf Z H λx H0=>∃ f,x=.ref f/\ux X.K H0 f/\t Z H0 λvs H1=>ux X.K H1 f/\∃ k fd ps sp,cw k X.A/\c5 X.prog X.w X.K X.mg X.base (d4 X.prog X.w) k f fd ps sp/\cG X.K fd ps []/\sp vs H1 Q E
theorem Vv{X:Cx}{E:XK}{o e:Ez}{B:L9 Ez}{pos:Pos}{z:TE}{t:TA}(C:PE X (.Call o B [] p) z)(hx:fR (d4 X.prog X.w) X E)(x:PA X (e::es) t)
  (n:autoParam (starEach (e::es) X.env=(false,eval e X.env)::starEach es X.env) z3) (gk:autoParam ((backTo pos (starEach es X.env)).any (·.1)=false) z3):PE X (.Call (.Call o B [] p) (e::es) [] pos) (Lg X E z t):=by
 intro av s Z H Q I h
 refine AA (cz (C av s Z H _ I h) λu y j=>?_)
 obtain⟨v,m,b,D,f,G,g,h⟩:=j
 subst G
 obtain rfl:=D
 have d:∀ us s1,AP X av Z (λvs H1=>ux X.K H1 f/\∃ k fd ps sp,cw k X.A/\c5 X.prog X.w X.K X.mg X.base (d4 X.prog X.w) k f fd ps sp/\cG X.K fd ps []/\sp vs H1 Q E) us s1->
   (∃ H1,Inv X av Z H1 s1/\ux X.K H1 f)/\wpAny (model X.prog X.w) X.A (call (.ref f) us) (EP X av Z Q) X.xe s1:=by
  rintro us s1 ⟨vs,H1,c,r,a,k,fd,ps,sp,hr,F,hb,q⟩
  refine⟨⟨H1,c,a⟩,sC F hr hb .nil hx c r ?_⟩
  ext
 rcases g with g|⟨l,od,fd,sl,g⟩
 .refine B3 b.ok.mod.jy g (cz (x pos av y Z m _ b h) λus s1 i=>?_) n gk
  obtain⟨⟨H1,c,_⟩,q⟩:=d us s1 i
  exact⟨c.ee,q⟩
 .refine callWith_F ⟨l,od,fd,sl,mW.get b.cj g⟩ (cz (x pos av y Z m _ b h) λus s1 i=>?_) n gk
  obtain⟨⟨H1,c,a⟩,q⟩:=d us s1 i
  refine⟨?_,q⟩
  rcases a with a|⟨l,od,fd,sl,a⟩
  .cases e:X.K.lookup f with
   | none=>unfold keepIn at a;simp_all
   | some o=>
    have J:=b.bs f o (b.ok.mod.jy f o e)
    ext
  .exact ⟨l,od,fd,sl,mW.get c.cj a⟩
def HF(m:Nat)(f:Sg->R A)(g:Sg->R (L9 Dz)):Sg->R Dz:=λY=>(f Y).bind λa=>match a with
 | .g k n G=>(g Y).bind λds=>if k<=m/\ds.length=n then G ds else .bad
 | _=>.bad
theorem S_{X:Cx}{c:Ct}{E:XK}{e:Ez}{m:Nat}{T:Hp}{f:Sg->R A}{g:Sg->R (L9 Dz)}(I:c.g=g6 X.prog X.w X.K X.mg X.base T)(L:X.K=c.K)(U:X.mg=c.mg)(hr:cw m X.A)(h:PE X e (Lg X E (tV (Ea c) c E f) (vm c E g))):PD X c E e (HF m f g):=PE.imp h λZ H Q y=>by
 obtain⟨Y,F,ab,k⟩:=y
 refine⟨Y,F,ab,(Rk.bind k).imp λa _ k v s N e0 M=>?_⟩
 have b:=ab.ext e0
 cases a with
 | g lv n G=>
  obtain⟨J,S,rfl,s1,B⟩:=((M))
  rw[I]at B
  obtain⟨fd,ps,i⟩:=((B))
  have l:∀ j H',aH s j->aH j H'->ux X.K H' J:=λj H' P O=>i.2.2.2.imp id λD=>by obtain⟨D,od,fd,sl,e⟩:=D;exact⟨D,od,fd,sl,O _ _ (P _ _ (s1 _ _ e))⟩
  refine⟨J,rfl,l s N (bP s) b.fh,Y,s,b,(Rk.bind (k.ext e0)).imp λds _ q vs j H' e1 r=>?_⟩
  refine⟨l j H' e1.ff e1.fh,?_⟩
  by_cases p:lv<=m/\ds.length=n
  .rw[AI p]at q
   refine⟨lv,fd,ps,_,hr.mono p.1,i.2.2.1,i.2.1,j,ds,λa o z=>e1.ff a o (s1 a o z),λa o z=>e1.ff a o (b.f0 a o (b.t0 a o (by rw[I];exact z))),e1.fh,by rw[L];ext,p.2,?_⟩
   cases u:G ds with
   | bad=>rw[u]at q;exact q
   | ok d=>rw[u]at q;exact λv t H2 e2 r2=>Rk.ok q v t H2 (e0.trans (e1.trans e2)) (by rw[L]at r2;exact r2)
   | ex x=>rw[u]at q;exact λa C t H2 e2 r2=>q a C t H2 ((b.all.trans e1).trans e2) (by simp_all)
  .rw[AM p]at q;exact q.elim
 | _=>exact k.elim
theorem fX{f:Ez}{b:L9 Ez}{a:L9 Keyword}:starEach (.Call f b a p::es) env=(false,eval (.Call f b a p) env)::starEach es env:=by rfl
theorem WJ:starEach (.Name x p::es) env=(false,eval (.Name x p) env)::starEach es env:=by rfl
def Jm(K:Frag):V->L9 V->Hp->VK->Prop:=λx vs H Q=>∃ xs d u j,vs=[u]/\b5 K H x (.list xs)/\b5 K H u d/\shaped d=true/\shaped (.list xs)=true/\xs.length<=16777216/\(xs.findIdx? λy=>PyData.eqv y d)=some j/\Q (.int j) H
theorem WI{X:Cx}(R:X.A.units+64 < cLine):Fj X "list.index" (Jm X.K):=by
 intro av s Z H x vs v us Q I J L h
 obtain⟨xs,d,u,j,rfl,w,D,s1,f,N,l,q⟩:=h
 obtain⟨G,rfl,M⟩:=L.one
 obtain⟨P,r1⟩:=b5.reads I w (mT f) J
 obtain⟨bs,r2⟩:=b5.reads I D (mT s1) M
 have g:=nH (b:=d.depth) (gW f).2
 cases r1 with
 | list h1 h2 h3 h4=>
  rename_i a o c n E
  have e:=SeqAt.readsAll_map _ _ _ (gW f).1 h4
  obtain⟨S,od,O,sl⟩:=o
  subst h2 h3
  have p:c.toList.length=xs.length:=by rw[<-e,AL]
  have B:c.size=xs.length:=by ext
  rw[List.findIdx?_eq_some_iff_getElem]at l
  obtain⟨t,C,i⟩:=l
  have r:∀ m (g:m < c.size),PyData.eqv (readOf s.heap c[m]) d=PyData.eqv _ d:=λm g=>by
   have:=by
    have z:(c.toList.map (readOf s.heap))[m]'(by simp_all)=xs[m]'(by ext):=by simp_all
    simpa using z
   rw[this]
  refine FR GI ⟨_,h1,rfl⟩ PySem.F.entry_list_index (PySem.F.args_list_index_2 _ _) (SeqAt.list_indexAt a c n od sl G (λy=>PyData.eqv _ d) j _ (by ext) (by rw[r j (by ext)];ext) (λm g k=>by rw[r m g];exact FM.mpr (i m k))) ⟨h1,SeqAt.items_eqAt h4 r2 (gW f).1 (cO s1) (by ext),.int j,H,I.tok _,⟨_,rfl⟩,q⟩
def Av:Dz->Dz->R Dz
 | .list xs,x=>if shaped x=true/\shaped (.list xs)=true/\xs.length<=16777216 then(match xs.findIdx? λy=>PyData.eqv y x with|some j=>.ok (.int j)|none=>.bad)else .bad
 | _,_=>.bad
def Gi:Dz->Bool
 | .list _=>true
 | _=>false
def Dr(f g:Sg->R Dz):Sg->R Dz:=λY=>(f Y).bind λx=>if Gi x=true then(g Y).bind λy=>Av x y else .bad
theorem WH{X:Cx}{c:Ct}{E:XK}{e:Ez}{f g:Sg->R Dz}(d:X.K=c.K)(h:PE X e (x_ X.K "list" (Jm X.K) (tV (bG c) c E f) (bR (tV (bG c) c E g) dP))):PD X c E e (Dr f g):=PE.imp h λZ H Q ⟨Y,F,ab,k⟩=>by
 refine⟨Y,F,ab,(Rk.bind k).imp λx ex q v m H1 s1 r1=>?_⟩
 cases x with
 | list xs=>
  obtain⟨p,vs,rfl,h1,h2⟩:=aP.d3 s1.fh r1
  refine⟨.inl ⟨rfl,vs,by ext⟩,Y,m,ab.ext s1,((Rk.bind q).ext s1).imp λy _ q u i H2 a r2=>?_⟩
  unfold Av at q
  dsimp at q
  split at q
  .rename_i b
   split at q
   .rename_i j l
    exact⟨xs,y,u,j,rfl,by rw[d];exact(aP.ext a r1).heap a.fh,by rw[d];exact r2.heap a.fh,b.1,b.2.1,b.2.2,l,Rk.ok q _ i H2 (s1.trans a) (.int _)⟩
   .exact q.elim
  .exact q.elim
 | _=>exact q.elim
def jZ(Y:Sg):Bool:=Y.all λo=>match o with
 | some a=>!a.own
 | none=>true
theorem rN{p:Az}(h:jZ Y=true):Ic Y Z p:=λj a b c=>by
 have z:=B7.mp h _ (AD b)
 simp_all
structure lj(c:Ct)(F H:Hp)(Z:_a.St)(i:Nat)(p:Az)(qs:List Az)(jw:List (List V)):Prop where
 s:Z[i]? = some (some (.ref p))
 hp:H p=some (.lst (qs.map V.ref))
 fp:F p=none
 p0:c.H0 p=none
 np:p∉qs
 nd:qs.Nodup
 len:jw.length=qs.length
 q:∀ (j:Nat) (q:Az) (vs:List V),qs[j]? = some q->jw[j]? = some vs->H q=some (.lst vs)/\F q=none/\c.H0 q=none
theorem lj.ext{c:Ct}{d H':Hp}{p:Az}{b:L9 (L9 V)}(h:lj c F H Z i p qs b)(e:Ext F H d H'):lj c d H' Z i p qs b:=
 ⟨h.s,e.hh _ _ h.hp,e.d6 h.fp h.hp (λ_ z=>nomatch z),h.p0,h.np,h.nd,h.len,λj q vs h1 h2=>by
  have a:=h.q j q vs h1 h2
  exact⟨e.hh _ _ a.1,e.d6 a.2.1 a.1 (λ_ z=>nomatch z),a.2.2⟩⟩
theorem lj.put{c:Ct}{p:Az}{d:L9 (L9 V)}(h:lj c F H Z i p qs d){q:Az}{vs us:L9 V}(h1:qs[j]? = some q)(h2:d[j]? = some vs):lj c F (upd H q (.lst us)) Z i p qs (d.set j us):=by
 have g:=AD h1
 refine⟨h.s,?_,h.fp,h.p0,h.np,h.nd,by rw[BJ];exact h.len,λk r ws e1 e2=>?_⟩
 .rw[aE (λz=>h.np (by simp_all))];exact h.hp
 .rcases get_set e2 with ⟨e,z,_⟩|⟨f,z⟩
  .subst e z
   rw[h1]at e1
   cases e1
   have b:=h.q _ _ _ h1 h2
   exact⟨aI,b.2.1,b.2.2⟩
  .obtain ⟨a,b⟩:=h.q k r ws e1 z
   refine⟨?_,b.1,b.2⟩
   rw[aE]
   .omega
   .intro w
    subst w
    exact f ((List.getElem_inj h.nd).mp ((AH.mp h1).2.trans (AH.mp e1).2.symm))
theorem L0{c:Ct}(d:jZ Y=true):∀ (qs:L9 Az) (jw:L9 (L9 V)) {F:Hp},Ab c Y Z F H->qs.Nodup->jw.length=qs.length->(∀ (j:Nat) (q:Az) (vs:L9 V),qs[j]? = some q->jw[j]? = some vs->H q=some (.lst vs)/\F q=none/\c.H0 q=none)->
  ∃ F',aH F F'/\Ab c Y Z F' H/\(∀ (j:Nat) (q:Az) (vs:L9 V),qs[j]? = some q->jw[j]? = some vs->F' q=some (.lst vs))/\∀ a,a∉qs->F' a=F a
 | [],_,F,ab,_,_,_=>⟨F,bP F,ab,λj q vs h=>by simp_all,λ_ _=>rfl⟩
 | q::qs,[],F,ab,_,hl,_=>by simp_all
 | q::qs,vs::jw,F,ab,nd,hl,h=>by
  have a:=h 0 q vs rfl rfl
  obtain⟨F',s1⟩:=L0 d qs jw (ab.zi a.1 a.2.1 a.2.2 (rN d)) (BY.mp nd).2 (by simpa using hl) (λj r ws e1 e2=>by
   obtain⟨x,y,z⟩:=h (j+1) r ws (by assumption) (by assumption)
   exact⟨x,by rw[aE (λw=>((BY.mp nd).1) (by rw[<-w];exact AD e1))];ext,z⟩)
  refine⟨F',λx o z=>s1.1 x o (aH.upd a.2.1 x o z),s1.2.1,λj r ws e1 e2=>?_,λx b=>?_⟩
  .cases j with
   | zero=>simp at e1 e2;subst e1 e2;rw[s1.2.2.2 q ((BY.mp nd).1),aI]
   | succ j=>exact s1.2.2.1 j r ws (by assumption) (by assumption)
  .rw[AQ,not_or]at b
   rw[s1.2.2.2 x b.2,aE b.1]
theorem M8{F2:Hp}(s:aH F F2):∀ {qs:L9 Az} {jw:L9 (L9 V)} {eg:L9 (L9 Dz)},jw.length=qs.length->eg.length=qs.length->(∀ (j:Nat) (q:Az) (vs:L9 V),qs[j]? = some q->jw[j]? = some vs->F2 q=some (.lst vs))->(∀ (j:Nat) vs xs,jw[j]? = some vs->eg[j]? = some xs->a_ K F vs xs)->a_ K F2 (qs.map V.ref) (eg.map PyData.list)
 | [],_,[],_,_,_,_=>.nil
 | [],_,_::_,_,h,_,_=>by simp_all
 | q::qs,[],_,h,_,_,_=>by simp_all
 | q::qs,_,[],_,h,_,_=>by simp_all
 | q::qs,vs::jw,xs::eg,h1,h2,h3,h4=>.cons (.lst (d_.of (h3 0 q vs rfl rfl)) ((h4 0 vs xs rfl rfl).same s)) (M8 s (by simpa using h1) (by simpa using h2) (λj r ws e1 e2=>h3 (j+1) r ws (by assumption) (by assumption)) (λj r ws e1 e2=>h4 (j+1) r ws (by assumption) (by assumption)))
theorem lj.done{c:Ct}{p:Az}{b:L9 (L9 V)}{e:L9 (L9 Dz)}(h:lj c F H Z i p qs b)(ab:Ab c Y Z F H)(g:jZ Y=true)(hx:e.length=qs.length)(k:∀ (j:Nat) vs xs,b[j]? = some vs->e[j]? = some xs->a_ c.K F vs xs) :
  ∃ F',aH F F'/\Ab c (Y.set i (some (.d (.list (e.map PyData.list))))) Z F' H:=by
 obtain⟨l,s1⟩:=L0 g qs b ab h.nd h.len h.q
 have fp:l p=none:=by rw[s1.2.2.2 p h.np];exact h.fp
 have f:=(s1.2.1.zi h.hp fp h.p0 (rN g)).qo (i:=i) (a:=.d _) (.lst (d_.of aI) (M8 (λa o z=>(aH.upd fp) a o (s1.1 a o z)) h.len hx (λj q vs e1 e2=>(aH.upd fp) _ _ (s1.2.2.1 j q vs e1 e2)) k))
 rw[Vy h.s]at f
 exact⟨_,λa o z=>(aH.upd fp) a o (s1.1 a o z),f⟩
def oP(fs:Dz->Sg->O9 Sg)(fk fe:Sg->R Dz):L9 Dz->L9 (L9 Dz)->Sg->R (L9 (L9 Dz)×Sg)
 | [],eg,Y=>.ok (eg,Y)
 | y::t,eg,Y=>(yq (fs y Y)).bind λY1=>if jZ Y1=true then(fk Y1).bind λk=>(match k with
  | .int kk=>(match ni eg.length kk with
   | some j=>(fe Y1).bind λx=>if (eg.getD j []).length < 16777216 then oP fs fk fe t (eg.set j (eg.getD j []++[x])) Y1 else .bad
   | none=>.bad)
  | _=>.bad)else .bad
def HE(i:Nat)(OY OX:Sg->R (L9 Dz))(fs:Dz->Sg->O9 Sg)(fk fe:Sg->R Dz):Sg->R Fw:=λY=>(OY Y).bind λxs=>if i < Y.length/\jZ (Y.set i none)=true then(OX (Y.set i none)).bind λys=>(oP fs fk fe ys (replicate xs.length []) (Y.set i none)).bind λr=>.ok (.nx (r.2.set i (some (.d (.list (r.1.map PyData.list))))))else .bad
theorem Py{c:Ct}{E:XK}{d H1 b H2:Hp}{r:R α}{f:α->R β}{k:β->Prop}(h:Rk c E F H r λa=>Rk c E d H1 (f a) k):Rk c E b H2 (r.bind f) k:=by
 cases r with
 | bad=>exact h
 | ok a=>exact h
 | ex e=>exact h
def Ka(i:Nat)(r:L9 (L9 Dz)×Sg):R Fw:=.ok (.nx (r.2.set i (some (.d (.list (r.1.map PyData.list))))))
def J_(c:Ct)(E:XK)(F H:Hp)(D:iL)(fr:Sg->R Fw)(w:Fw):Prop:=Rk c E F H (match w with | .nx Y'=>fr Y'|w=>.ok w) (o4 c F D)
section
variable{X:Cx}{c:Ct}{E:XK}{rest:L9 Stmt}{pos:Pos}
theorem Vu{ae:Stmt}{tg:Ez}{aa A:Sg->R (L9 Dz)}{fs:Dz->Sg->O9 Sg}{is:L9 Nat}{g:TG}{W:Sg->R Dz}{fr:Sg->R Fw}
  (h1:PS X ae (jR (qG X N scope js tg elt [] (tI c E aa)) (fQ i))) (hj:js[0]? = some none)
  (hb:∀ (cl:L9 (Str×Az)) (C:Az) (s:S9) (H0:Hp) (fp:L9 Az),PG (dB X N scope cl C s H0 fp) tg (fQ 0)/\PE (dB X N scope cl C s H0 fp) elt (Ec dP))
  (hg:Tg c g fs is) (hi:i∉is)
  (h2:PS X st2 (Ho (Bz c E A) g (uF (x_ X.K "list" zQ (vk (Jn X.K) (bU i) (tV (bG c) c E W)) (bR (tV (b6 c) c E fe) dP)))))
  (hr:gc X c E rest fr):gc X c E (ae::st2::rest) (aG (HE i aa A fs W fe) fr):=ix.imp (_a.aJ h1 (_a.aJ h2 hr)) λD Z H ⟨Y,F,ab,k⟩=>by
 refine⟨Y,F,ab,(Rk.bind (Rk.bind k)).imp λxs _ q J B F1 H1 s1 sb yl=>?_⟩
 by_cases hn:i < Y.length/\jZ (Y.set i none)=true
 .rw[AI hn]at q
  refine zR (λm h H'=>∃ F' qs,Ext F1 H1 F' H'/\h=qs.map V.ref/\qs.length=m/\qs.Nodup/\∀ r∈qs,H1 r=none/\H' r=some (.lst [])/\F' r=none) yl.len ⟨F1,[],Ext.refl s1.fh,rfl,rfl,DS,λr hr=>by simp_all⟩ ?_ ?_ ?_ ?_ ?_
  .simp_all
  .rintro m h H' d ⟨F',qs,e1,_⟩
   exact yl.go m F' H' e1.ff e1.fh (λa o z=>e1.hh a o (sb a o z)) d
  .rintro h H' ⟨F',qs,e1,_⟩
   exact yl.stop F' H' e1.ff e1.fh (λa o z=>e1.hh a o (sb a o z))
  .rintro m v h Ha Hb d ⟨F',qs,e1,rfl,hlen,nd,hq⟩ hy
   obtain⟨t,e2⟩:=yl.oz m F' Ha v Hb xs[m] e1.ff e1.fh (λa o z=>e1.hh a o (sb a o z)) hy (AJ d)
   intro cl C s H0 fp
   refine⟨_,_,_,(hb cl C s H0 fp).1,_a.lA,(hb cl C s H0 fp).2,λZ0 k0=>⟨w4 (is:=[0]) k0 BJ (λj hj=>A1 (λz=>hj (by simp[z]))) (λj hj=>by rw[AS.mp hj];assumption),?_⟩⟩
   dsimp only[Ef]
   rw[AI rfl]
   refine⟨CT _,λr hr=>?_⟩
   have e3:Ext t Hb t (upd Hb r (.lst [])):=Ext.own e2.1.fh hr
   refine⟨t,qs++[r],e1.trans (e2.1.trans e3),by rw[BZ];rfl,by rw[AY,hlen];rfl,?_,λx Q=>?_⟩
   .rw[CV]
    refine⟨nd,by simp,λa ha b hb z=>?_⟩
    rw[AS]at hb
    subst hb z
    have:=e2.1.hh _ _ (hq a ha).2.1
    rw[hr]at this
    cases this
   .rcases BN.mp Q with z|z
    .have I:=hq x z
     exact⟨I.1,(e2.1.trans e3).hh _ _ I.2.1,(e2.1.trans e3).d6 I.2.2 I.2.1 (λ_ z=>nomatch z)⟩
    .rw[AS.mp z]
     exact⟨aY (e1.trans e2.1).hh hr,aI,aY e2.1.fh hr⟩
  .rintro h H2 ⟨t,qs,e1,rfl,hlen,nd,hq⟩ p hp
   have e2:Ext t H2 t (upd H2 p (.lst (qs.map V.ref))):=Ext.own e1.fh hp
   have ad:Ab c (Y.set i none) (Z.set i (some (.ref p))) t (upd H2 p (.lst (qs.map V.ref))):=((ab.ext s1).ext (e1.trans e2)).Ad i (.ref p)
   have O2:lj c t (upd H2 p (.lst (qs.map V.ref))) (Z.set i (some (.ref p))) i p qs (replicate xs.length []):=by
    refine⟨BV (by rw[<-ab.len];exact hn.1),aI,aY e1.fh hp,aY (ab.ext s1).h0 (aY e1.hh hp),(λz=>by have:=(hq p z).2.1;rw[hp]at this;cases this),nd,by rw[CQ,hlen],λj r vs h1 h2=>?_⟩
    have I:=hq r (AD h1)
    rw[DY]at h2
    split at h2
    .cases h2
     exact⟨e2.hh _ _ I.2.1,I.2.2,aY (ab.ext s1).h0 I.1⟩
    .cases h2
   show Bz c E A (Z.set i (some (.ref p))) (upd H2 p (.lst (qs.map V.ref))) _
   generalize Y.set i none=Y1 at *
   generalize Z.set i (some (.ref p))=Z1 at *
   generalize upd H2 p (.lst (qs.map V.ref))=H3 at *
   refine⟨Y1,t,ad,?_⟩
   refine(show Rk c E t H3 (A Y1) _ from Rk.bind q).imp λys _ q J F4 H4 s4 L=>?_
   refine⟨λm n Z' H'=>n=ys.length - m/\m<=ys.length/\∃ Y' F' jw eg,aH F4 F'/\Ab c Y' Z' F' H'/\lj c F' H' Z' i p qs jw/\eg.length=qs.length/\jZ Y'=true/\(∀ (j:Nat) vs xs,jw[j]? = some vs->eg[j]? = some xs->a_ c.K F' vs xs)/\Rk c E F' H' ((oP fs W fe (ys.drop m) eg Y').bind (Ka i)) (J_ c E F H D fr),⟨ys.length,by simp,CT _,Y1,F4,replicate xs.length [],replicate xs.length [],bP _,ad.ext s4,O2.ext s4,by rw[CQ,hlen],hn.2,λj vs xs h1 h2=>?_,q⟩,?_⟩
   .rw[DY]at h1 h2
    split at h1
    .rename_i hl
     rw[AI hl]at h2
     cases h1;cases h2;exact .nil
    .cases h1
   .rintro m n Z' H' ⟨rfl,hm,Y',F',jw,eg,s5,Aq,O5,Gk,Gr,Gw,k5⟩
    by_cases d:m < ys.length
    .refine .inr ⟨L.go m F' H' s5 Aq.fh kG d,λM G=>∃ Y' F' jw eg,aH F4 F'/\Ab c Y' M F' G/\lj c F' G M i p qs jw/\eg.length=qs.length/\jZ Y'=true/\(∀ (j:Nat) vs xs,jw[j]? = some vs->eg[j]? = some xs->a_ c.K F' vs xs)/\Rk c E F' G ((oP fs W fe (ys.drop (m+1)) eg Y').bind (Ka i)) (J_ c E F H D fr),λM G w=>⟨ys.length - (m+1),by ext,rfl,d,w⟩,λv H6 y=>?_⟩
     obtain⟨F6,U⟩:=L.oz m F' H' v H6 ys[m] s5 Aq.fh kG y (AJ d)
     rw[(EK d)]at k5
     unfold oP at k5
     cases hf:fs ys[m] Y' with
     | none=>rw[hf]at k5;exact k5.elim
     | some Y7=>
      rw[hf,l8,R.cf]at k5
      refine hg v ys[m] Y' Y7 Z' F6 H6 _ (Aq.ext U.1) U.2 hf λZ7 ai ah P=>?_
      have O7:lj c F6 H6 Z7 i p qs jw:=by
       have z:=O5.ext U.1
       exact⟨by rw[ah i hi];exact z.s,z.hp,z.fp,z.p0,z.np,z.nd,z.len,z.q⟩
      by_cases f:jZ Y7=true
      .rw[AI f]at k5
       refine⟨.ref p,O7.s,Y7,F6,P,?_⟩
       refine(show Rk c E F6 H6 (W Y7) _ from Rk.bind (Rk.bind k5)).imp λkd _ k5 u F8 H8 T r8=>?_
       cases kd with
       | int kk=>
        dsimp only at k5
        obtain rfl:=aP.cA r8
        have O8:=O7.ext T
        cases Q:ni eg.length kk with
        | none=>rw[Q]at k5;exact k5.elim
        | some j=>
         rw[Q]at k5
         have O:j < eg.length:=(zO Q).2.1
         have ac:j < qs.length:=by ext
         have af:j < jw.length:=by rw[O8.len];exact ac
         have eq:qs[j]? = some qs[j]:=AJ ac
         have ev:jw[j]? = some jw[j]:=AJ af
         refine .inl ⟨p,qs.map V.ref,kk,V.ref qs[j],rfl,rfl,d_.of O8.hp,?_,?_⟩
         .unfold j1
          rw[AL,<-Gk,Q]
          show(qs.map V.ref)[j]? = _
          rw[AZ,eq];rfl
         .refine ⟨.inl ⟨rfl,_,d_.of (O8.q j _ _ eq ev).1⟩,Y7,F8,P.ext T,?_⟩
          refine(show Rk c E F8 H8 (fe Y7) _ from Rk.bind k5).imp λx _ k5 u F9 H9 S r9=>?_
          have z1:=(O8.ext S).q j _ _ eq ev
          have ag:eg.getD j []=eg[j]:=by rw[BO,(AJ O)];rfl
          rw[ag]at k5
          by_cases hz:eg[j].length < 16777216
          .rw[AI hz]at k5
           have dj:a_ c.K F9 jw[j] eg[j]:=(Gw j _ _ ev (AJ O)).same (U.1.trans (T.trans S)).ff
           refine⟨qs[j],jw[j],u,rfl,rfl,z1.1,by rw[dj.length,iF];exact hz,?_⟩
           refine⟨Y7,F9,jw.set j (jw[j]++[u]),eg.set j (eg[j]++[x]),λa o z=>(U.1.trans (T.trans S)).ff a o (s5 a o z),((P.ext T).ext S).F_ z1.2.1 z1.2.2 (rN f),(O8.ext S).put eq ev,by rw[BJ];exact Gk,f,λl vs xs e1 e2=>?_,?_⟩
           .rcases get_set e1 with ⟨e,w,_⟩|⟨ne,w⟩
            .subst e w
             rw[BV O]at e2
             cases e2
             exact dj.append (.cons r9 .nil)
            .rw[A1 ne]at e2
             exact(Gw l vs xs w e2).same (U.1.trans (T.trans S)).ff
           .exact Py k5
          .rw[AM hz]at k5;exact k5.elim
       | _=>exact k5.elim
      .rw[AM f]at k5;exact k5.elim
    .have e:m=ys.length:=by ext
     subst e
     rw[EU]at k5
     refine .inl ⟨L.stop F' H' s5 Aq.fh kG,?_⟩
     obtain⟨F9,s9⟩:=O5.done Aq Gr Gk Gw
     refine⟨_,F9,s9.2,?_⟩
     exact Rk.fw (H:=H) (λa o z=>s9.1 a o (s5 a o (s4.ff a o ((λa o z=>e1.ff a o (s1.ff a o z)) a o z)))) k5
 .rw[AM hn]at q;exact q.elim
end
end _f
namespace _a
theorem S8{w:W9}{A:U9}{s:S9}{l:Az}{x:Int}{u:Tok}
  (a:s.heap.get? l=some {cls:=.type "list",dict:=none,data:=.seq items k,slots:=#[]})
  (Y9 : -(2 ^ 63:Int)<=x) (Y_:x < 2 ^ 63) (hsz:items.size * x.toNat<=2 ^ 24)
  (h:Q (.ref s.heap.objs.size) {s with heap:=s.heap.push {cls:=.type "list",data:=.seq (foldl (λb c=>b++c) #[] (replicate (if items.isEmpty=true then 0 else x.toNat) items))}}) :
  wpAny (model prog w) A (binaryOp .Mult (.ref l) (.int x u)) Q E s:=
 wpAny_binaryOp_repeat_ref (by rfl) ⟨_,a,rfl⟩ (λs'=>typeIs_int s' x u) noFill_list_mul F.fills_int_mul F.slot_int_rmul repeat_list F.slot_int_index.lookup
  (FR F.slot_int_rmul (typeIs_int s x u) F.entry_int_rmul (F.args_int_rmul_2 _ _) (int___rmul___int_list x u l items k)
   ⟨a,rfl,⟨_,a,rfl⟩,FR F.slot_list_mul ⟨_,a,rfl⟩ F.entry_list_mul (F.args_list_mul_2 _ _)
    (AutoListH.list___mul___list_int_3 l items k x u (by simp[Builtin.List.listFitsIndex];ext) (by ext) (by simp[Builtin.List.listTooLong,sizeLine];ext))
    ⟨a,h⟩⟩)
def Px:R2:=λx y H Q=>∃ p vs i,x=.ref p/\y=.int i/\H p=some (.lst vs)/\vs≠[] /\ -(2 ^ 63:Int)<=i/\i < 2 ^ 63/\vs.length * i.toNat<=16777216/\∀ r,H r=none->Q (.ref r) (upd H r (.lst (replicate i.toNat vs).flatten))
theorem S7{X:Cx}:e_ X (binaryOp .Mult) Px:=by
 intro av s Z H v u x y Q I d f h
 obtain⟨p,vs,i,rfl,rfl,e,g,h1,h2,j,q⟩:=h
 cases d
 obtain⟨t,rfl⟩:=f
 obtain⟨z,a,n,r⟩:=((I.cj p _ e))
 have c:=r.1.length.symm
 refine S8 r.2 h1 h2 (by simp_all) ?_
 have b:a.toArray.isEmpty=false:=by
  ext
 rw[b,AM (by simp),(Mo a i.toNat [])]
 exact⟨.ref _,_,I.xj (_f.Nr r.1 _) (by rw[U6];have:sizeLine=16777216:=rfl;ext),rfl,q _ I.fresh⟩
end _a
namespace _f
def HD(xs:L9 Dz):Dz->R (L9 Dz)
 | .int i=>if xs≠[] /\ -(2 ^ 63:Int)<=i/\i < 2 ^ 63/\xs.length * i.toNat<=16777216 then .ok (replicate i.toNat xs).flatten else .bad
 | _=>.bad
def HC(f:Sg->R (L9 Dz))(g:Sg->R Dz):Sg->R (L9 Dz):=λY=>(f Y).bind λxs=>(g Y).bind λy=>HD xs y
section
variable{X:Cx}{c:Ct}{E:XK}{a b:Ez}{pos:Pos}
theorem S6{f:Sg->R (L9 Dz)}{fb:Sg->R Dz}(h:PN X c E a f)(hb:PR X c E b fb):PN X c E (.BinOp a .Mult b pos) (HC f fb):=PE.imp (Fd S7 h hb) λZ H Q ⟨Y,F,ab,k⟩=>by
 refine⟨Y,F,ab,(Rk.bind k).imp λxs _ q v j H1 s1 r1=>?_⟩
 obtain⟨p,vs,rfl,e1⟩:=r1
 refine⟨Y,j,ab.ext s1,((Rk.bind q).ext s1).imp λy _ q u g H2 d r2=>?_⟩
 cases y with
 | int i=>
  unfold HD at q
  dsimp only at q
  split at q
  .rename_i e
   obtain rfl:=aP.cA r2
   refine⟨p,vs,i,rfl,rfl,d.hh _ _ e1.2.1,λz=>e.1 ?_,e.2.1,e.2.2.1,by rw[e1.2.2.2.length];exact e.2.2.2,λr hr=>?_⟩
   .have:=e1.2.2.2.length
    rw[z]at this
    exact GH.mp this.symm
   .exact Rk.ok q _ g _ ((s1.trans d).trans (Ext.own d.fh hr)) ⟨r,_,rfl,aY (s1.trans d).hh hr,aI,aY d.fh hr,N9 (e1.2.2.2.same d.ff) _⟩
  .exact q.elim
 | _=>exact q.elim
end
end _f
namespace _e
open _f
def tU:Sg->R Fw:=(aM (vD (eC (.str "by"))))
def gO:L9 A->R A:=du 1 tU
def rW:Sg->R Fw:=(aM (vD (eC (.bool true))))
def j2:L9 A->R A:=du 1 rW
def rX:Sg->R Fw:=(aM (vD (bW (aC (eC (.str "by")) (aC (vv 0 ["LetBy","ShutOut"] "borders") aF)))))
def j3:L9 A->R A:=du 1 rX
def pX:Sg->R Fw:=(aM (vD (eC (.str "out"))))
def fB:L9 A->R A:=du 1 pX
def oQ:Sg->R Fw:=(aM (vD (eC (.bool true))))
def iP:L9 A->R A:=du 1 oQ
def oR:Sg->R Fw:=(aM (vD (bW (aC (eC (.str "out")) (aC (vv 0 ["LetBy","ShutOut"] "borders") aF)))))
def iQ:L9 A->R A:=du 1 oR
def pY:Sg->R Fw:=(aM (vD (eC (.str "ever"))))
def fC:L9 A->R A:=du 1 pY
def oS:Sg->R Fw:=(aM (vD (eC (.bool false))))
def iR:L9 A->R A:=du 1 oS
def oU:Sg->R Fw:=(aM (vD (bW (aC (eC (.str "ever")) (aC (vv 0 ["LetBy","ShutOut","ForEver"] "place") (aC (vv 0 ["LetBy","ShutOut","ForEver"] "room") (aC (vv 0 ["ForEver"] "first") (aC (vv 0 ["ForEver"] "again") aF))))))))
def iS:L9 A->R A:=du 1 oU
def tW:Sg->R Fw:=(aG (HE 2 (dN (e2 bN (e1 dn (rV 1)) (eC (.int 1)))) (e2 yn (eV 0) (o_ ia (rV 0) (qe (eC (.int 1))) qf)) (u6 [(stN 3),(stN 4)]) (e2 (d2 nL) (e2 b_ (rV 3) (eC (.int 0))) (e2 b_ (rV 4) (eC (.int 0)))) (e2 b_ (rV 4) (eC (.int 1))))
 (aM (vD (e1 ew (eL (cJ [none] (e1 bA (rV 2)) (stN 0) dS (e1 ew (rV 0))))))))
def jD:L9 A->R A:=du 5 tW
def Ia:Sg->R Fw:=(aG (aV 2 (aK 2 mB (aC (vV 0) (aC (vV 1) aF))))
 (aG (aV 3 (vD (e2 b_ (rV 2) (e1 hW (eC (.int 1))))))
 (aG (aV 4 (vD (e2 b_ (eA (aK 3 l9 (aC (vV 0) (aC (vV 1) (aC (vV 3) aF))))) (eC (.int 0)))))
 (aG (fu (e1 dg (e2 ey (rV 4) (eC (.str "by")))) (aM (rM "LetBy" ["place","room","borders"] (aC (e2 b_ (rV 3) (eC (.int 0))) (aC (e2 b_ (rV 3) (eC (.int 1))) (aC (eA (aK 2 jD (aC (vV 2) (aC (vV 1) aF)))) aF))))) gb)
 (aG (fu (e1 dg (e2 ey (rV 4) (eC (.str "out")))) (aM (rM "ShutOut" ["place","room","borders"] (aC (e2 b_ (rV 3) (eC (.int 0))) (aC (e2 b_ (rV 3) (eC (.int 1))) (aC (eA (aK 2 jD (aC (vV 2) (aC (vV 1) aF)))) aF))))) gb)
 (aM (rM "ForEver" ["place","room","first","again"] (aC (e2 b_ (rV 3) (eC (.int 0))) (aC (e2 b_ (rV 3) (eC (.int 1))) (aC (Dr (rV 2) (rV 3)) (aC (e2 fj (e1 dn (rV 2)) (eC (.int 1))) aF)))))))))))
def jE:L9 A->R A:=du 5 Ia
end _e
namespace _a
structure kx(K:Frag)(mg:Str->Option V9)(x:Str)(st:Stmt)(ps:List Str)(iw:List V):Prop where
 ex:∃ f oc od dV kV doc pm an c_ ct zk ds,K.lookup f=some ⟨oc,od,.func (fnOf x x (bT st) (aT st) (aD st) dV kV doc pm an c_ ct),zk⟩/\codeIn K c_ x=true/\keepIn K (.ref f)=true /\
  cG K (fnOf x x (bT st) (aT st) (aD st) dV kV doc pm an c_ ct) ps []/\cG K (fnOf x x (bT st) (aT st) (aD st) dV kV doc pm an c_ ct) ps ds/\aX iw ds/\mg x=some (.ref f)
def zC(P:P9)(w:W9)(K:Frag)(mg:Str->O9 V9)(base:Hz)(CX:nr)(k:Nat)(x:Str)(ps:L9 Str)(iw:L9 V)(sp:Sp):Prop:=
 ∃ f fd ds,c5 P w K mg base CX k f fd ps sp/\cG K fd ps []/\cG K fd ps ds/\aX iw ds/\mg x=some (.ref f)/\keepIn K (.ref f)=true
section
variable{P:P9}{w:W9}{K:Frag}{mg:Str->O9 V9}{base:Hz}{x:Str}{st:Stmt}{N ps:L9 Str}{k:Nat}{sp:Sp}{iw:L9 V}
theorem zC.calls{CX:nr}(C:zC P w K mg base CX k x ps iw sp):Calls P w K mg base CX k x ps sp:=by
 obtain⟨f,fd,ds,F⟩:=C
 exact⟨f,fd,F.1,F.2.1,F.2.2.2.2.1,F.2.2.2.2.2⟩
theorem kx.xc(D:kx K mg x st ps iw)(S:cb N ps (aD st))(len:∀ vs H Q E,sp vs H Q E->vs.length=ps.length)
  (a:∀ (f:Az) (c_:V9) (A:U9) (outer:L9 Env) (s:S9) (H:Hp) (vs:L9 V) (Q:VK) (E:XK),cw k (A.deeper (envOfC x (aD st) s.heap.objs.size f c_))->sp vs H Q E->
   ∃ t,ix ((cR (d4 P w) P w K mg base N x (aD st) f c_ A outer s H E).mf E) (aT st) t/\t {nx:=λ_ H'=>Q .fg H',rt:=Q} (start N vs) H):zC P w K mg base (d4 P w) (k+1) x ps iw sp:=by
 obtain⟨f,e,od,i,kV,doc,pm,g,c_,ct,d,ds,b⟩:=D.ex
 refine⟨f,_,ds,Fc b.1 b.2.1 S len λA outer s H vs Q E hr c=>?_,b.2.2.2.1,b.2.2.2.2.1,b.2.2.2.2.2.1,b.2.2.2.2.2.2,b.2.2.1⟩
 obtain⟨t,h⟩:=a f c_ A outer s H vs Q E hr c
 exact⟨t,h.1.rb λ_ _ z=>sH z,h.2⟩
end
end _a
namespace _f
abbrev D3:=Dz×Dz×L9 Dz
def J3(f:Sg->R Fw)(g:Sg->R D3):Sg->R D3:=λY=>(f Y).bind λw=>match w with
 | .nx Y'=>g Y'
 | _=>.bad
def Ht(f g:Sg->R Dz)(h:Sg->R (L9 Dz)):Sg->R D3:=λY=>(f Y).bind λx=>(g Y).bind λy=>(h Y).bind λz=>.ok (x,y,z)
def LZ(P:P9)(w:W9)(K:Frag)(mg:Str->O9 V9)(base:Hz)(T:Hp)(k:Nat)(x:Str)(ps:L9 Str)(iw:L9 V)(G:L9 A->R A):Prop:=zC P w K mg base (d4 P w) k x ps iw (nh (g6 P w K mg base T) K mg ps.length G)
theorem VY{P:P9}{w:W9}{K:Frag}{mg:Str->O9 V9}{base:Hz}{T:Hp}{x:Str}{st:Stmt}{N ps:L9 Str}{iw:L9 V}{k:Nat}{fb:Sg->R Fw}(D:kx K mg x st ps iw)(S:cb N ps (aD st))
  (a:∀ (f:Az) (c_:V9) (A:U9) (outer:L9 Env) (s:S9) (H F:Hp) (E:XK),cw k (A.deeper (envOfC x (aD st) s.heap.objs.size f c_))->
   gc ((cR (d4 P w) P w K mg base N x (aD st) f c_ A outer s H E).mf E) ⟨K,mg,w,F,H,g6 P w K mg base T,(envOfC x (aD st) s.heap.objs.size f c_).cells,λ_=>none⟩ E (aT st) fb):LZ P w K mg base T (k+1) x ps iw (du N.length fb):=by
 refine D.xc S (λvs H Q E h=>?_) (λf c_ A outer s H vs Q E hr h=>?_)
 .obtain ⟨F,c,h2⟩:=h
  rw[h2.2.2.1.len,h2.2.2.2.1]
 .obtain ⟨F,c,b⟩:=h
  exact⟨_,a f c_ A outer s H F E hr,mY b.1 b.2.1 b.2.2.1 b.2.2.2.2⟩
end _f
variable{o:V9}{ps:L9 Str}
namespace _e
section
variable{K:Frag}{h:Hz}{mg:Str->O9 V9}
theorem rp{Td:Az}{g:O9 Az}{i sl:Array (O9 V9)}{kV e:V9}{z:Str}{t:Nat}(X:K.In h)(G:h.Ns mainGlobals mg)
  (a:nsIn K mainGlobals x=some (some (.ref f))) (l:K.lookup f=some ⟨o,od,.func (fnOf x x (bT st) (aT st) (aD st) (.ref Td) kV doc pm g e ct),i⟩)
  (d:K.lookup Td=some ⟨.type "tuple",none,.seq #[.str z t] n,sl⟩)
  (c:codeIn K e x=true) (k:keepIn K (.ref f)=true)
  (b:∀ (Td:Az) (kV doc pm:V9) (g:O9 Az) (e ct u:V9) (us:L9 V9),us.length=ps.length->∃ q,bindArgs (fnOf x x (bT st) (aT st) (aD st) (.ref Td) kV doc pm g e ct) ⟨us,[]⟩=seqItems? (.ref Td) >>= q/\q (some #[u])=pure (ps.zip us))
  (b2:∀ (Td:Az) (kV doc pm:V9) (g:O9 Az) (e ct u:V9) (us:L9 V9),us.length+1=ps.length->∃ q,bindArgs (fnOf x x (bT st) (aT st) (aD st) (.ref Td) kV doc pm g e ct) ⟨us,[]⟩=seqItems? (.ref Td) >>= q/\q (some #[u])=pure (ps.zip (us++[u]))):kx K mg x st ps [.str z]:=by
 refine⟨f,o,od,.ref Td,kV,doc,pm,g,e,ct,i,[.str z t],l,c,k,λs us m j=>?_,λs us m j=>?_,.cons ⟨_,rfl⟩ .nil,BP X G a⟩
 .rw[CO]at j ⊢
  obtain⟨q,e1⟩:=b Td kV doc pm g e ct _ us j
  exact binds_K m rfl d rfl e1.1 e1.2
 obtain⟨q,e1⟩:=b2 Td kV doc pm g e ct _ us (by simpa using j)
 exact binds_K m rfl d rfl e1.1 e1.2
end
end _e
namespace _f
end _f
namespace _a
theorem QS{fs ex:L9 Az}{c:Cv}{d H1:Hp}{h h':Hz}(un:Un fs ex d H1 h h')(a:∀ b∈cN c,H1 b=none)(f:∀ b∈cN c,h.objs.size<=b):Un fs ex d (lg c H1) h h':=
 ⟨un.keep,un.slot,λb o e n h2=>by
  rw[dC λz=>absurd (AX (AE e) (f b z)) (B4 _)];exact un.free b o e n h2,un.there,λb xs q=>dR a _ _ (un.ib b xs q),λb o u q=>dR a _ _ (un.hB b o u q),λb ps q=>dR a _ _ (un.gx b ps q)⟩
theorem QR{CX:nr}{w:W9}{base:Hz}{name:Str}{params:Arguments}{e:Ez}{O kV Z:V9}{M:O9 Az}
  {C:Array (O9 V9)}  {sp:Sp} {i:Nat} {js:L9 Nat} (lk:K.lookup f=some ⟨Z,od,.func (fnOf name qual params [st,.Return (some e) p] scope O kV doc pm M a ct),C⟩) (D:codeIn K a qual=true) (S:cb N ps scope)
  (len:∀ vs H Q E,sp vs H Q E->vs.length=ps.length)
  (d:∀ (A:U9) (outer:L9 Env) (s:S9) (H:Hp) (vs:L9 V) (Q:VK) (E:XK),cw k (A.deeper (envOfC qual scope s.heap.objs.size f a))->sp vs H Q E->
   PE (cR CX P w K mg base N qual scope f a A outer s H E) e (bU i)/\∃ t,PS (cR CX P w K mg base N qual scope f a A outer s H E) st t/\t {nx:=λl H1=>∃ v,l[i]? = some (some v)/\(∀ j∈js,wU (cR CX P w K mg base N qual scope f a A outer s H E) l j)/\∀ B,ka (cR CX P w K mg base N qual scope f a A outer s H E) l H1 js B->Q v (lg B H1),rt:=λ_ _=>False} (start N vs) H) :
  c5 P w K mg base CX (k+1) f (fnOf name qual params [st,.Return (some e) p] scope O kV doc pm M a ct) ps sp:=by
 refine⟨len,λA outer s H args us vs Q E hr e0 G r h=>?_⟩
 have KX:=e0.mod.jy.keeps λb o e=>(e0.bs b o e).1
 have g:∀ y∈ps.zip us,scope.names.lookup y.1=some .local\/(scope.names.lookup y.1=some .cell/\((cellsFrom (s.heap.objs.size+1) scope.names []).lookup y.1).isSome=true):=λn U=>by
  rcases S.par n.1 (EI U).1 with q|q
  .exact .inl q
  .exact .inr ⟨q,ER _ _ _ (.inl q)⟩
 refine EW hr.depth (KX _ _ lk) rfl S.co S.gen rfl (codeRec_of KX D) (G _ _ _ _ ?_)
 refine FG S.kind g λenv F s1 x=>?_
 subst F
 refine⟨(e0.mod.nolimit.keeps λb o e=>(e0.bs b o e).1).keeps x.toInCall.keep,codeAny_func ?_⟩
 obtain⟨F,t,L⟩:=d A outer s H vs Q E (hr.deeper _) h
 refine EA (BI (L.1 [] s1 _ H _ (Oi S hr.hd e0 (len _ _ _ _ h) r x) L.2) (λX s' c=>?_) λe s' c=>c)
 cases X with
 | next=>
  obtain⟨l,H1,T,v,I⟩:=c
  refine EA (wpAny_Return_some (BI (F [] s' l H1 (λJ H'=>J=v/\H'=H1) T ⟨v,I.1,rfl,rfl⟩) (λu s2 c=>?_) λe s' c=>c))
  obtain⟨J,H',m,Y,e1,e2⟩:=c
  subst e1 e2
  obtain⟨B,R⟩:=IA m js I.2.1
  refine⟨J,lg B H',m.os,m.bare,QS m.base R.1.free λb G=>?_,(MB m R.1 R.2).cj,Y,I.2.2 B R.1⟩
  obtain⟨⟨o,v⟩,z⟩:=gK.mp G
  exact(R.2 b o v z).2.1
 | ret u=>
  obtain⟨_,q⟩:=c
  simp_all
 | brk=>
  obtain⟨_,q⟩:=c
  simp_all
 | cont=>
  obtain⟨_,q⟩:=c
  simp_all
end _a
namespace _f
theorem S5{c:Cv}{g f F H:Hp}(d:∀ b∈cN c,H b=none)(e:Ext g f F H):Ext g f (lg c F) (lg c H):=by
 refine⟨λb o q=>dR d _ _ (e.hh b o q),λb o q=>dR (λb a=>aY e.fh (d b a)) _ _ (e.ff b o q),Nm e.fh,λb q n=>?_⟩
 by_cases a:b∈cN c
 · exact .inl (aY e.hh (d b a))
 · rw [dC a]at n; exact e.nw b q n
def G4(m:Nat)(sl:L9 Nat)(k n:Nat)(Gm:L9 A->L9 Dz->R Dz):L9 A->R A:=λas=>match eB sl (as.map some++replicate (m - as.length) none)with
 | some fv=>.ok (.g k n (Gm fv))
 | none=>.bad
section
variable{P:P9}{w:W9}{K:Frag}{mg:Str->O9 V9}{base:Hz}{T:Hp}
theorem S4{x:Str}{st d1:Stmt}{e:Ez}{p:Pos}{N ps:L9 Str}{k W n i:Nat}{q:Str}{qs:L9 (Pos×Str)}{cls:Str->O9 ej}{G:ej}{fr:L9 Str}{sl:L9 Nat}{Gm:L9 A->L9 Dz->R Dz}(D:jc K mg base T qs x st ps)(S:cb N ps (aD st))(hb:aT st=[d1,.Return (some e) p])
  (hS:cls q=some G) (M:ir P w K mg base T G fr W n Gm) (h1:∀ y,(y,NameKind.free)∈G.scope.names->y∈fr) (h2:∀ y∈fr,(y,NameKind.free)∈G.scope.names) (h3:sl.map (λj=>N[j]?)=fr.map some) (hi:∀ j∈sl,j≠i) (ac:i < N.length) (ad:ps.length<=i)
  (O:∀ j∈sl,∃ y,N[j]? = some y/\(aD st).names.lookup y=some .cell)
  (c:∀ (f c0 P0:Az) (A:U9) (outer:L9 Env) (s:S9) (H F:Hp) (E:XK),Tb mg base c0 P0->T P0=some (.lW qs)->cw k (A.deeper (envOfC x (aD st) s.heap.objs.size f (.ref c0)))->
   PE (cR (d4 P w) P w K mg base N x (aD st) f (.ref c0) A outer s H E) e (bU i)/\gp (cR (d4 P w) P w K mg base N x (aD st) f (.ref c0) A outer s H E) ⟨K,mg,w,F,H,g6 P w K mg base T,(envOfC x (aD st) s.heap.objs.size f (.ref c0)).cells,cls⟩ E d1 (yR i q)):cE P w K mg base T (k+1) x ps (G4 N.length sl W n Gm):=by
 obtain⟨f,oc,od,kV,doc,pm,an,c0,ct,aa,P0,Y,I,kp,b,m⟩:=D.ex
 rw[hb]at Y b
 refine⟨f,_,QR (i:=i) (js:=sl) Y I S (λvs H Q E h=>?_) (λA outer s H vs Q E hr h=>?_),b,m.1,kp⟩
 .obtain ⟨F,o,h2⟩:=h
  rw[h2.2.2.1.len,h2.2.2.2.1]
 .obtain ⟨F,o,g0,g1,g2,g3,t⟩:=h
  refine⟨(c f c0 P0 A outer s H F E m.2.1 m.2.2 hr).1,_,(c f c0 P0 A outer s H F E m.2.1 m.2.2 hr).2,?_⟩
  refine⟨_,F,(w6 (cells:=(envOfC x (aD st) s.heap.objs.size f (.ref c0)).cells) (cls:=cls) (w:=w) (n:=N.length) g0 g1 g2),?_⟩
  unfold G4 at t
  cases C:eB sl _ with
  | none=>rw[C]at t;exact t.elim
  | some fv=>
   rw[C]at t
   intro Z' F' H' s' d
   have u:(o.map some++replicate (N.length - o.length) none).length=N.length:=by ext
   obtain⟨v,U,hA⟩:=d.slot i _ (BV (by rw[u];ext))
   have g:∀ js:L9 Nat,(∀ j∈js,j≠i)->eB js ((o.map some++replicate (N.length - o.length) none).set i (some (.k q)))=eB js (o.map some++replicate _ none):=λjs l=>by
    induction js with
    | nil=>rfl
    | cons j js ih=>
     unfold eB
     rw[A1 (BD (l j A5)),ih λj h=>l j (AU _ h)]
   refine⟨v,U,λj l=>?_,λZ R=>?_⟩
   .obtain ⟨y,V⟩:=O j l
    obtain⟨a,ha⟩:=xD ((g sl hi).trans C) j l
    obtain⟨v,U⟩:=d.slot j a ha
    exact⟨y,v,V.1,V.2,rfl,U.1⟩
   .obtain ⟨S',f1,cl,r,L,cc,J,B,z⟩:=hA
    have B:cls q=some S':=B
    rw[hS]at B;cases B
    refine t v (lg Z F') (lg Z H') (S5 R.free d.all) ?_
    exact NM (X:=cR (d4 P w) P w K mg base N x (aD st) f (.ref c0) A outer s H E) rfl rfl rfl rfl d R (⟨f1,cl,r,L,cc,J,z⟩) M h1 h2 h3 (λj l=>l) ((g sl hi).trans C)
end
end _f
namespace _e
open _f
def xa:Sg->R Bool:=(e1 dg (mH true 3 (eV 1)))
def zg:Sg->R Fw:=(aG (lT 3 (eV 1) (yV 3))
 (aV 1 (aK 3 dF (aC (vV 0) (aC (vV 1) (aC (vV 2) aF))))))
def Cb:Sg->R Fw:=(aM (vD (bW (aC (eL (zB 3)) (aC (uU 3 (eV 1)) aF)))))
def pZ:Sg->R Fw:=(aG (mQ 3) (aG (bF xa zg) Cb))
def gP:L9 A->R A:=du 4 pZ
def zq:Sg->R Bool:=(e1 dg (e2 ou (eL (e2 tD (o_ ia (rV 0) (qe (rV 1)) qf) (o_ ia (rV 0) qf (qe (rV 1))))) (rV 0)))
def zr:Sg->R Fw:=(Dx 1 uT (eC (.int 1)))
def oV:Sg->R Fw:=(aG (aV 1 (vD (eC (.int 1)))) (aG (bF zq zr) (aM (vV 1))))
def fY:L9 A->R A:=du 2 oV
def Ag:Sg->R Fw:=(oJ (aK 2 bQ (aC (vV 0) (aC (vV 4) aF))))
def Af:Sg->R Bool:=(nI (e1 dg (e2 qg (rV 8) (eC (.int 0)))) (e1 dg (e2 ey (e2 b_ (rV 7) (e2 fj (rV 8) (eC (.int 1)))) (e2 b_ (rV 7) (e2 bN (e2 fj (rV 8) (eC (.int 1))) (rV 9))))))
def Ah:Sg->R Fw:=(Dx 8 fj (eC (.int 1)))
def Di:Sg->R Fw:=(aM (vD (bW (aC (eV 8) (aC (eV 9) (aC (o_ ia (rV 7) qf (qe (e2 bN (rV 8) (rV 9)))) aF))))))
def iT:Sg->R Fw:=(aG (j5 (e1 bA (bW (aC (eV 1) (aC (eV 2) (aC (eV 3) aF))))) (stN 4) Ag)
 (aG (aV 5 (aK 1 gQ (aC (vV 0) aF)))
 (aG (aV 6 (aK 3 gP (aC (vV 5) (aC (aK 3 dF (aC (vV 5) (aC (vD (eC (.int 0))) (aC (vV 1) aF)))) (aC (vV 2) aF)))))
 (aG (dX 7 (cJ [none,some 5,some 3] (e1 bA (e2 b_ (rV 6) (eC (.int 0)))) (stN 0) dS (e2 b_ (e2 b_ (rV 1) (eC (.int 1))) (eA (aK 3 dF (aC (vV 1) (aC (vV 0) (aC (vV 2) aF))))))))
 (aG (aV 8 (vD (e2 b_ (rV 6) (eC (.int 1)))))
 (aG (aV 9 (aK 1 fY (aC (vD (o_ ia (rV 7) (qe (rV 8)) qf)) aF)))
 (aG (bF Af Ah) Di)))))))
def b9:L9 A->R A:=du 10 iT
end _e
namespace _e
variable{rs:L9 Rw}
section
variable{S T O Q:Type}
variable{st:S->O9 (S⊕O)}{sub:S->O9 (S⊕Q)}{ext:Q->T⊕O}{g:T->S}{ent:T->S⊕O}{Dom:S->Prop}{TV:T->Prop}
theorem mS{st:S->O9 (S⊕O)}{s:S}{o:O}(h:Ex st n s o):bM st s=some o:=((n9 st s) o).mpr ⟨n,h⟩
theorem eN{st:S->O9 (S⊕O)}{s:S}{o:O}(h:bM st s=some o):∃ n,Ex st n s o:=((n9 st s) o).mp h
end
theorem Mz{T O P:Type}{st:S->O9 (S⊕O)}{st2:T->O9 (T⊕P)}{e:S->T}{k:O->P}{ev:P}{Dom:S->Prop}
  (h:∀ s,Dom s->(∃ s',st s=some (.inl s')/\st2 (e s)=some (.inl (e s'))/\Dom s')\/∃ o,st s=some (.inr o)/\(bM st2 (e s)).getD ev=k o) {s:S} (d:Dom s) :
  (bM st2 (e s)).getD ev=((bM st s).map k).getD ev:=by
 cases hr:bM st s with
 | some o=>
  obtain⟨n,c⟩:=eN hr
  clear hr
  induction c with
  | out q=>
   ext
  | go q t ih=>
   rcases h _ d with ⟨s',a,b,f⟩|⟨o',a,b⟩
   .rw[a]at q;cases q;rw[qO b];exact ih f
   ext
 | none=>
  cases h2:bM st2 _ with
  | none=>rfl
  | some p=>
   obtain⟨n,c⟩:=eN h2
   clear h2
   generalize g:e s=t at c
   exfalso
   induction c generalizing s with
   | out q=>
    subst g
    rcases h _ d with ⟨s',a,b,_⟩|⟨o',a,b⟩
    · ext
    · rw [iX a]at hr; ext
   | go q t ih=>
    subst g
    rcases h _ d with ⟨s',a,b,f⟩|⟨o',a,b⟩
    · rw [b]at q; cases q; rw [qO a]at hr; exact ih f hr rfl
    · rw [iX a]at hr; ext
def fZ:Str:="ever"
def cD(rs:L9 Rw)(z:L9 Nat)(s:Int×Int):O9 ((Int×Int)⊕Tn):=
 match (aQ rs z s).1 with
 | .w x=>some (.inr (.w x))
 | .n q=>if s.1+(aQ rs z s).2<=(z.length:Int)then some (.inl (s.1+(aQ rs z s).2,q))else some (.inr (.n q))
def kX(rs:L9 Rw)(z:L9 Nat)(s:Int×Int):Prop:=0<=s.1/\s.1<=(z.length:Int)/\0<=s.2/\s.2 < (rs.length:Int)
def cH(rs:L9 Rw)(q:Int):Prop:=0<=q/\q < (rs.length:Int)
theorem kX.valid(h:kX rs z s):fK rs z s:=⟨h.1,by have:=h.2.1;ext,h.2.2⟩
def dU(rs:L9 Rw)(z:L9 Nat)(s:Int×Int):Tn:=(bM (cD rs z) s).getD (.w fZ)
def b8(rs:L9 Rw)(z:L9 Nat)(q:Int):Tn:=dU rs z ((z.length:Int),q)
theorem tX(h0:0<=s.1)(h:s.1<=(z.length:Int)):aQ rs (z++[c]) s=aQ rs z s:=by
 unfold aQ
 ext
theorem dw(M:cg rs sg)(S:aN sg z)(V:kX rs z s):(∃ x,(aQ rs z s).1=.w x/\s.1=0)\/∃ q,(aQ rs z s).1=.n q/\cH rs q/\0<=s.1+(aQ rs z s).2/\s.1+(aQ rs z s).2<=(z.length:Int)+1:=by
 cases e:(aQ rs z s).1 with
 | w x=>
  refine .inl ⟨x,rfl,?_⟩
  by_cases b:s.1=0
  .omega
  .unfold aQ at e
   rw[AM b,AM (by have:=V.2.1;ext)]at e
   ext
 | n q=>
  have a:=qN M S V.valid (by unfold bZ;rw[e])
  exact .inr ⟨q,rfl,⟨a.2.2.1,a.2.2.2⟩,a.1,a.2.1⟩
theorem NY:aQ rs (z++[c]) ((z.length:Int)+1,q)=(.n ((aZ rs q).c.getD (c - 97) (0,0)).1,((aZ rs q).c.getD (c - 97) (0,0)).2):=by
 unfold aQ
 have e:(z++[c]).getD (((z.length:Int)+1).toNat - 1) 97=c:=by
  simp
 rw[AM (by ext),AM (by ext)]
 rw[e]
def kY(rs:L9 Rw)(bk:Int->Tn)(c:Nat)(q:Int):O9 (Int⊕Tn):=
 if ((aZ rs q).c.getD (c - 97) (0,0)).2=1 then some (.inr (.n ((aZ rs q).c.getD (c - 97) (0,0)).1))else match bk ((aZ rs q).c.getD (c - 97) (0,0)).1 with
  | .n r=>some (.inl r)
  | .w x=>some (.inr (.w x))
def vb(rs:L9 Rw)(bk:Int->Tn)(c:Nat)(t:Tn):Tn:=match t with
 | .w x=>.w x
 | .n q=>(bM (kY rs bk c) q).getD (.w fZ)
theorem rO(M:cg rs sg)(z:L9 Nat):kX rs z (0,0):=⟨DQ _,by simp,DQ _,by have:=M.len;show(0:Int) < rs.length;ext⟩
def jF(rs:L9 Rw)(bk:Int->Tn)(q:Int):O9 (Int⊕Str):=match (aZ rs q).r with
 | .w x=>some (.inr x)
 | .n q'=>match bk q' with
  | .n r=>some (.inl r)
  | .w x=>some (.inr x)
def y_(rs:L9 Rw)(bk:Int->Tn)(t:Tn):Str:=match t with
 | .w x=>x
 | .n q=>(bM (jF rs bk) q).getD fZ
theorem WG:aQ rs z ((z.length:Int)+1,q)=((aZ rs q).r,-1):=by
 unfold aQ
 ext
theorem My:dU rs [] (0,q)=(aZ rs q).l:=by
 have a:aQ rs [] (0,q)=((aZ rs q).l,1):=by rfl
 unfold dU
 cases e:(aZ rs q).l with
 | w x=>rw[iX (by unfold cD;rw[a,e])];rfl
 | n q'=>
  rw[iX (by unfold cD;rw[a,e];rfl)];rfl
section
variable{S T O P:Type}{st:S->O9 (S⊕O)}{st2:T->O9 (T⊕P)}{e:S->T}{Dom:S->Prop}
theorem Hj(h:∀ s s',Dom s->st s=some (.inl s')->st2 (e s)=some (.inl (e s'))/\Dom s'){s:S}{t:O}(d:Dom s)(x:Ex st k s t):∃ s',Rc st2 k (e s) (e s')/\st s'=some (.inr t)/\Dom s':=by
 induction x with
 | out q=>exact⟨_,.nil,q,d⟩
 | go q _ ih=>
  obtain⟨s',r⟩:=ih (h _ _ d q).2
  exact⟨s',.cons (h _ _ d q).1 r.1,r.2⟩
theorem JA(h:∀ s s',Dom s->st s=some (.inl s')->st2 (e s)=some (.inl (e s'))/\Dom s')(b:∀ s,Dom s->st s≠none){o:P}:∀ {N:Nat} {s:S},Dom s->Ex st2 N (e s) o->∃ k s' t N',Ex st k s t/\st s'=some (.inr t)/\Dom s'/\N=N'+k/\Ex st2 N' (e s') o:=by
 intro N
 induction N with
 | zero=>
  intro s d x
  cases q:st s with
  | none=>simp_all
  | some v=>
   cases v with
   | inr t=>exact⟨0,s,t,0,.out q,q,d,rfl,x⟩
   | inl s1=>cases x with|out z=>simp_all
 | succ N ih=>
  intro s d x
  cases q:st s with
  | none=>simp_all
  | some v=>
   cases v with
   | inr t=>exact⟨0,s,t,_,.out q,q,d,rfl,x⟩
   | inl s1=>
    cases x with
    | go z y=>
     rw[(h s s1 d q).1]at z;cases z
     obtain⟨k,s',t,N',a⟩:=ih (h s s1 d q).2 y
     exact⟨k+1,s',t,N',.go q a.1,a.2.1,a.2.2.1,by ext,a.2.2.2.2⟩
theorem M7{s s':S}(r:Rc st k s s'):bM st s=bM st s':=by
 induction r with
 | nil=>rfl
 | cons h _ ih=>rw[qO h,ih]
end
section
variable{rs:L9 Rw}{sg:Nat}{z:L9 Nat}{O:Type}{st2:Int×Int->O9 ((Int×Int)⊕O)}{jmp:Int->O9 (Int⊕O)}{g:Int->Int×Int}{k:Str->O}
structure vh(rs:List Rw)(z:List Nat)(st2:Int×Int->Option ((Int×Int)⊕O))(jmp:Int->Option (Int⊕O))(g:Int->Int×Int)(k:Str->O):Prop where
 Aa:∀ s s',kX rs z s->cD rs z s=some (.inl s')->st2 (id s)=some (.inl (id s'))/\kX rs z s'
 De:∀ s q,kX rs z s->cD rs z s=some (.inr (.n q))->st2 s=some (.inl (g q))/\cH rs q
 G5:∀ s x,kX rs z s->cD rs z s=some (.inr (.w x))->st2 s=some (.inr (k x))
 G3:∀ q,cH rs q->(∃ o,st2 (g q)=some (.inr o)/\jmp q=some (.inr o))\/∃ q',kX rs z ((z.length:Int),q')/\st2 (g q)=some (.inl ((z.length:Int),q'))/\jmp q=match b8 rs z q' with
  | .n r=>some (.inl r)
  | .w x=>some (.inr (k x))
theorem M6(s:Int×Int):cD rs z s≠none:=by
 unfold cD
 split<;>ext
theorem vh.fwd(G:vh rs z st2 jmp g k){o:O}:∀ (N:Nat) {q:Int},cH rs q->Ex st2 N (g q) o->∃ j,Ex jmp j q o:=by
 intro N
 induction N using Nat.strongRecOn with
 | ind N ih=>
  intro q p h
  rcases G.G3 q p with ⟨o',a,b⟩|⟨m,V,a,b⟩
  .obtain ⟨_,rfl⟩:=h.det (.out a)
   exact⟨0,.out b⟩
  .cases h with
   | out h=>simp_all
   | go h y=>
    rw[a]at h;cases h
    obtain⟨B,s',t,A,l,d,i,C,f⟩:=JA G.Aa (λs _=>M6 s) V y
    have v:b8 rs z m=t:=by unfold b8 dU;rw[mS l];rfl
    rw[v]at b
    cases t with
    | w x=>exact⟨0,.out (by rw[b,(f.det (.out (G.G5 _ x i d))).2])⟩
    | n r=>
     obtain⟨e,c⟩:=G.De _ r i d
     cases f with
     | out h=>simp_all
     | go h y=>
      rw[show st2 (id s')=_ from e]at h;cases h
      obtain⟨j,u⟩:=ih _ (by ext) c y
      exact⟨_,.go b u⟩
theorem vh.bwd(G:vh rs z st2 jmp g k){o:O}(h:Ex jmp j q o)(i:cH rs q):o=k fZ\/∃ N,Ex st2 N (g q) o:=by
 induction h with
 | @out q o h=>
  rcases G.G3 q i with ⟨o',a,b⟩|⟨c,V,a,b⟩
  .rw[b]at h;cases h;exact .inr ⟨0,.out a⟩
  .rw[b]at h
   cases e:bM _ _ with
   | none=>
    rw[show b8 rs z c=.w fZ by unfold b8 dU;rw[e];rfl]at h
    simp_all
   | some t=>
    rw[show b8 rs z c=t by unfold b8 dU;rw[e];rfl]at h
    cases t with
    | n r=>cases h
    | w x=>
     cases h
     obtain⟨m,d⟩:=eN e
     obtain⟨s',r⟩:=Hj G.Aa V d
     exact .inr ⟨_,.go a (r.1.to (.out (G.G5 _ x r.2.2 r.2.1)))⟩
 | @go q q1 o n h _ ih=>
  rcases G.G3 q i with ⟨o',a,b⟩|⟨c,V,a,b⟩
  .grind
  .rw[b]at h
   cases e:bM _ _ with
   | none=>
    rw[show b8 rs z c=.w fZ by unfold b8 dU;rw[e];rfl]at h
    ext
   | some t=>
    rw[show b8 rs z c=t by unfold b8 dU;rw[e];rfl]at h
    cases t with
    | w x=>cases h
    | n r=>
     cases h
     obtain⟨m,d⟩:=eN e
     obtain⟨s',f⟩:=Hj G.Aa V d
     have e2:=G.De _ _ f.2.2 f.2.1
     exact(ih e2.2).imp id λN=>by obtain⟨N,l⟩:=N;exact⟨_,.go a (f.1.to (.go e2.1 l))⟩
theorem vh.eq(G:vh rs z st2 jmp g k)(b:cH rs q):(bM st2 (g q)).getD (k fZ)=(bM jmp q).getD (k fZ):=by
 cases e:bM st2 _ with
 | some o=>
  obtain⟨N,h⟩:=eN e
  obtain⟨j,a⟩:=G.fwd N b h
  rw[mS a]
 | none=>
  cases e2:bM jmp q with
  | none=>rfl
  | some o=>
   obtain⟨j,a⟩:=eN e2
   rcases G.bwd a b with h|⟨N,h⟩
   · rw [h]; rfl
   · rw [mS h]at e; ext
theorem vh.Cz(G:vh rs z st2 jmp g k)(V:kX rs z s):(bM st2 s).getD (k fZ)=match dU rs z s with
  | .w x=>k x
  | .n q=>(bM jmp q).getD (k fZ):=by
 unfold dU
 cases e:bM (cD rs z) s with
 | none=>
  cases e2:bM st2 s with
  | none=>rfl
  | some o=>
   obtain⟨N,h⟩:=eN e2
   obtain⟨b,s',t,c,a⟩:=JA G.Aa (λs _=>M6 s) V h
   rw[mS a.1]at e;ext
 | some t=>
  obtain⟨b,a⟩:=eN e
  obtain⟨s',r⟩:=Hj G.Aa V a
  cases t with
  | w x=>
   rw[show bM st2 s=_ from(M7 r.1),iX (s:=id s') (G.G5 _ x r.2.2 r.2.1)];rfl
  | n q=>
   rw[show bM st2 s=_ from(M7 r.1),qO (s:=id s') (G.De _ q r.2.2 r.2.1).1,G.eq (G.De _ q r.2.2 r.2.1).2];rfl
variable{c:Nat}
theorem K2(M:cg rs sg)(S:aN sg z)(g:bK sg c=true):vh rs z (cD rs (z++[c])) (kY rs (b8 rs z) c) (λq=>((z.length:Int)+1,q)) Tn.w:=by
 have d:((z++[c]).length)=(z.length:Int)+1:=by simp
 refine⟨λs s' V h=>?_,λs q V h=>?_,λs x V h=>?_,λq b=>?_⟩
 .rcases dw M S V with ⟨x,e,_⟩|⟨q,e,b,h1,h2⟩
  .unfold cD at h;simp_all
  .unfold cD at h;rw[e]at h
   simp at h
   split at h
   .rename_i j
    cases h
    refine⟨?_,h1,j,b⟩
    show cD rs _ s=_
    unfold cD;rw[tX V.1 V.2.1];simp_all
   simp_all
 .rcases dw M S V with ⟨x,e,_⟩|⟨k,e,b,h1,h2⟩
  .unfold cD at h;simp_all
  .unfold cD at h;rw[e]at h
   simp at h
   split at h
   .cases h
   .cases h
    refine⟨?_,b⟩
    unfold cD;rw[tX V.1 V.2.1,e];simp only;rw[AI (by rw[d];ext),show s.1+(aQ rs z s).2=z.length+1 by ext]
 .unfold cD at h ⊢
  rw[tX V.1 V.2.1]
  split at h
  .omega
  .split at h<;>cases h
 .obtain ⟨_,i,f,a⟩:=mZ M (AD (cK b.1 b.2)) (show c - 97 < sg by have:=BH g;ext)
  rcases a with a|a
  .refine .inl ⟨.n _,?_,AI a⟩
   unfold cD;rw[NY];simp only;rw[AM (by rw[d,a];ext)]
  .refine .inr ⟨_,⟨by show(0:Int)<=z.length;ext,DQ _,i,f⟩,?_,AM (by rw[a];decide)⟩
   unfold cD;rw[NY];simp only;rw[AI (by rw[d,a];ext),a,show(z.length:Int)+1 + -1=z.length by ext]
theorem QQ(M:cg rs sg)(S:aN sg z):vh rs z (fW rs z) (jF rs (b8 rs z)) (λq=>((z.length:Int)+1,q)) id:=by
 refine⟨λs s' V h=>?_,λs q V h=>?_,λs x V h=>?_,λq a=>?_⟩
 .rcases dw M S V with ⟨x,e,_⟩|⟨q,e,a,h1,h2⟩
  .unfold cD at h;simp_all
  .unfold cD at h;rw[e]at h
   simp at h
   split at h
   .rename_i c
    cases h
    refine⟨?_,h1,c,a⟩
    unfold fW;simp_all
   simp_all
 .rcases dw M S V with ⟨x,e,_⟩|⟨d,e,a,h1,h2⟩
  .unfold cD at h;simp_all
  .unfold cD at h;rw[e]at h
   simp at h
   split at h
   .cases h
   .cases h
    refine⟨?_,a⟩
    unfold fW;rw[e];ext
 .unfold cD at h;unfold fW
  split at h
  .simp_all
  .split at h<;>cases h
 .have b:=(M.row _ (AD (cK a.1 a.2))).1.2.1
  unfold jF fW
  rw[WG]
  cases e:(aZ rs q).r with
  | w x=>exact .inl ⟨x,rfl,rfl⟩
  | n q'=>
   rw[e]at b
   refine .inr ⟨q',⟨by simp,DQ _,b.1,b.2⟩,?_,rfl⟩
   ext
theorem S3(M:cg rs sg)(S:aN sg z)(b:bK sg c=true)(a:cH rs q):b8 rs (z++[c]) q=vb rs (b8 rs z) c (.n q):=by
 conv=>lhs;unfold b8 dU
 rw[show((z++[c]).length)=z.length+1 by simp]
 exact(K2 M S b).eq a
theorem S0(M:cg rs sg)(S:aN sg z)(a:bK sg c=true):dU rs (z++[c]) (0,0)=vb rs (b8 rs z) c (dU rs z (0,0)):=by
 refine((K2 M S a).Cz (rO M z)).trans ?_
 rfl
theorem SY(M:cg rs sg)(S:aN sg z):(bM (fW rs z) (0,0)).getD fZ=y_ rs (b8 rs z) (dU rs z (0,0)):=by
 refine((QQ M S).Cz (rO M z)).trans ?_
 rfl
end
end _e
variable{N:Nat}{x x0:Dz}{ps:L9 Int}{gs:L9 Dz}
namespace _e
open _f
variable{rs:L9 Rw}
def iM(f:Tn)(bk:L9 Tn):Dz:=.tuple [f.d,.tuple (bk.map Tn.d)]
def mu(bk:L9 Tn)(q:Int):Tn:=bk.getD q.toNat (.w fZ)
def pb(m:Nat):Tn->Prop
 | .n i=>0<=i/\i < (m:Int)
 | .w _=>True
theorem jP(a b:Int)(h:PyData.int a=PyData.int b):a=b:=by ext
theorem jQ(ps:L9 Int)(q:Int):cZ (.int q) ((ef PyData.int ps).map (·.1))=true:=by
 unfold cZ
 rw[tQ,D5]
 refine .inr ?_
 rw[show wV _=true from rfl,GY,B7]
 intro x a
 obtain⟨i,_,rfl⟩:=BG.mp a
 rfl
theorem SX(i:Int):kI [.d (.int i)]=.ok (.d (.bool false)):=by
 rfl
theorem SW(x:Str):kI [.d (.str x)]=.ok (.d (.bool true)):=by
 rfl
def eD(rs:L9 Rw)(k:Nat):Dz:=.list (rs.map λr=>dr (ck k r))
theorem M5{k:Nat}(h0:0<=q)(h1:q < (rs.length:Int)):b_ (eD rs k) (.int q)=.ok (dr (ck k (aZ rs q))):=jY (jL h0 (by rw[AZ,cK h0 h1];rfl))
theorem J9{bk:L9 Tn}(h0:0<=q)(h1:q < (bk.length:Int)):b_ (.tuple (bk.map Tn.d)) (.int q)=.ok (mu bk q).d:=by
 refine g7 (jL h0 ?_)
 rw[AZ]
 unfold mu
 ext
theorem p5{bk:L9 Tn}(a:∀ t∈bk,pb m t)(q:Int):pb m (mu bk q):=by
 unfold mu
 rw[BO]
 cases e:bk[q.toNat]? with
 | none=>exact trivial
 | some t=>exact a t (AD e)
def oρ(rs:L9 Rw)(bk:L9 Tn)(k:Nat)(t:Tn)(ps:L9 Int)(u:O9 A):Sg:=[some (.d (.tuple (bk.map Tn.d))),some (.d (eD rs k)),some (.d t.d),some (.m (ef PyData.int ps)),u]
theorem Jz{bk:L9 Tn}{x:Str}{u:O9 A}:oT (oρ rs bk k (.w x) ps u)=.ok false:=by
 rfl
theorem Hi{bk:L9 Tn}{u:O9 A}:oT (oρ rs bk k (.n q) ps u)=.ok true:=by
 rfl
theorem QP{bk:L9 Tn}{u:O9 A}(h:q∈ps):oB (oρ rs bk k (.n q) ps u)=.ok (.rt (.d (.str "ever"))):=by
 simp[oB,oρ,Tn.d,(jQ ps q),((lI jP).mpr h)]
theorem QO{bk:L9 Tn}{u:O9 A}(h:q∉ps)(a:cH rs q)(e:ps.length<=16777216)(c:(ck k (aZ rs q)).2=1):oB (oρ rs bk k (.n q) ps u)=.ok (.rt (.d (.int (ck k (aZ rs q)).1))):=by
 have b:(ef PyData.int ps).length<=16777216:=by rw[g8];ext
 simp[oB,oρ,Tn.d,(jQ ps q),(gS jP h),b,(M5 (k:=k) a.1 a.2),dr,cY,c]
theorem Pw{bk:L9 Tn}{u:O9 A}(h:q∉ps)(a:cH rs q)(f:ps.length<=16777216)(e:(ck k (aZ rs q)).2≠1)(h0:0<=(ck k (aZ rs q)).1)(b:(ck k (aZ rs q)).1 < (bk.length:Int)):oB (oρ rs bk k (.n q) ps u)=.ok (.nx (oρ rs bk k (mu bk (ck k (aZ rs q)).1) (ps++[q]) (some (.d (dr (ck k (aZ rs q))))))):=by
 have c:(ef PyData.int ps).length<=16777216:=by rw[g8];ext
 simp[oB,oρ,Tn.d,(jQ ps q),(gS jP h),(lJ jP h),c,(M5 (k:=k) a.1 a.2),dr,cY,e,(J9 h0 b)]
theorem vC{l:L9 Int}(c:l.Nodup)(f:∀ q∈l,0<=q/\q < (m:Int)):l.length<=m:=
 lY (λq:Int=>q.toNat) m l c (λq g=>by simp_all) (λa d b h e=>by
  ext)
theorem Mx{bk:Int->Tn}:kY rs bk c q=if (ck (c - 97) (aZ rs q)).2=1 then some (.inr (.n (ck (c - 97) (aZ rs q)).1))else match bk (ck (c - 97) (aZ rs q)).1 with
 | .n r=>some (.inl r)
 | .w x=>some (.inr (.w x)):=id rfl
theorem SV{bk:L9 Tn}(M:cg rs sg)(k:bK sg c=true)(hb:bk.length=rs.length)(l:∀ t∈bk,pb rs.length t){g:Int}:∀ (n:Nat) (ps:L9 Int) (q:Int) (u:O9 A),gn (kY rs (mu bk) c) g ps q->(∀ p∈ps,cH rs p)->cH rs q->rs.length+1<=ps.length+n->
  aG (bF oT oB) (aM (vV 2)) (oρ rs bk (c - 97) (.n q) ps u)=.ok (.rt (.d ((bM (kY rs (mu bk) c) g).getD (.w fZ)).d)):=by
 intro n
 induction n with
 | zero=>
  intro ps q u U pv a j
  have:=vC U.nd pv
  ext
 | succ n ih=>
  intro ps q u U pv a j
  rw[aU]
  by_cases b:q∈ps
  .rw[kK Hi (QP b),U.met b];rfl
  .have m:=vC U.nd pv
   have f:ps.length<=16777216:=by have:=M.l_;ext
   have h:=(mZ M (AD (cK a.1 a.2)) (show c - 97 < sg by have:=BH k;ext)).2
   by_cases h1:(ck (c - 97) (aZ rs q)).2=1
   .rw[kK Hi (QO b a f h1),U.outs (AI h1)];rfl
   .rw[eX Hi (Pw b a f h1 h.1 (by rw[hb];exact h.2.1))]
    have i:=p5 l (ck (c - 97) (aZ rs q)).1
    cases e:mu bk _ with
    | w x=>
     rw[cC Jz,U.outs (by rw[Mx,AM h1,e])]
     rfl
    | n r=>
     rw[e]at i
     have:=ih _ r (some (.d (dr (ck (c - 97) (aZ rs q))))) (U.next b (by rw[Mx,AM h1,e])) (λp f=>by
      rcases BN.mp f with z|z
      · exact pv p z
      · rw [AS.mp z]; ext) i (by rw [AY, DJ]; ext)
     assumption
theorem Jy{bk:L9 Tn}(M:cg rs sg)(f:bK sg c=true)(hb:bk.length=rs.length)(e:∀ t∈bk,pb rs.length t){t:Tn}(b:pb rs.length t):kJ [.d (.tuple (bk.map Tn.d)),.d (eD rs (c - 97)),.d t.d]=.ok (.d (vb rs (mu bk) c t).d):=by
 have a:aG (bF oT oB) (aM (vV 2)) (oρ rs bk (c - 97) t [] none)=.ok (.rt (.d (vb rs (mu bk) c t).d)):=by
  cases t with
  | w x=>
   rw[aU,cC Jz]
   rfl
  | n q=>exact SV M f hb e (rs.length+1) [] q none gn.start (λp g=>by simp_all) b (by simp)
 unfold kJ
 rw[IC]
 simp only[cX,aU,rG,R.cf,AT,A9,AV,BF,A7,BC,replicate,A4,A3]
 rw[aU]at a
 simp only[oρ,ef,BF]at a
 rw[a];rfl
theorem Pu{bk:L9 Tn}(M:cg rs sg)(b:bK sg c=true)(hb:bk.length=rs.length)(a:∀ t∈bk,pb rs.length t){t:Tn}(f:pb rs.length t) :
  fJ [.d (iM t bk),.d (eD rs (c - 97))]=.ok (.d (iM (vb rs (mu bk) c t) ((range rs.length).map λq:Nat=>vb rs (mu bk) c (.n (q:Int))))):=by
 have h:=cL (fs:=stN 0) (fe:=eA (aK 3 kJ (aC (vD (e2 b_ (rV 1) (eC (.int 1)))) (aC (vV 2) (aC (vV 0) aF))))) (Y0:=[none,some (.d (iM t bk)),some (.d (eD rs (c - 97)))]) (d:=λi:Nat=>.int i) (g:=λi:Nat=>(vb rs (mu bk) c (.n i)).d) (xs:=range rs.length) λi hi=>by
  refine⟨_,rfl,?_⟩
  have:=Jy M b hb a (t:=.n i) ⟨by simp,by ext⟩
  have e:(Tn.n _).d=.int i:=rfl
  rw[e]at this
  simp[iM,this]
 have j:dn (eD rs (c - 97))=.ok (.int rs.length):=by unfold eD;simp
 have k:b_ (iM t bk) _=.ok t.d:=tP _ _
 have h2:b_ (iM t bk) _=.ok _:=Ie _ _ _
 unfold fJ Nf
 simp[k,h2,(Jy M b hb a f),j,(fV (n:=rs.length) (by have:=M.l_;ext)),eH,h]
 unfold iM
 rw[B1];rfl
def bH(rs:L9 Rw)(z:L9 Nat):Dz:=iM (dU rs z (0,0)) ((range rs.length).map λq:Nat=>b8 rs z (q:Int))
theorem lP(M:cg rs sg)(S:aN sg z)(V:kX rs z s):pb rs.length (dU rs z s):=by
 unfold dU
 cases e:bM _ s with
 | none=>exact trivial
 | some t=>
  obtain⟨n,h⟩:=eN e
  clear e
  induction h with
  | @out s o h=>
   unfold cD at h
   rcases dw M S V with ⟨x,e,b⟩|⟨q,e,a,h1,h2⟩
   .rw[e]at h;cases h;exact trivial
   .rw[e]at h
    simp at h
    split at h
    · cases h
    · cases h; exact a
  | @go s s' o n h t ih=>
   refine ih ?_
   unfold cD at h
   rcases dw M S V with ⟨x,e,b⟩|⟨q,e,a,h1,h2⟩
   .simp_all
   .rw[e]at h
    simp at h
    split at h
    · rename_i c; cases h; exact⟨h1, c, a⟩
    simp_all
theorem vE{q:Nat}(h:q < rs.length):kX rs z ((z.length:Int),(q:Int)):=⟨by simp,DQ _,by simp,by ext⟩
theorem IP(a:cH rs q):mu ((range rs.length).map λq:Nat=>b8 rs z (q:Int)) q=b8 rs z q:=by
 unfold mu
 rw[BO,AZ,E7 (by have:=a.1;have:=a.2;ext)]
 show b8 rs z _=_
 rw[show(q.toNat)=q by have:=a.1;ext]
theorem M4(M:cg rs sg)(i:bK sg c=true){bk a:Int->Tn}(h:∀ q,cH rs q->bk q=a q)(p:∀ q,cH rs q->pb rs.length (bk q)){t:Tn}(l:pb rs.length t):vb rs bk c t=vb rs a c t:=by
 cases t with
 | w x=>rfl
 | n q=>
  have st:∀ q,cH rs q->kY rs bk c q=kY rs a c q:=λq b=>by
   unfold kY
   have f:=mZ M (AD (cK b.1 b.2)) (show c - 97 < sg by have:=BH i;ext)
   rw[h _ ⟨f.2.1,f.2.2.1⟩]
  have nx:∀ q d,cH rs q->kY rs bk c q=some (.inl d)->cH rs d:=λq d b e=>by
   unfold kY at e
   have f:=mZ M (AD (cK b.1 b.2)) (show c - 97 < sg by have:=BH i;ext)
   have j:=p _ ⟨f.2.1,f.2.2.1⟩
   split at e
   .grind
   .split at e
    · rename_i r m; cases e; rw [m]at j; exact j
    · cases e
  have g:=Mz (st:=kY rs bk c) (st2:=kY rs a c) (e:=id) (k:=id) (ev:=.w fZ) (Dom:=cH rs) (λq b=>?_) l
  .exact (g.trans (by rw[Option.map_id];rfl)).symm
  .have e:=(st q b).symm
   cases e2:kY rs bk c q with
   | none=>unfold kY at e2;split at e2<;>(try split at e2)<;>cases e2
   | some x=>
    rw[e2]at e
    cases x with
    | inl d=>exact .inl ⟨d,rfl,e,nx q d b e2⟩
    | inr o=>exact .inr ⟨o,rfl,by rw[iX (s:=id q) e];rfl⟩
theorem xL(M:cg rs sg)(S:aN sg z)(b:bK sg c=true):fJ [.d (bH rs z),.d (eD rs (c - 97))]=.ok (.d (bH rs (z++[c]))):=by
 have e:∀ t∈(range rs.length).map λq:Nat=>b8 rs z q,pb rs.length t:=λt g=>by
  obtain⟨q,f,rfl⟩:=BG.mp g
  exact lP M S (vE (B9.mp f))
 unfold bH
 rw[Pu M b (by simp) e (lP M S (rO M z))]
 rw[M4 M b (λq a=>IP a) (λq a=>p5 e q) (lP M S (rO M z)),S0 M S b]
 have h:((range rs.length).map λq:Nat=>vb rs (mu ((range rs.length).map λq:Nat=>b8 rs z q)) c (.n q))=(range rs.length).map λq:Nat=>b8 rs (z++[c]) q:=?_
 .rw[h]
 refine CN λq f=>?_
 have a:cH rs q:=⟨by simp,by ext⟩
 rw[M4 M b (λq a=>IP a) (λq a=>p5 e q) (t:=.n q) a,S3 M S b a]
theorem XA(M:cg rs sg):bA (aL rs)=.ok (rs.map cU):=rH (by have:=M.l_;ext)
theorem VX(rs:L9 Rw)(f:Rw->α):rs.map f=(range rs.length).map λq:Nat=>f (aZ rs (q:Int)):=by
 apply List.ext_getElem
 .simp
 .intro i h1 h2
  simp[List.getElem_range]
  unfold aZ
  simp_all
theorem HB(M:cg rs sg):eE [.d (aL rs)]=.ok (.d (bH rs [])):=by
 have e1:bH rs []=.tuple [(aZ rs 0).l.d,.tuple (rs.map λr=>r.l.d)]:=by
  unfold bH iM
  rw[My,VX rs,B1]
  congr 4
  refine CN λq _=>?_
  show(dU rs [] _).d=_
  rw[show((([]).length):Int)=0 by rfl,My]
 obtain⟨r,t,a,_⟩:=M.cons
 have b:b_ (.tuple (rs.map λr=>r.l.d)) (.int 0)=.ok (aZ rs 0).l.d:=by
  subst a
  exact tP _ _
 rw[e1]
 unfold eE oM
 simp[XA M,eH,(cL (fs:=stN 0) (fe:=e2 b_ (rV 0) (eC (.int 0))) (Y0:=[none]) (d:=cU) (xs:=rs) λr _=>⟨_,rfl,by rfl⟩),b]
def G8:Sg->R Fw:=(aV 3 (aK 2 fJ (aC (vV 3) (aC (vD (e2 b_ (rV 2) (e2 gM (eC (.str "abc")) (rV 4)))) aF))))
theorem K1(M:cg rs sg)(Y0:Sg)(h:eH [none,some 0] Y0=[none,some (.d (aL rs))]) :
  di (stN 0) dS (eA (aK 2 fS (aC (vV 1) (aC (vV 0) aF)))) (eH [none,some 0] Y0) ((range sg).map λi:Nat=>.int (i:Int))=.ok ((range sg).map (eD rs)):=by
 rw[h]
 refine cL λk a=>⟨_,rfl,?_⟩
 have:=L4 M (B9.mp a)
 simp[this]
 rfl
theorem SU(a:k < sg):b_ (.list ((range sg).map (eD rs))) (.int (k:Int))=.ok (eD rs k):=jY (cM (by rw[AZ,E7 a];rfl))
theorem Pt{z:Str}(M:cg rs sg)(S:aN sg z.cps.toList):gD [.d (aL rs),.d (.str z)]=.ok (.d (bH rs z.cps.toList)):=by
 obtain⟨r,t,f,hr⟩:=M.cons
 have b:dJ [.d (aL rs)]=.ok (.d (.int sg)):=by rw[f,u7,hr]
 obtain⟨s,g,o⟩:=jA (fs:=stN 4) (fb:=G8) (d:=λu:Nat=>PyData.str ⟨#[u]⟩) (Y:=[some _,some _,some _,some (.d (bH rs [])),none])
  (λi Y=>∃ u,Y=[some (.d (aL rs)),some (.d (.str z)),some (.l ((range sg).map (eD rs))),some (.d (bH rs (z.cps.toList.take i))),u]) ⟨none,rfl⟩ λi x Y h c=>by
  obtain⟨u,e⟩:=c
  subst e
  have a:=S.2 x (AD h)
  have p:x - 97 < sg:=by have:=BH a;ext
  have j:=xL M (S.take i) a
  have k:z.cps.toList.take i++[x]=z.cps.toList.take (i+1):=by
   rw[D7,h];rfl
  rw[k]at j
  refine⟨_,[some _,some _,some _,some _,some (.d (.str ⟨#[x]⟩))],rfl,.inl ?_,_,rfl⟩
  simp[G8,m4 (lL M.qc a),SU p,j]
 obtain⟨u,rfl⟩:=o
 rw[List.take_length]at g
 have m:z.cps.toList.length<=16777216:=by have:=S.1;ext
 have q:o5=aG _
  (aG _
  (aG _
  (aG (j5 _ _ G8) _))):=id rfl
 unfold gD
 rw[q]
 simp only[cX,aU,xG,gE,eM,fA,kR,lG,lH,kU,oO,eG,pR,fU,rF,jK,R.cf,AT,A9,CG,AV,BF,A7,BC,replicate,AW,AK,A4,A3,lK M S,b,mC,(fV (n:=sg) (by have:=M.qc;ext)),(K1 M [some _,some _,none,none,none] rfl),HB M,rJ m,g]
@[simp] theorem ZE(m i:Nat)(f:Sg->R (L9 Dz))(Y:Sg):Dv m i f Y=match Y[i]? with|some (some (.g k n G))=>(f Y).bind λds=>if k<=m/\ds.length=n then G ds else .bad|_=>.bad:=id rfl
@[simp] theorem ZM(m i:Nat)(f:Sg->R (L9 Dz))(Y:Sg):Em m i f Y=match Y[i]? with|some (some (.g k n G))=>(f Y).bind λds=>if k<=m/\ds.length=n then(match G ds with | .ok d=>if uW d=true then .ok d else .bad|_=>.bad)else .bad|_=>.bad:=id rfl
def eO(fs:L9 Dz):L9 (Dz×Dz):=fs.zipIdx.map λp=>(p.1,.int (p.2:Int))
theorem nU(fs:L9 Dz):(eO fs).map (·.1)=fs:=by
 unfold eO
 rw[B1]
 show fs.zipIdx.map Prod.fst=fs
 simp
theorem Mw(fs:L9 Dz):(eO fs).length=fs.length:=by unfold eO;simp
theorem IM{fs:L9 Dz}:eU (eO fs) x=true↔x∈fs:=by rw[w9,nU]
theorem xM{fs:L9 Dz}(h:x∉fs):eU (eO fs) x=false:=by
 cases q:eU _ x with
 | false=>rfl
 | true=>exact absurd (IM.mp q) h
theorem Mv{fs:L9 Dz}(h:x∉fs):iu (eO fs) x (.int (fs.length:Int))=eO (fs++[x]):=by
 unfold iu
 rw[xM h,AM (by simp)]
 unfold eO
 ext
theorem Mu{fs:L9 Dz}(h:x∈fs):∃ i:Nat,j9 (eO fs) x=some (.int (i:Int))/\fs[i]? = some x:=by
 unfold j9
 cases e:(eO fs).find? λp=>decide (p.1=x)with
 | none=>
  rw[<-nU fs]at h
  ext
 | some p=>
  have h2:=List.mem_of_find?_eq_some e
  unfold eO at h2
  ext
structure Bk where
 after:Dz->List Dz
 x0:Dz
 good:Nat->Dz->Prop
 lim:Nat
 k1:Nat
 k2:Nat
 G:List Dz->R Dz
 D:List Dz->R Dz
structure Bk.ok(S:Bk):Prop where
 g0:S.good 0 S.x0
 gs:∀ i x,S.good i x->i<=S.lim->∀ y∈S.after x,S.good (i+1) y
 up:∀ i j x,i<=j->S.good i x->S.good j x
 sr:∀ xs:List Dz,xs.Nodup->(∀ x∈xs,∃ i,S.good i x)->xs.length<=S.lim
 key:∀ i x,S.good i x->mF x=true
 vc:S.k1<=12
 Gs:S.k2<=12
 hG:∀ i x,i<=S.lim->S.good i x->S.G [x]=.ok (.list (S.after x))/\(S.after x).length<=16777216
 hD:∀ (fs:List Dz) (i:Int),fs.length<=S.lim->S.D [.list fs,.int i]=.ok (.bool false)
 hl:S.lim<=16000000
def Au(js:L9 Nat):Dz:=.tuple (js.map λj:Nat=>.int (j:Int))
def rm(fs:L9 Dz)(y:Dz):L9 Dz:=if y∈fs then fs else fs++[y]
def lz(fs ys:L9 Dz):L9 Dz:=ys.foldl rm fs
def qp(fs:L9 Dz)(y:Dz):Nat:=fs.idxOf y
theorem tY{fs:L9 Dz}(h:y∈fs):rm fs y=fs:=AI h
theorem p6{fs:L9 Dz}(h:y∉fs):rm fs y=fs++[y]:=AM h
theorem vF(fs:L9 Dz)(y:Dz):fs <+: rm fs y:=by
 by_cases h:y∈fs
 · rw [tY h]; simp
 · rw [p6 h]; simp
theorem vG(fs:L9 Dz)(y:Dz):y∈rm fs y:=by
 by_cases h:y∈fs
 · rw [tY h]; ext
 · rw [p6 h]; simp
theorem QN{fs:L9 Dz}(h:fs.Nodup):(rm fs y).Nodup:=by
 by_cases q:y∈fs
 .rw[tY q];ext
 .rw[p6 q,CV]
  ext
theorem SS(fs:L9 Dz)(y:Dz):(rm fs y).length<=fs.length+1:=by
 by_cases q:y∈fs
 · rw [tY q]; simp
 · rw [p6 q]; simp
theorem VW(fs ys:L9 Dz)(y:Dz):lz fs (ys++[y])=rm (lz fs ys) y:=by unfold lz;simp
theorem IL(ys:L9 Dz):∀ fs:L9 Dz,fs <+: lz fs ys:=by
 induction ys with
 | nil=>exact λfs=>List.prefix_refl _
 | cons y t ih=>exact λfs=>(vF fs y).trans (ih _)
theorem K0(ys:L9 Dz):∀ {fs:L9 Dz},fs.Nodup->(lz fs ys).Nodup:=by
 induction ys with
 | nil=>exact λh=>h
 | cons y t ih=>exact λh=>ih (QN h)
theorem vH(ys:L9 Dz):∀ {fs:L9 Dz} {y:Dz},y∈ys->y∈lz fs ys:=by
 induction ys with
 | nil=>simp
 | cons x t ih=>
  intro fs y h
  rcases AQ.mp h with rfl|h
  · exact(IL t _).subset (vG fs y)
  · exact ih h
theorem SR(ys:L9 Dz):∀ fs:L9 Dz,(lz fs ys).length<=fs.length+ys.length:=by
 induction ys with
 | nil=>intro fs;exact AG _
 | cons x t ih=>
  intro fs
  have h1:=ih (rm fs x)
  have h2:=SS fs x
  show(lz _ t).length<=fs.length+(t.length+1)
  ext
theorem Mt{fs wc:L9 Dz}(h:fs <+: wc)(a:y∈fs):qp wc y=qp fs y:=by
 obtain⟨t,rfl⟩:=h
 unfold qp
 ext
theorem KZ{fs:L9 Dz}(a:y∈fs):fs[qp fs y]? = some y:=by
 have h:qp fs y < fs.length:=List.idxOf_lt_length_of_mem a
 rw[AJ h]
 exact ES some (List.getElem_idxOf h)
theorem Pr{xs:L9 α}(h:xs.Nodup){x:α}(h1:xs[i]? = some x)(h2:xs[j]? = some x):i=j:=by
 have b:=AH.mp h1
 have a:=AH.mp h2
 rcases Nat.lt_trichotomy i j with q|q|q
 · exact absurd (b.2.trans a.2.symm) (EJ.mp h i j b.1 a.1 q)
 · ext
 · exact absurd (a.2.trans b.2.symm) (EJ.mp h j i a.1 b.1 q)
theorem SQ{fs:L9 Dz}(h:fs.Nodup)(a:y∈fs):j9 (eO fs) y=some (.int (qp fs y:Int)):=by
 obtain⟨i,h1⟩:=Mu a
 rw[h1.1,Pr h h1.2 (KZ a)]
structure Sq where
 after:Dz->List Dz
 x0:Dz
 stop:List Dz->Nat->Bool
 k1:Nat
 k2:Nat
 G:List Dz->R Dz
 D:List Dz->R Dz
def dt(after:Dz->L9 Dz)(x0:Dz):Nat->L9 Dz
 | 0=>[x0]
 | n+1=>match (dt after x0 n)[n]? with
  | some x=>lz (dt after x0 n) (after x)
  | none=>dt after x0 n
theorem nV{after:Dz->L9 Dz}(h:(dt after x0 n)[n]? = some x):dt after x0 (n+1)=lz (dt after x0 n) (after x):=by rw[dt,h]
theorem nW(after:Dz->L9 Dz)(x0:Dz)(n:Nat):dt after x0 n <+: dt after x0 (n+1):=by
 rw[dt]
 split
 · exact IL _ _
 simp
theorem p7{after:Dz->L9 Dz}(h:m<=n):dt after x0 m <+: dt after x0 n:=by
 obtain⟨k,rfl⟩:=Nat.le.dest h
 clear h
 induction k with
 | zero=>simp
 | succ k ih=>exact ih.trans (nW after x0 _)
theorem KY(after:Dz->L9 Dz)(x0:Dz)(n:Nat):(dt after x0 n).Nodup:=by
 induction n with
 | zero=>simp[dt]
 | succ n ih=>
  rw[dt]
  split
  · exact K0 _ ih
  ext
theorem M3(after:Dz->L9 Dz)(x0:Dz)(n:Nat):(dt after x0 n)[0]? = some x0:=by
 obtain⟨t,e⟩:=p7 (CT n)
 rw[<-e];rfl
theorem M1{f g:L9 α}{x:α}(h:f <+: g)(e:f[i]? = some x):g[i]? = some x:=by
 obtain⟨t,rfl⟩:=h
 rw[A8 (AH.mp e).1]
 ext
theorem NX{f g:L9 α}{x:α}(h:f <+: g)(hi:i < f.length)(e:g[i]? = some x):f[i]? = some x:=by
 obtain⟨t,rfl⟩:=h
 rwa [A8 hi]at e
def ym(after:Dz->L9 Dz)(fs:L9 Dz)(x:Dz):Dz:=Au ((after x).map (qp fs))
def iU(after:Dz->L9 Dz)(fs:L9 Dz)(n:Nat):L9 Dz:=(fs.take n).map (ym after fs)
structure Sq.ok(S:Sq)(N:Nat):Prop where
 on:∀ m,m < N->m < (dt S.after S.x0 m).length/\S.stop (dt S.after S.x0 m) m=false
 off:(dt S.after S.x0 N).length<=N\/S.stop (dt S.after S.x0 N) N=true
 key:(∀ x∈dt S.after S.x0 N,mF x=true)\/(∀ x∈dt S.after S.x0 N,wV x=true)
 len:(dt S.after S.x0 N).length<=16000000
 vc:S.k1<=12
 Gs:S.k2<=12
 hG:∀ m x,m < N->(dt S.after S.x0 N)[m]? = some x->(∃ d,S.G [x]=.ok d/\bA d=.ok (S.after x))/\(S.after x).length<=1000
 hD:∀ m,m<=N->m < (dt S.after S.x0 m).length->S.D [.list (dt S.after S.x0 m),.int (m:Int)]=.ok (.bool (S.stop (dt S.after S.x0 m) m))
theorem J8{B:L9 Dz}(h:(∀ x∈B,mF x=true)\/(∀ x∈B,wV x=true)){fs:L9 Dz}(b:y∈B)(a:∀ x∈fs,x∈B):cZ y ((eO fs).map (·.1))=true:=by
 unfold cZ
 rw[nU,D5,BA,BA,B7,B7]
 ext
def gy(S:Sq)(fs:L9 Dz)(gs:L9 Dz)(u v:O9 A):Sg:=[some (.d S.x0),some (.g S.k1 1 S.G),some (.g S.k2 2 S.D),some (.l fs),some (.m (eO fs)),some (.l gs),u,v]
theorem QM{S:Sq}{B fs ys gs:L9 Dz}{v:O9 A}(t:(∀ x∈B,mF x=true)\/(∀ x∈B,wV x=true))(E:B.length<=16000000)(nd:fs.Nodup)(z:lz fs ys <+: B)(I:ys.length<=1000) :
  ∃ v',iK (stN 7) yc ys (gy S fs gs (some (.l [])) v)=.ok (.nx (gy S (lz fs ys) gs (some (.l ((ys.map (qp (lz fs ys))).map λj:Nat=>.int (j:Int)))) v')):=by
 obtain⟨H,w,v',G⟩:=jA (fs:=stN 7) (fb:=yc) (d:=id) (Y:=gy S fs gs (some (.l [])) v)
  (λi Y=>∃ v',Y=gy S (lz fs (ys.take i)) gs (some (.l (((ys.take i).map (qp (lz fs (ys.take i)))).map λj:Nat=>.int j))) v') ⟨v,rfl⟩ λi y Y hi p=>by
  obtain⟨v',e⟩:=p
  have s:ys.take (i+1)=ys.take i++[y]:=by rw[D7,hi];rfl
  have a:lz fs (ys.take (i+1)) <+: B:=by
   refine List.IsPrefix.trans ?_ z
   have:lz fs ys=lz (lz fs (ys.take (i+1))) (ys.drop (i+1)):=by
    unfold lz;rw[<-List.foldl_append,List.take_append_drop]
   rw[this];exact IL _ _
  have g:(lz fs (ys.take (i+1))).Nodup:=K0 _ nd
  have r:∀ x∈ys.take _,x∈lz fs (ys.take (i+1)):=λx b=>vH _ b
  rw[s]at a g r
  rw[s,VW]at *
  generalize D:lz fs (ys.take i)=F at *
  have h:F.length < 16777216:=by
   have h1:=a.length_le
   have h2:=(vF F y).length_le
   ext
  have s1:=J8 t (a.subset (vG F y)) (λx b=>a.subset ((vF F y).subset b))
  have o:=J8 t (a.subset (vG F y)) (fs:=rm F y) (λx b=>a.subset b)
  have n:=SQ g (vG F y)
  have f:(eO F).length<=16777216:=by rw[Mw];ext
  have q:∀ x∈ys.take i,x∈F:=λx b=>by rw[<-D];exact vH _ b
  have m:(ys.take i++[y]).map (qp (rm F y))=(ys.take i).map (qp F)++[qp (rm F y) y]:=by
   rw[BZ,List.map_singleton]
   congr 1
   exact CN λx b=>Mt (vF F y) (q x b)
  have c:(ys.take i).length < 16777216:=by rw[BQ];ext
  rw[m]
  refine⟨gy S F gs (some (.l (((ys.take i).map (qp F)).map λj:Nat=>.int (j:Int)))) (some (.d y)),_,by rw[e];simp[gy],.inl ?_,some (.d y),rfl⟩
  by_cases k:y∈F
  .have u:=IM.mpr k
   rw[tY k]at o n ⊢
   simp[yc,gy,s1,u,n,(by rw[BQ]at c;exact c)]
  .have C:=Mv k
   rw[p6 k]at o n ⊢
   simp[yc,gy,s1,o,(xM k),C,n,(tO _),f,h,(by rw[BQ]at c;exact c)]
 rw[List.map_id]at w
 ext
theorem Sq.ok.le{S:Sq}(O:S.ok N)(h:m<=N):dt S.after S.x0 m <+: dt S.after S.x0 N:=p7 h
theorem Ms{S:Sq}(O:S.ok N)(h:m<=N)(d:gs.length=m){u v:O9 A}:yb (gy S (dt S.after S.x0 m) gs u v)=.ok (decide (m < N)):=by
 subst d
 by_cases a:gs.length < (dt S.after S.x0 gs.length).length
 .have b:=O.hD _ h a
  have c:S.stop (dt S.after S.x0 gs.length) gs.length = !decide (gs.length < N):=by
   by_cases q:gs.length < N
   .rw[(O.on _ q).2,A2 q];rfl
   .have e:gs.length=N:=by ext
    rcases O.off with z|z
    · ext
    simp_all
  rw[c]at b
  simp[yb,gy,a,O.Gs,b,uW]
 .have:¬ gs.length < N:=λq=>a (O.on _ q).1
  simp[yb,gy,a,this]
theorem SO{S:Sq}(O:S.ok N)(h:m < N)(g:gs.length=m){u v:O9 A}:∃ x u' v',(dt S.after S.x0 m)[m]? = some x/\zh (gy S (dt S.after S.x0 m) gs u v)=.ok (.nx (gy S (dt S.after S.x0 (m+1)) (gs++[ym S.after (dt S.after S.x0 (m+1)) x]) u' v')):=by
 have c:=(O.on m h).1
 have a:=AJ c
 generalize (dt S.after S.x0 m)[m]=x at a
 obtain⟨⟨d,i,f⟩,e⟩:=O.hG m x h (M1 (O.le (by ext)) a)
 obtain⟨v',q⟩:=QM (S:=S) (gs:=gs) (v:=v) O.key O.len (KY S.after S.x0 m) (by rw[<-(nV a)];exact O.le (by ext)) e
 rw[<-(nV a)]at q
 have k:gs.length < 16777216:=by have:=(O.le (show m<=N by ext)).length_le;have:=O.len;ext
 have b:=by ext
 refine⟨x,some (.l (((S.after x).map (qp (dt S.after S.x0 (m+1)))).map λj:Nat=>.int j)),v',a,?_⟩
 subst g
 simp[gy]at q
 simp[zh,gy,(jY (cM a)),O.vc,i,f,q,ym,Au,b]
theorem NW{after:Dz->L9 Dz}{fs:L9 Dz}(h:m<=fs.length):(iU after fs m).length=m:=by unfold iU;simp_all
theorem SN{S:Sq}(O:S.ok N):∀ (k m:Nat) (u v:O9 A),m+k=N->
  ∃ u' v',bF yb zh (gy S (dt S.after S.x0 m) (iU S.after (dt S.after S.x0 m) m) u v)=.ok (.nx (gy S (dt S.after S.x0 N) (iU S.after (dt S.after S.x0 N) N) u' v')):=by
 have d:∀ m,m<=N->(∀ b,b < m->b < (dt S.after S.x0 b).length)->m<=(dt S.after S.x0 m).length:=λm c h=>by
  cases m with
  | zero=>simp
  | succ m=>exact A6 (h m (DT m)) (nW S.after S.x0 m).length_le
 intro k
 induction k with
 | zero=>
  intro m u v c
  have c:m=N:=c
  subst c
  rw[cC (by rw[Ms O (AG m) (NW (d m (AG _) λb h=>(O.on b h).1)),BB (B4 m)])]
  exact⟨u,v,rfl⟩
 | succ k ih=>
  intro m u v c
  have a:=c▸Nat.lt_add_of_pos_right (Nat.succ_pos k)
  have l:=B6 a
  have n:=NW (after:=S.after) (d m l λb h=>(O.on b (GZ h a)).1)
  obtain⟨x,u',v',g⟩:=SO O a n
  rw[eX (by rw[Ms O l n,A2 a]) g.2]
  have e:iU S.after (dt S.after S.x0 m) m++[ym S.after (dt S.after S.x0 (m+1)) x]=iU S.after (dt S.after S.x0 (m+1)) (m+1):=by
   unfold iU
   have o:(dt S.after S.x0 (m+1)).take (m+1)=(dt S.after S.x0 m).take m++[x]:=by
    obtain⟨t,r⟩:=nW S.after S.x0 m
    rw[<-r,List.take_append_of_le_length ((AH.mp g.1).1),D7,g.1];rfl
   rw[o,BZ]
   congr 1
   refine CN λy q=>?_
   unfold ym
   congr 1
   refine CN λz p=>?_
   obtain⟨j,i⟩:=E4 q
   have f:=by
    have:=(AH.mp i).1
    rw[BQ]at this;exact AX this (GM _ _)
   rw[FC,AI f]at i
   refine(Mt (nW S.after S.x0 m) ?_).symm
   have:=vH (fs:=dt S.after S.x0 j) _ p
   rw[<-nV (NX (O.le (by ext)) ((O.on j (by ext)).1) (M1 (O.le (by ext)) i))]at this
   exact(p7 (by ext)).subset this
  rw[e]
  exact ih _ u' v' (by rw[<-c,Nat.add_assoc,G1 1])
theorem YJ{S:Sq}(O:S.ok N):kH [.d S.x0,.g S.k1 1 S.G,.g S.k2 2 S.D]=.ok (.d (.tuple [.list (dt S.after S.x0 N),.list (iU S.after (dt S.after S.x0 N) N)])):=by
 obtain⟨u,v,q⟩:=SN O N 0 none none (by simp)
 have b:cZ S.x0 []=true:=by
  unfold cZ
  rw[D5,BA,BA]
  exact O.key.imp (λh=>⟨h _ (AD (M3 S.after S.x0 N)),rfl⟩) (λh=>⟨h _ (AD (M3 S.after S.x0 N)),rfl⟩)
 have hi:eO [S.x0]=[(S.x0,.int 0)]:=rfl
 have a:_f.i8 [] [(S.x0,.int 0)]=.ok [(S.x0,.int 0)]:=by simp[_f.i8,b,iu,eU,j9]
 unfold kH
 rw[ID]
 simp[gy,dt,iU,hi]at q
 simp[a,q,iU]
mutual
def qt:Dz->Bool
 | .bool _=>false
 | .dict _=>false
 | .list xs=>rP xs
 | .tuple xs=>rP xs
 | _=>true
def rP:L9 Dz->Bool
 | []=>true
 | x::t=>qt x && rP t
end
theorem vI:∀ {xs:L9 Dz},(∀ x∈xs,qt x=true)->rP xs=true
 | [],_=>rfl
 | x::t,h=>by
  show(qt x && rP t)=true
  rw[h x A5,vI λy a=>h y (AU _ a)];rfl
mutual
theorem H_:∀ d:Dz,d.canLay0=true->d.eqv d=true
 | .none,_=>by rfl
 | .bool b,_=>by simp[PyData.eqv]
 | .int i,_=>by simp[PyData.eqv]
 | .str x,_=>by simp[PyData.eqv]
 | .list xs,h=>by
  show PyData.eqvAll xs xs=true
  exact IK xs h
 | .tuple xs,h=>by
  show PyData.eqvAll xs xs=true
  exact IK xs h
 | .dict _,h=>by cases h
theorem IK:∀ xs:L9 Dz,PyData.canLayAll0 xs=true->PyData.eqvAll xs xs=true
 | [],_=>by rfl
 | x::t,h=>by
  have h':(x.canLay0 && PyData.canLayAll0 t)=true:=h
  rw[BA]at h'
  show(x.eqv x && PyData.eqvAll t t)=true
  rw[H_ x h'.1,IK t h'.2];rfl
end
mutual
theorem KW:∀ x y:Dz,qt x=true->qt y=true->x.eqv y=true->x=y
 | .none,.none,_,_,_=>rfl
 | .int i,.int j,_,_,h=>by simp[PyData.eqv]at h;rw[h]
 | .str i,.str j,_,_,h=>by simp[PyData.eqv]at h;rw[h]
 | .list xs,.list ys,h1,h2,h=>by rw[IJ xs ys h1 h2 h]
 | .tuple xs,.tuple ys,h1,h2,h=>by rw[IJ xs ys h1 h2 h]
 | .bool _,_,h,_,_=>by cases h
 | .dict _,_,h,_,_=>by cases h
 | _,.bool _,_,h,_=>by cases h
 | _,.dict _,_,h,_=>by cases h
 | .none,.int _,_,_,h=>by simp[PyData.eqv]at h
 | .none,.str _,_,_,h=>by simp[PyData.eqv]at h
 | .none,.list _,_,_,h=>by simp[PyData.eqv]at h
 | .none,.tuple _,_,_,h=>by simp[PyData.eqv]at h
 | .int _,.none,_,_,h=>by simp[PyData.eqv]at h
 | .int _,.str _,_,_,h=>by simp[PyData.eqv]at h
 | .int _,.list _,_,_,h=>by simp[PyData.eqv]at h
 | .int _,.tuple _,_,_,h=>by simp[PyData.eqv]at h
 | .str _,.none,_,_,h=>by simp[PyData.eqv]at h
 | .str _,.int _,_,_,h=>by simp[PyData.eqv]at h
 | .str _,.list _,_,_,h=>by simp[PyData.eqv]at h
 | .str _,.tuple _,_,_,h=>by simp[PyData.eqv]at h
 | .list _,.none,_,_,h=>by simp[PyData.eqv]at h
 | .list _,.int _,_,_,h=>by simp[PyData.eqv]at h
 | .list _,.str _,_,_,h=>by simp[PyData.eqv]at h
 | .list _,.tuple _,_,_,h=>by simp[PyData.eqv]at h
 | .tuple _,.none,_,_,h=>by simp[PyData.eqv]at h
 | .tuple _,.int _,_,_,h=>by simp[PyData.eqv]at h
 | .tuple _,.str _,_,_,h=>by simp[PyData.eqv]at h
 | .tuple _,.list _,_,_,h=>by simp[PyData.eqv]at h
theorem IJ:∀ xs ys:L9 Dz,rP xs=true->rP ys=true->PyData.eqvAll xs ys=true->xs=ys
 | [],[],_,_,_=>rfl
 | [],_::_,_,_,h=>by simp[PyData.eqvAll]at h
 | _::_,[],_,_,h=>by simp[PyData.eqvAll]at h
 | x::xs,y::ys,h1,h2,h=>by
  have G2:(qt x && rP xs)=true:=h1
  have a:(qt y && rP ys)=true:=h2
  have h':(x.eqv y && PyData.eqvAll xs ys)=true:=h
  rw[BA]at G2 a h'
  rw[KW x y G2.1 a.1 h'.1,IJ xs ys G2.2 a.2 h'.2]
end
theorem KU{d:Dz}(h:shaped d=true):d.canLay0=true:=by
 have h':(d.canLay0 && decide _)=true:=h
 ext
theorem HZ{x y:Dz}(hx:qt x=true)(a:qt y=true)(l:shaped x=true):x.eqv y=decide (x=y):=by
 by_cases h:x=y
 .subst h;rw[H_ x (KU l),A2 rfl]
 .rw[BB h]
  cases q:x.eqv y with
  | false=>rfl
  | true=>exact absurd (KW x y hx a q) h
structure Cp(d:Dz):Prop where
 nb:qt d=true
 sh:shaped d=true
theorem KS{x y:Dz}(hx:Cp x)(a:Cp y):ey x y=.ok (.bool (decide (x=y))):=by rw[y8 hx.sh a.sh,HZ hx.nb a.nb hx.sh]
theorem QL{x y:Dz}(hx:Cp x)(a:Cp y):ou x y=.ok (.bool (!decide (x=y))):=by rw[K5 hx.sh a.sh,HZ hx.nb a.nb hx.sh]
theorem zD{x:Dz}(h:shaped x=true):ou x x=.ok (.bool false):=by rw[K5 h h,H_ x (KU h)];rfl
def wρ(rs:L9 Rw)(f:Tn)(bk:L9 Tn)(t:Tn)(ps:L9 Int)(u:O9 A):Sg:=[some (.d (aL rs)),some (.d (iM f bk)),some (.d t.d),some (.m (ef PyData.int ps)),u]
theorem Hg{rs:L9 Rw}{f:Tn}{bk:L9 Tn}{x:Str}{ps:L9 Int}{u:O9 A}:wT (wρ rs f bk (.w x) ps u)=.ok false:=by
 rfl
theorem Hf{rs:L9 Rw}{f:Tn}{bk:L9 Tn}{q:Int}{ps:L9 Int}{u:O9 A}:wT (wρ rs f bk (.n q) ps u)=.ok true:=by
 rfl
theorem QK{rs:L9 Rw}{f:Tn}{bk:L9 Tn}{q:Int}{ps:L9 Int}{u:O9 A}(h:q∈ps):wB (wρ rs f bk (.n q) ps u)=.ok (.rt (.d (.str "ever"))):=by
 simp[wB,wρ,Tn.d,(jQ ps q),((lI jP).mpr h)]
theorem YI{rs:L9 Rw}{f:Tn}{bk:L9 Tn}{q:Int}{ps:L9 Int}{u:O9 A}{x:Str}(h:q∉ps)(a:cH rs q)(c:ps.length<=16777216)(e:(aZ rs q).r=.w x):wB (wρ rs f bk (.n q) ps u)=.ok (.nx (wρ rs f bk (.w x) (ps++[q]) (some (.d (.str x))))):=by
 have b:(ef PyData.int ps).length<=16777216:=by rw[g8];ext
 simp[wB,wρ,Tn.d,(jQ ps q),(gS jP h),(lJ jP h),b,(y9 a.1 a.2),cU,e,SW]
theorem YH{rs:L9 Rw}{f:Tn}{bk:L9 Tn}{q a:Int}{ps:L9 Int}{u:O9 A}(h:q∉ps)(b:cH rs q)(i:ps.length<=16777216)(e:(aZ rs q).r=.n a)(h0:0<=a)(c:a < (bk.length:Int)):wB (wρ rs f bk (.n q) ps u)=.ok (.nx (wρ rs f bk (mu bk a) (ps++[q]) (some (.d (.int a))))):=by
 have g:(ef PyData.int ps).length<=16777216:=by rw[g8];ext
 simp[wB,wρ,Tn.d,(jQ ps q),(gS jP h),(lJ jP h),g,(y9 b.1 b.2),cU,e,SX,iM,(J9 h0 c)]
theorem rQ{rs:L9 Rw}{sg:Nat}(M:cg rs sg){q a:Int}(b:cH rs q)(e:(aZ rs q).r=.n a):0<=a/\a < (rs.length:Int):=by
 have:=(M.row _ (AD (cK b.1 b.2))).1.2.1
 rw[e]at this
 exact this
theorem SM{rs:L9 Rw}{sg:Nat}{f:Tn}{bk:L9 Tn}(M:cg rs sg)(hb:bk.length=rs.length)(j:∀ t∈bk,pb rs.length t){g:Int}:∀ (n:Nat) (ps:L9 Int) (q:Int) (u:O9 A),gn (jF rs (mu bk)) g ps q->(∀ p∈ps,cH rs p)->cH rs q->rs.length+1<=ps.length+n->
  aG (bF wT wB) (aM (vV 2)) (wρ rs f bk (.n q) ps u)=.ok (.rt (.d (.str ((bM (jF rs (mu bk)) g).getD fZ)))):=by
 intro n
 induction n with
 | zero=>
  intro ps q u U pv a i
  have:=vC U.nd pv
  ext
 | succ n ih=>
  intro ps q u U pv a i
  rw[aU]
  by_cases b:q∈ps
  .rw[kK Hf (QK b),U.met b];rfl
  .have l:=vC U.nd pv
   have c:ps.length<=16777216:=by have:=M.l_;ext
   cases e:(aZ rs q).r with
   | w x=>
    rw[eX Hf (YI b a c e),cC Hg,U.outs (by unfold jF;rw[e])]
    rfl
   | n q'=>
    have k:=rQ M a e
    rw[eX Hf (YH b a c e k.1 (by simp_all))]
    have h:=p5 j q'
    cases e2:mu bk q' with
    | w x=>
     rw[cC Hg,U.outs (by unfold jF;rw[e];simp only;rw[e2])]
     simp[wρ,Tn.d]
    | n r=>
     rw[e2]at h
     have:=ih (ps++[q]) r (some (.d (.int q'))) (U.next b (by unfold jF;rw[e];simp only;rw[e2])) (λp c=>by
      rcases BN.mp c with z|z
      · ext
      · rw [AS.mp z]; exact a) h (by rw [AY, DJ]; ext)
     simp_all
theorem Pq{rs:L9 Rw}{sg:Nat}{f:Tn}{bk:L9 Tn}(M:cg rs sg)(hb:bk.length=rs.length)(c:∀ t∈bk,pb rs.length t)(b:pb rs.length f):eK [.d (aL rs),.d (iM f bk)]=.ok (.d (.str (y_ rs (mu bk) f))):=by
 have e:b_ (iM f bk) (.int 0)=.ok f.d:=rfl
 have a:aG (bF wT wB) (aM (vV 2)) (wρ rs f bk f [] none)=.ok (.rt (.d (.str (y_ rs (mu bk) f)))):=by
  cases f with
  | w x=>
   rw[aU,cC Hg]
   rfl
  | n q=>exact SM M hb c (rs.length+1) [] q none gn.start (λp g=>by simp_all) b (by simp)
 unfold eK
 rw[rR]
 simp[wρ,ef]at a
 simp_all
theorem VV{rs:L9 Rw}{sg:Nat}(M:cg rs sg){bk a:Int->Tn}(h:∀ q,cH rs q->bk q=a q)(j:∀ q,cH rs q->pb rs.length (bk q)){t:Tn}(g:pb rs.length t):y_ rs bk t=y_ rs a t:=by
 cases t with
 | w x=>rfl
 | n q=>
  have st:∀ q,cH rs q->jF rs bk q=jF rs a q:=λq c=>by
   unfold jF
   cases e:(aZ rs q).r with
   | w x=>rfl
   | n b=>simp ;rw[h b (rQ M c e)]
  have nx:∀ q b,cH rs q->jF rs bk q=some (.inl b)->cH rs b:=λq b c e=>by
   unfold jF at e
   cases e2:(aZ rs q).r with
   | w x=>simp_all
   | n r=>
    rw[e2]at e
    simp at e
    have f:=j _ (rQ M c e2)
    split at e
    · rename_i l i; cases e; rw [i]at f; exact f
    simp_all
  have d:=Mz (st:=jF rs bk) (st2:=jF rs a) (e:=id) (k:=id) (ev:=fZ) (Dom:=cH rs) (λq c=>?_) g
  .exact (d.trans (by rw[Option.map_id];rfl)).symm
  .have e:=(st q c).symm
   cases e2:jF rs bk q with
   | none=>unfold jF at e2;split at e2<;>(try split at e2)<;>cases e2
   | some x=>
    rw[e2]at e
    cases x with
    | inl b=>exact .inl ⟨b,rfl,e,nx q b c e2⟩
    | inr o=>exact .inr ⟨o,rfl,by rw[iX (s:=id q) e];rfl⟩
theorem YG{rs:L9 Rw}{sg:Nat}{z:L9 Nat}(M:cg rs sg)(S:aN sg z):eK [.d (aL rs),.d (bH rs z)]=.ok (.d (.str (cT rs z))):=by
 have b:∀ t∈(range rs.length).map λq:Nat=>b8 rs z q,pb rs.length t:=λt c=>by
  obtain⟨q,e,rfl⟩:=BG.mp c
  exact lP M S (vE (B9.mp e))
 unfold bH
 rw[Pq M (by simp) b (lP M S (rO M z)),VV M (λq a=>IP a) (λq a=>p5 b q) (lP M S (rO M z)),<-SY M S]
 rfl
theorem KR{rs:L9 Rw}{sg:Nat}{z:L9 Nat}(M:cg rs sg)(S:aN sg z){s:Int×Int}(V:kX rs z s):(dU rs z s).ok:=by
 unfold dU
 cases e:bM _ s with
 | none=>exact(by show PyData.strOk fZ=true;decide +kernel)
 | some t=>
  obtain⟨n,h⟩:=eN e
  show t.ok
  clear e
  induction h with
  | @out s o h=>
   unfold cD at h
   rcases dw M S V with ⟨x,e,b⟩|⟨q,e,a,h1,h2⟩
   .rw[e]at h
    have:=((M.row _ (AD (cK V.2.2.1 V.2.2.2))).1.ok).1
    unfold aQ at e
    simp_all
   .rw[e]at h
    simp at h
    split at h
    · cases h
    · cases h; exact trivial
  | @go s s' o n h t ih=>
   refine ih ?_
   unfold cD at h
   rcases dw M S V with ⟨x,e,b⟩|⟨q,e,a,h1,h2⟩
   .simp_all
   .rw[e]at h
    simp at h
    split at h
    · rename_i c; cases h; exact⟨h1, c, a⟩
    simp_all
theorem Mr{rs:L9 Rw}{sg:Nat}{z:L9 Nat}(M:cg rs sg)(S:aN sg z):(dU rs z (0,0)).ok/\∀ t∈(range rs.length).map λq:Nat=>b8 rs z (q:Int),t.ok:=⟨KR M S (rO M z),λt a=>by
 obtain⟨q,b,rfl⟩:=BG.mp a
 exact KR M S (vE (B9.mp b))⟩
theorem xN:∀ {xs:L9 Dz},(∀ x∈xs,eR x=true)->fM xs=true
 | [],_=>rfl
 | x::t,h=>by
  show(eR x && fM t)=true
  rw[h x (A5 ..),xN λy a=>h y (AU _ a)];rfl
theorem KQ{t:Tn}(h:t.ok):eR t.d=true:=by
 cases t with
 | n i=>rfl
 | w x=>exact h
theorem SK{f:Tn}{bk:L9 Tn}(d:f.ok)(hb:∀ t∈bk,t.ok):mF (iM f bk)=true:=by
 have h1:eR (iM f bk)=true:=by
  refine xN λx a=>?_
  rcases AQ.mp a with z|a
  .rw[z];exact KQ d
  .rw[AS.mp a]
   refine xN λx a=>?_
   obtain⟨c,b,rfl⟩:=BG.mp a
   exact KQ (hb c b)
 have h2:Sh 3 (iM f bk):=by
  refine m9 λx a=>?_
  rcases AQ.mp a with z|a
  .rw[z];exact Kn _ d
  .rw[AS.mp a]
   refine m9 λx a=>?_
   obtain⟨c,b,rfl⟩:=BG.mp a
   exact Kn _ (hb c b)
 show(eR (iM f bk) && decide ((iM f bk).depth<=8))=true
 rw[h1,A2 (A6 h2.2 (by simp))];rfl
def Dq(rs:L9 Rw)(x:Dz)(k:Nat):Dz:=match fJ [.d x,.d (eD rs k)]with
 | .ok (.d y)=>y
 | _=>.none
theorem Mq{rs:L9 Rw}{sg k:Nat}{z:L9 Nat}(M:cg rs sg)(S:aN sg z)(a:k < sg):Dq rs (bH rs z) k=bH rs (z++[97+k]):=by
 have:=xL M S (c:=97+k) (A2 (by ext))
 rw[show 97+k - 97=k by simp]at this
 unfold Dq
 rw[this]
def Dp(rs:L9 Rw)(sg:Nat):Prop:=∀ xs:L9 Dz,xs.Nodup->(∀ x∈xs,∃ z,aN sg z/\x=bH rs z)->xs.length<=200
theorem Xz{sg k:Nat}{z:L9 Nat}(S:aN sg z)(d:k < sg)(b:z.length < 1000):aN sg (z++[97+k]):=⟨by simp;ext,λc a=>by
 rcases BN.mp a with h|h
 · exact S.2 c h
 · rw [AS.mp h]; exact A2 (by ext)⟩
theorem QJ{rs:L9 Rw}{sg:Nat}(code:L9 Nat->Nat)(i:∀ z,aN sg z->code z < 200)(hi:∀ z z',aN sg z->aN sg z'->code z=code z'->bH rs z=bH rs z'):Dp rs sg:=λxs c h=>by
 classical
 let f:=λx=>if h:∃ z,aN sg z/\x=bH rs z then code h.choose else 0
 refine lY f 200 xs c (λx g=>?_) (λa d b j e=>?_)<;>ext
def wz(m:Nat):Tn->Prop
 | .n i=>0<=i/\i < (m:Int)
 | .w x=>x="by"\/x="out"\/x="ever"
theorem p8{rs:L9 Rw}{sg:Nat}{z:L9 Nat}(M:cg rs sg)(S:aN sg z){s:Int×Int}(V:kX rs z s):wz rs.length (dU rs z s):=by
 unfold dU
 cases e:bM _ s with
 | none=>exact .inr (.inr rfl)
 | some t=>
  obtain⟨n,h⟩:=eN e
  clear e
  induction h with
  | @out s o h=>
   unfold cD at h
   rcases dw M S V with ⟨x,e,b⟩|⟨q,e,a,h1,h2⟩
   .rw[e]at h
    cases h
    have:=(M.row _ (AD (cK V.2.2.1 V.2.2.2))).1.1
    unfold aQ at e
    rw[AI b]at e
    simp at e
    rw[e]at this
    rcases this with h|h
    · exact .inl h
    · exact .inr (.inl h)
   .rw[e]at h
    simp at h
    split at h
    · cases h
    · cases h; exact a
  | @go s s' o n h t ih=>
   refine ih ?_
   unfold cD at h
   rcases dw M S V with ⟨x,e,b⟩|⟨q,e,a,h1,h2⟩
   .simp_all
   .rw[e]at h
    simp at h
    split at h
    · rename_i c; cases h; exact⟨h1, c, a⟩
    simp_all
def tc(m:Nat):Tn->Nat
 | .n i=>i.toNat
 | .w x=>if x="by" then m else if x="out" then m+1 else m+2
theorem kZ{m:Nat}{t:Tn}(h:wz m t):tc m t < m+3:=by
 cases t with
 | n i=>have:0<=i/\i < m:=h;show i.toNat < _;ext
 | w x=>show(if x="by" then m else if x="out" then m+1 else m+2) < _;ext
theorem tZ{m:Nat}{t u:Tn}(h:wz m t)(h':wz m u)(e:tc m t=tc m u):t=u:=by
 have c:("by":Str)≠"out":=by decide +kernel
 have h1:("ever":Str)≠"by":=by decide +kernel
 have h2:("ever":Str)≠"out":=by decide +kernel
 cases t with
 | n i=>
  have a:0<=i/\i < m:=h
  cases u with
  | n j=>
   have b:0<=j/\j < m:=h'
   have e:i.toNat=j.toNat:=e
   ext
  | w x=>
   have e:i.toNat=(if x="by" then m else if x="out" then m+1 else m+2):=e
   ext
 | w x=>
  cases u with
  | n j=>
   have b:0<=j/\j < m:=h'
   have e:(if x="by" then m else if x="out" then m+1 else m+2)=j.toNat:=e
   ext
  | w y=>
   have e:(if x="by" then m else if x="out" then m+1 else m+2)=(if y="by" then m else if y="out" then m+1 else m+2):=e
   rcases h with rfl|rfl|rfl<;>rcases h' with rfl|rfl|rfl<;>first|rfl|(simp[c.symm,h1,h2]at e)
theorem Nl{rs:L9 Rw}{z a:L9 Nat}(h1:dU rs z (0,0)=dU rs a (0,0))(h2:∀ q:Nat,q < rs.length->b8 rs z (q:Int)=b8 rs a (q:Int)):bH rs z=bH rs a:=by
 unfold bH
 rw[h1,CN λq b=>h2 q (B9.mp b)]
theorem Tx{rs:L9 Rw}{sg:Nat}(M:cg rs sg)(h2:rs.length=2):Dp rs sg:=by
 have f:=λz S=>h2▸p8 M S (rO M z)
 have d:∀ z,aN sg z->wz 2 (b8 rs z ((0:Nat))):=λz S=>h2▸p8 M S (vE (by ext))
 have c:∀ z,aN sg z->wz 2 (b8 rs z ((1:Nat))):=λz S=>h2▸p8 M S (vE (by ext))
 refine QJ (λz=>tc 2 (dU rs z (0,0)) * 25+tc 2 (b8 rs z ((0:Nat))) * 5+tc 2 (b8 rs z ((1:Nat)))) (λz S=>?_) (λz a S b e=>?_)
 .have:=kZ (f z S)
  have:=kZ (d z S)
  have:=kZ (c z S)
  ext
 .have k:=kZ (d z S)
  have g:=kZ (c z S)
  have j:=kZ (d a b)
  have h:=kZ (c a b)
  have e2:tc 2 (b8 rs z ((1:Nat)))=tc 2 (b8 rs a ((1:Nat))):=by ext
  refine Nl (tZ (f z S) (f a b) (by ext)) λq i=>?_
  have:q=0\/q=1:=by ext
  rcases this with rfl|rfl
  · exact tZ (d z S) (d a b) (by ext)
  · exact tZ (c z S) (c a b) e2
end _e
variable{ps:L9 (Int×Int)}
namespace _h
open Classical
section
variable{τ:Type}(g:τ->Nat->τ)(t0:τ)(cs:L9 Nat)
variable{g t0 cs}
end
end _h
variable{q:Nat}
namespace _e
open _f
def cq(z:L9 Nat):Dz:=.str ⟨z.toArray⟩
def tw(ap:L9 (L9 Nat))(ws:L9 Dz):Dz:=.tuple [.tuple (ap.map Au),.tuple ws]
structure ve(ap:List (List Nat))(sg:Nat):Prop where
 n1:1<=ap.length
 n2:ap.length<=1000
 s1:1<=sg
 s3:sg<=3
 row:∀ r∈ap,r.length=sg/\∀ j∈r,j < ap.length
section
variable{ap:L9 (L9 Nat)}{sg:Nat}
theorem ve.at(M:ve ap sg)(a:q < ap.length):ap[q]? = some (ap.getD q [])/\(ap.getD q []).length=sg/\∀ j∈ap.getD q [],j < ap.length:=by
 have e:ap[q]? = some (ap.getD q []):=by simp_all
 exact⟨e,M.row _ (AD e)⟩
theorem Tw:∀ {n:Nat} {xs:L9 Dz},xs.Nodup->(∀ x∈xs,∃ q:Nat,q < n/\x=.int (q:Int))->xs.length<=n:=by
 intro n xs nd h
 refine lY (λx=>match x with | .int q=>q.toNat|_=>0) n xs nd (λx f=>?_) (λa c b d e=>?_)<;>ext
end
def sl(y z:L9 Nat):Prop:=y.length < z.length\/(y.length=z.length/\List.Lex (· < ·) y z)
section
variable{after:Dz->L9 Dz}{x0:Dz}
end
def He(w:Str):Prop:=w="by"\/w="out"\/w="ever"
structure Fh(ap:List (List Nat))(ws:List Str)(sg:Nat):Prop where
 r:ve ap sg
 wl:ws.length=ap.length
 ww:∀ w∈ws,He w
def va(ap:L9 (L9 Nat))(ws:L9 Str):Dz:=tw ap (ws.map .str)
section
variable{r1 r2:L9 (L9 Nat)}{w1 w2:L9 Str}{sg:Nat}
theorem Fh.w(M:Fh r1 w1 sg)(a:q < r1.length):He (w1.getD q "")/\b_ (.tuple (w1.map .str)) (.int (q:Int))=.ok (.str (w1.getD q "")):=by
 have b:=M.wl
 have e:w1[q]? = some (w1.getD q ""):=by simp_all
 refine⟨M.ww _ (AD e),g7 (cM ?_)⟩
 rw[AZ,e];rfl
end
section
variable{r1 r2:L9 (L9 Nat)}{w1 w2:L9 Str}{sg:Nat}
end
def yk(ap:L9 (L9 Nat))(q c:Nat):Nat:=(ap.getD q []).getD (c - 97) 0
def runN(ap:L9 (L9 Nat))(q:Nat)(z:L9 Nat):Nat:=z.foldl (yk ap) q
def Bm(sg:Nat)(z:L9 Nat):Prop:=∀ c∈z,bK sg c=true
section
variable{ap r1 r2:L9 (L9 Nat)}{ws w1 w2:L9 Str}{sg:Nat}
theorem QI(h:bK sg c=true):97<=c/\c - 97 < sg:=by
 unfold bK at h
 ext
theorem LY(M:ve ap sg)(a:q < ap.length)(b:bK sg c=true):(ap.getD q [])[c - 97]? = some (yk ap q c)/\yk ap q c < ap.length:=by
 have d:c - 97 < (ap.getD q []).length:=by rw[(M.at a).2.1];exact(QI b).2
 have e:(ap.getD q [])[c - 97]? = some (yk ap q c):=by
  unfold yk
  ext
 exact⟨e,(M.at a).2.2 _ (AD e)⟩
theorem iI(M:ve ap sg):∀ (z:L9 Nat) {q:Nat},Bm sg z->q < ap.length->runN ap q z < ap.length
 | [],_,_,h=>h
 | c::t,_,hs,h=>iI M t (λc a=>hs c (AU _ a)) (LY M h (hs c A5)).2
end
section
variable{ap:L9 (L9 Nat)}{ws:L9 Str}{sg:Nat}
end
section
variable{ap:L9 (L9 Nat)}{ws:L9 Str}{sg:Nat}{L:L9 Nat}{N:Nat}
theorem QH{after:Dz->L9 Dz}(f:(dt after x0 n).length<=n)(hx:x∈dt after x0 n)(g:y∈after x):y∈dt after x0 n:=by
 obtain⟨m,d⟩:=E4 hx
 have c:=(AH.mp d).1
 have a:=AX c f
 by_cases h:m < (dt after x0 m).length
 .have:=NX (p7 (B6 a)) h d
  have b:y∈dt after x0 (m+1):=by rw[(nV this)];exact vH _ g
  exact(p7 (by ext)).subset b
 .exfalso
  have e:∀ k,(dt after x0 (m+k))=dt after x0 m:=by
   intro k
   induction k with
   | zero=>rfl
   | succ k ih=>
    have:(dt after x0 (m+k))[m+k]? = none:=by rw[ih];exact List.getElem?_eq_none (by ext)
    rw[<-Nat.add_assoc,dt,this]
    ext
  obtain⟨k,rfl⟩:=Nat.le.dest (B6 a)
  ext
end
end _e
namespace _f
@[simp] theorem ZL(i:Nat)(Y:Sg):yV i Y=match Y[i]? with
 | some (some (.m bd))=>if bd.length<=16777216 then .ok (.int (bd.length:Int))else .bad
 | some (some (.f bd))=>if bd.length<=16777216 then .ok (.int (bd.length:Int))else .bad
 | _=>.bad:=id rfl
end _f
variable{wd:L9 Dz}
namespace _e
open _f
variable{rs:L9 Rw}
def pa(rs:L9 Rw)(sg:Nat)(x:Dz):L9 Dz:=(range sg).map (Dq rs x)
def gm(rs:L9 Rw)(sg n:Nat):L9 Dz:=dt (pa rs sg) (bH rs []) n
def xq(rs:L9 Rw)(zs:L9 (L9 Nat))(z:L9 Nat):L9 (L9 Nat):=if bH rs z∈zs.map (bH rs)then zs else zs++[z]
def Ej(sg:Nat)(z:L9 Nat):L9 (L9 Nat):=(range sg).map λk=>z++[97+k]
def qi(rs:L9 Rw)(sg:Nat):Nat->L9 (L9 Nat)
 | 0=>[[]]
 | n+1=>match (qi rs sg n)[n]? with
  | some z=>(Ej sg z).foldl (xq rs) (qi rs sg n)
  | none=>qi rs sg n
theorem Tv(rs:L9 Rw)(zs:L9 (L9 Nat))(z:L9 Nat):(xq rs zs z).map (bH rs)=rm (zs.map (bH rs)) (bH rs z):=by
 unfold xq rm
 ext
theorem VU(rs:L9 Rw)(l:L9 (L9 Nat)):∀ zs:L9 (L9 Nat),(l.foldl (xq rs) zs).map (bH rs)=lz (zs.map (bH rs)) (l.map (bH rs)):=by
 induction l with
 | nil=>intro zs;rfl
 | cons z t ih=>intro zs;rw[GK,ih,Tv];rfl
theorem vz{zs:L9 (L9 Nat)}{x:L9 Nat}(h:x∈xq rs zs z):x∈zs\/x=z:=by
 unfold xq at h
 ext
theorem uq{x:L9 Nat}(l:L9 (L9 Nat)):∀ {zs:L9 (L9 Nat)},x∈l.foldl (xq rs) zs->x∈zs\/x∈l:=by
 induction l with
 | nil=>simp
 | cons z t ih=>
  intro zs h
  rcases ih h with h|h
  · rcases vz h with h | h <;> simp_all
  ext
theorem Vt(M:cg rs sg)(S:aN sg z):(Ej sg z).map (bH rs)=pa rs sg (bH rs z):=by
 unfold Ej pa
 rw[B1]
 exact CN λk a=>(Mq M S (B9.mp a)).symm
structure IX(rs:List Rw)(sg n:Nat)(zs:List (List Nat)):Prop where
 map:zs.map (bH rs)=gm rs sg n
 ok:∀ z∈zs,aN sg z/\z.length<=n
theorem Tu{x:L9 Nat}(S:aN sg z)(c:z.length<=n)(b:n < 900)(h:x∈Ej sg z):aN sg x/\x.length<=n+1:=by
 obtain⟨k,a,rfl⟩:=BG.mp h
 exact⟨Xz S (B9.mp a) (by ext),by simp_all⟩
theorem zE(M:cg rs sg):∀ n,n<=900->IX rs sg n (qi rs sg n):=by
 intro n
 induction n with
 | zero=>exact λ_=>⟨rfl,λz b=>by rw[AS.mp b];exact⟨⟨by simp,λc f=>by simp_all⟩,by simp⟩⟩
 | succ n ih=>
  intro d
  obtain⟨h1,h2⟩:=ih (by ext)
  unfold gm at h1
  have e:(dt (pa rs sg) (bH rs []) n)[n]? = ((qi rs sg n)[n]?).map (bH rs):=by rw[<-h1,AZ]
  cases q:(qi rs sg n)[n]? with
  | none=>
   rw[q]at e
   refine⟨?_,λz b=>?_⟩
   .unfold gm
    rw[qi,dt,q,e];exact h1
   .rw[qi,q]at b
    ext
  | some z=>
   rw[q]at e
   refine⟨?_,λx a=>?_⟩
   .unfold gm
    rw[qi,dt,q,e]
    simp[Option.map_some]
    rw[VU,h1,Vt M (h2 z (AD q)).1]
   .rw[qi,q]at a
    rcases uq _ a with a|a
    · ext
    · exact Tu (h2 z (AD q)).1 (h2 z (AD q)).2 (by ext) a
structure qa(rs:List Rw)(sg most N:Nat):Prop where
 on:∀ m,m < N->m < (gm rs sg m).length/\(gm rs sg m).length<=most
 off:(gm rs sg N).length<=N\/most < (gm rs sg N).length
theorem Vs{P:Nat->Prop}:∀ K:Nat,P K->∃ n,n<=K/\P n/\∀ m,m < n->¬ P m:=by
 intro K
 induction K using Nat.strongRecOn with
 | _ K ih=>
  ext
theorem Tt(rs:L9 Rw)(sg a:Nat):∃ N,N<=a/\qa rs sg a N:=by
 obtain⟨n,h1⟩:=Vs (P:=λn=>(gm rs sg n).length<=n\/a < (gm rs sg n).length) a (by ext)
 exact⟨n,h1.1,λm b=>by ext,h1.2.1⟩
theorem qa.full{a:Nat}(E:qa rs sg a N)(h:(gm rs sg N).length<=a):(gm rs sg N).length=N:=by
 rcases E.off with q|q
 .cases N with
  | zero=>simp_all
  | succ n=>
   have h1:=(E.on n (by simp)).1
   have h2:(gm rs sg n).length<=(gm rs sg _).length:=(nW _ _ n).length_le
   ext
 ext
def YF(rs:L9 Rw)(sg:Nat):Sq where
 after:=pa rs sg
 x0:=bH rs []
 stop fs _:=decide (200 < fs.length)
 k1:=4
 k2:=1
 G:=gC 2 c7 [.d (.list ((range sg).map (eD rs)))]
 D:=gC 2 eF []
theorem t4(M:cg rs sg)(a:n<=900)(h:x∈gm rs sg n):∃ z,aN sg z/\x=bH rs z:=by
 obtain⟨h1,h2⟩:=zE M n a
 ext
theorem WE(M:cg rs sg)(S:aN sg z):mF (bH rs z)=true:=by
 exact SK (Mr M S).1 (Mr M S).2
theorem LX{a:Nat}(M:cg rs sg)(E:qa rs sg a N)(d:1<=a):(gm rs sg N).length<=a+3:=by
 cases N with
 | zero=>show 1<=a+3;simp
 | succ n=>
  obtain⟨h1,h2⟩:=E.on n (by simp)
  have b:(dt _ _ n)[n]? = some (dt _ _ n)[n]:=AJ h1
  have c:=SR (pa rs sg (dt _ _ n)[n]) (dt (pa rs sg) (bH rs []) n)
  rw[<-nV b]at c
  have e:(pa rs sg (dt _ _ n)[n]).length=sg:=by unfold pa;simp
  have:=M.qc
  unfold gm at h2 ⊢
  ext
theorem Ts(M:cg rs sg)(E:qa rs sg 200 N)(i:N<=200):(YF rs sg).ok N where
 on m h:=⟨(E.on m h).1,BB (by have:=(E.on m h).2;unfold gm at this;show ¬ 200 < (dt (pa rs sg) (bH rs []) m).length;ext)⟩
 off:=E.off.imp id λh=>A2 h
 key:=.inl λx b=>by
  obtain⟨z,S,rfl⟩:=t4 M (by ext) (show x∈gm rs sg N from b)
  exact WE M S
 len:=by have:=LX M E (by ext);show(gm rs sg N).length<=_;ext
 vc:=by show 4<=12;decide
 Gs:=by show 1<=12;decide
 hG m x hm b:=by
  obtain⟨z,S,rfl⟩:=t4 M (show N<=900 by ext) (AD b)
  have e:=cL (fs:=stN 0) (fe:=eA (aK 2 fJ (aC (vV 1) (aC (vV 0) aF)))) (Y0:=[none,some (.d (bH rs z))]) (d:=eD rs) (g:=Dq rs (bH rs z)) (xs:=range sg) λk a=>by
   refine⟨_,rfl,?_⟩
   have a:=B9.mp a
   have:=xL M S (c:=97+k) (by unfold bK;exact A2 (by ext))
   rw[show 97+k - 97=k by ext,<-Mq M S a]at this
   simp[this]
  have hi:=gF (xs:=(range sg).map (eD rs)) (by have:=M.qc;simp;ext)
  have f:(pa rs sg (bH rs z)).length=sg:=by unfold pa;simp
  have j:=M.qc
  refine⟨⟨.list (pa rs sg (bH rs z)),?_,gF (by ext)⟩,by show(pa rs sg (bH rs z)).length<=_;ext⟩
  show gC 2 c7 [.d (.list ((range sg).map (eD rs)))] [bH rs z]=_
  unfold gC c7
  simp[hi,eH,e,xn]
  rfl
 hD m hm f:=by
  show gC 2 eF [] [.list (gm rs sg m),.int (m:Int)]=.ok (.bool (decide (200 < (gm rs sg m).length)))
  unfold gC eF
  simp[tO,xn]
  ext
def Dn(rs:L9 Rw)(sg N:Nat):Dz:=.tuple [.tuple (iU (pa rs sg) (gm rs sg N) N),.tuple ((qi rs sg N).map λz=>.str (cT rs z))]
theorem QG(M:cg rs sg)(E:qa rs sg 200 N)(u:N<=200):gQ [.d (aL rs)]=if 200 < (gm rs sg N).length then .ex ⟨"TooMany",[]⟩else .ok (.d (Dn rs sg N)):=by
 have e:=YJ (Ts M E u)
 obtain⟨r,t,f⟩:=M.cons
 have b:dJ [.d (aL rs)]=.ok (.d (.int sg)):=by rw[f.1,u7,f.2]
 have a:=fV (n:=sg) (by have:=M.qc;ext)
 have k:=K1 M [some _,none,none,none,none] rfl
 rw[show eH _ _=[none,some _]from rfl]at k
 have Zq:=zE M N (by ext)
 have c:=cL (fs:=stN 0) (fe:=eA (aK 2 eK (aC (vV 1) (aC (vV 0) aF)))) (Y0:=[none,some (.d (aL rs))]) (d:=bH rs) (g:=λz=>.str (cT rs z)) λz q=>by
  refine⟨_,rfl,?_⟩
  have:=YG M (Zq.ok z q).1
  simp[this]
 rw[Zq.map]at c
 have s:=LX M E (by simp)
 have j:=gF (xs:=gm rs sg N) (by ext)
 have e:kH [.d (bH rs []),.g 4 1 (gC 2 c7 _),.g 1 2 (gC 2 eF [])]=.ok (.d (.tuple [.list (gm rs sg N),.list (iU (pa rs sg) (gm rs sg N) N)])):=e
 generalize i:iU _ _ N=l at e
 have p:b_ (.tuple [.list (gm rs sg N),.list l]) (.int 0)=.ok (.list (gm rs sg N)):=rfl
 have o:b_ (.tuple [.list (gm rs sg N),.list l]) (.int 1)=.ok (.list l):=rfl
 have v:(qi rs sg N).length<=16777216:=by
  have:((qi rs sg N).map (bH rs)).length<=16777216:=by rw[Zq.map];ext
  rwa [AL]at this
 by_cases h:200 < (gm rs sg N).length
 .have m:(200:Int) < ((gm rs sg N).length:Int):=by ext
  rw[AI h]
  unfold gQ oN
  simp[b,a,k,(HB M),yR,tF,yT,Ba,eB,yS,e,xn,p,o,tO,m,uV,sr,eH]
 .have m:¬ (200:Int) < ((gm rs sg N).length:Int):=by ext
  rw[AM h]
  unfold gQ oN Dn
  rw[i]
  simp[b,a,k,(HB M),yR,tF,yT,Ba,eB,yS,e,xn,p,o,tO,m,j,eH,c]
theorem Tr(M:cg rs sg)(h1:rs.length=1)(xs:L9 Dz)(nd:xs.Nodup)(h:∀ x∈xs,∃ z,aN sg z/\x=bH rs z):xs.length<=16:=by
 classical
 have j:=λz S=>h1▸p8 M S (rO M z)
 have g:∀ z,aN sg z->wz 1 (b8 rs z ((0:Nat))):=λz S=>h1▸p8 M S (vE (by ext))
 let code:=λz=>tc 1 (dU rs z (0,0)) * 4+tc 1 (b8 rs z (0))
 let f:=λx=>if h:∃ z,aN sg z/\x=bH rs z then code h.choose else 0
 have k:∀ x∈xs,∃ z,aN sg z/\x=bH rs z/\f x=code z:=λx d=>⟨(h x d).choose,(h x d).choose_spec.1,(h x d).choose_spec.2,dif_pos _⟩
 refine lY f 16 xs nd (λx d=>?_) (λa l b m e=>?_)
 .obtain ⟨z,S⟩:=k x d
  rw[S.2.2]
  have:=kZ (j z S.1)
  have:=kZ (g z S.1)
  ext
 .obtain ⟨z,S,e1,e2⟩:=k a l
  obtain⟨i,c⟩:=k b m
  rw[e1,c.2.1]
  rw[e2,c.2.2]at e
  have e:tc 1 _ * 4+tc 1 (b8 rs z ((0:Nat)))=tc 1 _ * 4+tc 1 (b8 rs i ((0:Nat))):=e
  have p:=kZ (g z S)
  have o:=kZ (g i c.1)
  have e1:tc 1 (b8 rs z ((0:Nat)))=tc 1 (b8 rs i ((0:Nat))):=by ext
  refine Nl (tZ (j z S) (j i c.1) (by ext)) λq n=>?_
  have:q=0:=by ext
  subst this
  exact tZ (g z S) (g i c.1) e1
section
variable{rs:L9 Rw}{sg N:Nat}
structure Wy(rs:List Rw)(sg N:Nat):Prop where
 m:cg rs sg
 len:(gm rs sg N).length=N
 n:N<=200
def vJ(rs:L9 Rw)(sg N:Nat):L9 (L9 Nat):=(gm rs sg N).map λx=>(pa rs sg x).map (qp (gm rs sg N))
def t5(rs:L9 Rw)(sg N:Nat):L9 Str:=(qi rs sg N).map (cT rs)
theorem QF(W:Wy rs sg N):Dn rs sg N=va (vJ rs sg N) (t5 rs sg N):=by
 unfold Dn va tw iU vJ t5 ym
 rw[CM (by rw[W.len];simp),B1,B1]
 rfl
theorem YE(W:Wy rs sg N)(E:qa rs sg 200 N):gQ [.d (aL rs)]=.ok (.d (va (vJ rs sg N) (t5 rs sg N))):=by
 have h:=QG W.m E W.n
 rw[AM (by have:=W.len;have:=W.n;ext),QF W]at h
 ext
theorem Wy.pos(W:Wy rs sg N):0 < N:=by
 have:=W.len
 cases N with
 | zero=>simp[gm,dt]at this
 | succ n=>simp
theorem Wy.Fp(W:Wy rs sg N):(qi rs sg N).length=N:=by
 have:=ES length ((zE W.m N (by have:=W.n;ext)).map)
 rw[AL,W.len]at this
 ext
theorem Wy.tu(W:Wy rs sg N):(vJ rs sg N).length=N:=by unfold vJ;rw[AL,W.len]
theorem Wy.OL(W:Wy rs sg N):Fh (vJ rs sg N) (t5 rs sg N) sg:=by
 have s1:=W.m.rh
 have i:=W.m.qc
 have n:=W.n
 have h:=W.pos
 have a:=W.tu
 refine⟨⟨by ext,by ext,by ext,by ext,λr hr=>?_⟩,?_,λw c=>?_⟩
 .obtain ⟨x,d,rfl⟩:=BG.mp hr
  refine⟨by unfold pa;simp,λj g=>?_⟩
  obtain⟨y,e,rfl⟩:=BG.mp g
  have f:y∈gm rs sg N:=QH (by have:=W.len;unfold gm at this;ext) d e
  have:=(AH.mp (KZ f)).1
  have:=W.len
  ext
 .unfold t5;rw[AL,W.Fp,a]
 .obtain ⟨z,b,rfl⟩:=BG.mp c
  exact VA W.m ((zE W.m N (by ext)).ok z b).1
end
section
variable{ap:L9 (L9 Nat)}{ws:L9 Str}{sg:Nat}
theorem Ei(M:ve ap sg)(l:q < ap.length)(b:Bm sg z)(r:z.length<=1000):dF [.d (tw ap wd),.d (.int (q:Int)),.d (cq z)]=.ok (.d (.int (runN ap q z:Int))):=by
 have n:bA (cq z)=.ok (z.map λu:Nat=>PyData.str ⟨#[u]⟩):=by
  have:=rJ (z:=⟨z.toArray⟩) (by ext)
  assumption
 obtain⟨t,o,u,rfl⟩:=jA (fs:=stN 3) (fb:=(aV 1 (vD (e2 b_ (e2 b_ (e2 b_ (rV 0) (eC (.int 0))) (rV 1)) (e2 gM (eC (.str "abc")) (rV 3)))))) (Y:=[some _,some (.d (.int q)),some _,none])
  (λi Y=>∃ u,Y=[some (.d (tw ap wd)),some (.d (.int (runN ap q (z.take i)))),some (.d (cq z)),u]) ⟨none,rfl⟩ λi c Y f g=>by
  obtain⟨u,e⟩:=g
  have a:runN ap q (z.take i) < ap.length:=iI M _ (λx k=>b x (EC k)) l
  have h:z.take (i+1)=z.take i++[c]:=by rw[List.take_succ,f];rfl
  have m:runN ap q (z.take (i+1))=yk ap (runN ap q (z.take i)) c:=by unfold runN;rw[h,List.foldl_append];rfl
  have v:b_ (tw ap wd) (.int 0)=.ok _:=rfl
  have p:b_ _ _=.ok (Au _):=g7 (cM (by rw[AZ,(M.at a).1];rfl))
  have s:b_ (Au _) _=.ok _:=g7 (cM (by rw[AZ,(LY M a (b c (AD f))).1];rfl))
  have id:=m4 (lL M.s3 (b c (AD f)))
  refine⟨[some _,some _,some _,some (.d (.str ⟨#[c]⟩))],_,by rw[e];rfl,.inl ?_,some (.d (.str ⟨#[c]⟩)),rfl⟩
  rw[m]
  generalize ap.getD _ []=j at *
  simp_all
 unfold dF wD
 simp_all
def itR(ap:L9 (L9 Nat))(q:Nat)(z:L9 Nat):Nat->Nat
 | 0=>q
 | k+1=>runN ap (itR ap q z k) z
theorem p9(M:ve ap sg)(hq:q < ap.length)(hz:Bm sg z):∀ k,itR ap q z k < ap.length
 | 0=>hq
 | k+1=>iI M z hz (p9 M hq hz k)
def ie(ap:L9 (L9 Nat))(q:Nat)(z:L9 Nat)(m:Nat):L9 Dz:=(range m).map λk=>.int (itR ap q z k:Int)
def mx(ap:L9 (L9 Nat))(wd:L9 Dz)(q:Nat)(z:L9 Nat)(m:Nat):Sg:=[some (.d (tw ap wd)),some (.d (.int (itR ap q z m:Int))),some (.d (cq z)),some (.m (eO (ie ap q z m)))]
@[simp] theorem Ze(i:Nat)(Y:Sg):yV i Y=match Y[i]? with
 | some (some (.m bd))=>if bd.length<=16777216 then .ok (.int (bd.length:Int))else .bad
 | some (some (.f bd))=>if bd.length<=16777216 then .ok (.int (bd.length:Int))else .bad
 | _=>.bad:=id rfl
@[simp] theorem Zd(i:Nat)(Y:Sg):zB i Y=match Y[i]? with
 | some (some (.m bd))=>if bd.length<=16777216 then .ok (bd.map (·.1))else .bad
 | _=>.bad:=id rfl
theorem QE:∀ x∈ie ap q z m,∃ i:Int,x=.int i:=λx a=>by
 obtain⟨k,_,rfl⟩:=BG.mp a
 simp
theorem WD{fs:L9 Dz}{i:Int}(h:∀ y∈fs,∃ j:Int,y=.int j):cZ (.int i) ((eO fs).map (·.1))=true:=by
 rw[nU]
 unfold cZ
 rw[D5,BA,BA]
 exact .inr ⟨rfl,B7.mpr λy a=>by obtain⟨j,rfl⟩:=h y a;rfl⟩
theorem Tq(M:ve ap sg)(w:q < ap.length)(t:Bm sg z)(D:z.length<=1000):∀ (n m:Nat),(ie ap q z m).Nodup->ap.length+1<=m+n->
  ∃ m' s,s < m'/\m'<=ap.length/\itR ap q z m'=itR ap q z s/\aG (bF xa zg) Cb (mx ap wd q z m)=.ok (.rt (.d (.tuple [.list (ie ap q z m'),.int (s:Int)]))):=by
 have sr:∀ m,(ie ap q z m).Nodup->m<=ap.length:=λm nd=>by
  have:=Tw nd λx C=>by
   obtain⟨k,_,rfl⟩:=BG.mp C
   exact⟨itR ap q z k,p9 M w t k,rfl⟩
  simpa[ie] using this
 intro n
 induction n with
 | zero=>
  intro m nd L
  have:=sr m nd
  ext
 | succ n ih=>
  intro m nd L
  have u:=sr m nd
  have E:=M.n2
  have l:(ie ap q z m).length=m:=by unfold ie;simp
  have f:=WD (fs:=ie ap q z m) (i:=(itR ap q z m)) QE
  have o:(eO (ie ap q z m)).length=m:=by rw[Mw,l]
  by_cases c:PyData.int (itR ap q z m)∈ie ap q z m
  .obtain ⟨s,H,B⟩:=Mu c
   have v:s < m:=by ext
   have es:itR ap q z m=itR ap q z s:=by
    unfold ie at B
    rw[AZ,E7 v]at B
    ext
   refine⟨m,s,v,u,es,?_⟩
   have r:xa (mx ap wd q z m)=.ok false:=by
    have:=IM.mpr c
    generalize j:eO (ie ap q z m)=I at *
    simp[xa,mx,j,f,this]
   have y:=nU (ie ap q z m)
   have h:m<=16777216:=by ext
   rw[aU,cC r]
   unfold mx
   generalize j:eO (ie ap q z m)=I at *
   generalize ie ap q z m=N at *
   rw[y]at f
   simp[Cb,o,h,y,f,H]
  .have r:xa (mx ap wd q z m)=.ok true:=by
    have:=xM c
    generalize j:eO (ie ap q z m)=I at *
    simp[xa,mx,j,f,this]
   have g:=Mv c
   rw[l]at g
   have p:ie ap q z m++[.int (itR ap q z m:Int)]=ie ap q z (m+1):=by unfold ie;rw[List.range_succ,BZ];rfl
   rw[p]at g
   have h:m<=16777216:=by ext
   have G:zg (mx ap wd q z m)=.ok (.nx (mx ap wd q z (m+1))):=by
    show _=R.ok (Fw.nx [some (.d (tw ap wd)),some (.d (.int (runN ap (itR ap q z m) z:Int))),some (.d (cq z)),some (.m (eO (ie ap q z (m+1))))])
    rw[<-g]
    generalize j:eO (ie ap q z m)=I at *
    simp[zg,mx,j,o,h,f,(Ei M (wd:=wd) (p9 M w t m) t D)]
   obtain⟨m',s,h1,h2,J,A⟩:=ih (m+1) (by
    rw[<-p]
    exact CV.mpr ⟨nd,by simp,λa K b F e=>by rw[AS.mp F]at e;subst e;exact c K⟩) (by ext)
   refine⟨m',s,h1,h2,J,?_⟩
   rw[aU]at A ⊢
   rw[eX r G]
   exact A
theorem Tp(M:ve ap sg)(b:q < ap.length)(f:Bm sg z)(c:z.length<=1000) :
  ∃ m s,s < m/\m<=ap.length/\itR ap q z m=itR ap q z s/\gP [.d (tw ap wd),.d (.int (q:Int)),.d (cq z)]=.ok (.d (.tuple [.list (ie ap q z m),.int (s:Int)])):=by
 obtain⟨m,s,h1,h2,g,a⟩:=Tq M b f c (ap.length+1) 0 (DS) (by simp)
 refine⟨m,s,h1,h2,g,?_⟩
 unfold gP
 rw[pZ]
 simp only[cX,aU,rG,R.cf,AV,BF,A7,BC,AT,A9,replicate,A4,A3]
 rw[aU]at a
 have e:mx ap wd q z 0=[some _,some (.d (.int q)),some _,some (.m [])]:=rfl
 rw[e]at a
 rw[a];rfl
end
end _e
variable{x q:Str}
namespace _f
@[simp] theorem Zh(i:Nat)(Y:Sg):vO i Y=match Y[i]? with|some (some (.o e))=>.ok (.o e)|_=>.bad:=id rfl
@[simp] theorem II(cn:Str)(fs:L9 Str)(f:Sg->R (L9 Dz))(Y:Sg):rM cn fs f Y=(f Y).bind λxs=>if xs.length=fs.length then .ok (.o ⟨cn,fs.zip xs⟩)else .bad:=id rfl
@[simp] theorem Ik(f:Sg->R A)(m:Str)(tb:L9 (Str×(L9 A->R A)))(Y:Sg):u5 f m tb Y=(f Y).bind λa=>match a with
 | .o e=>if (e.fs.lookup m).isNone=true then(match tb.lookup e.c with|some G=>G [.o e]|none=>.bad)else .bad
 | _=>.bad:=id rfl
@[simp] theorem Zl(i:Nat)(cs:L9 Str)(g:Str)(Y:Sg):vv i cs g Y=match Y[i]? with
 | some (some (.o e))=>if cs.contains e.c=true then(match e.fs.lookup g with|some d=>.ok d|none=>.bad)else .bad
 | _=>.bad:=id rfl
@[simp] theorem To(f g:Sg->R Dz)(Y:Sg):Dr f g Y=(f Y).bind λx=>if Gi x=true then(g Y).bind λy=>Av x y else .bad:=id rfl
@[simp] theorem Pp(xs:L9 Dz):Gi (.list xs)=true:=id rfl
@[simp] theorem ZK(f:Sg->R (L9 Dz))(g:Sg->R Dz)(Y:Sg):HC f g Y=(f Y).bind λxs=>(g Y).bind λy=>HD xs y:=id rfl
@[simp] theorem Vr(i:Nat)(b a:Sg->R (L9 Dz))(fs:Dz->Sg->O9 Sg)(c fe:Sg->R Dz)(Y:Sg):HE i b a fs c fe Y=(b Y).bind λxs=>if i < Y.length/\jZ (Y.set i none)=true then(a (Y.set i none)).bind λys=>(oP fs c fe ys (replicate xs.length []) (Y.set i none)).bind λr=>.ok (.nx (r.2.set i (some (.d (.list (r.1.map PyData.list))))))else .bad:=id rfl
theorem QD{i:Int}(h0:0<=i)(h1:i < n):ni n i=some i.toNat:=by unfold ni;simp_all
end _f
variable{a:Int×Int}{c:L9 (L9 Dz)}
namespace _e
open _f
variable{rs:L9 Rw}{Y:Sg}
structure fx(rs:List Rw)(z:List Nat)(ps:List (Int×Int))(s:Int×Int):Prop where
 nd:ps.Nodup
 val:∀ x∈ps++[s],fK rs z x
 Y8:(ps++[s])[0]? = some (0,0)
 step:∀ (k:Nat) a b,(ps++[s])[k]? = some a->(ps++[s])[k+1]? = some b->bZ rs z a=some b
 fin:(s∉ps/\bZ rs z s=none)\/(s∈ps/\∃ s',bZ rs z s=some s')
 sr:ps.length<=n8 rs z
theorem Vq(M:cg rs sg)(S:aN sg z):∀ (k:Nat) (ps:L9 (Int×Int)) (s:Int×Int),Way rs z ps s k->(ps++[s])[0]? = some (0,0)->(∀ (k:Nat) a b,(ps++[s])[k]? = some a->(ps++[s])[k+1]? = some b->bZ rs z a=some b)->∃ t_ s',eP rs z=t_++[s']/\fx rs z t_ s':=by
 have f:∀ k ps s,Way rs z ps s k->(ps++[s])[0]? = some (0,0)->(∀ k a b,(ps++[s])[k]? = some a->(ps++[s])[k+1]? = some b->bZ rs z a=some b)->s∈ps->∃ t_ s',eP rs z=t_++[s']/\fx rs z t_ s':=by
  intro k ps s W d h1 c
  refine⟨ps,s,(W.stop c).symm,W.nd,W.val,d,h1,.inr ⟨c,?_⟩,by have:=W.num;ext⟩
  obtain⟨j,n⟩:=E4 c
  have i:=(AH.mp n).1
  have e2:∃ b,(ps++[s])[j+1]? = some b:=⟨_,AJ (by simp_all)⟩
  obtain⟨b,e2⟩:=e2
  exact⟨b,h1 j s b (by rw[A8 i];ext) e2⟩
 intro k
 induction k with
 | zero=>
  intro ps s W d h1
  by_cases c:s∈ps
  .exact f 0 ps s W d h1 c
  .have j:=W.more c;ext
 | succ k ih=>
  intro ps s W d h1
  by_cases c:s∈ps
  .exact f _ ps s W d h1 c
  .cases e:bZ rs z s with
   | none=>exact⟨ps,s,(W.ends c e).symm,W.nd,W.val,d,h1,.inl ⟨c,e⟩,by have:=W.num;ext⟩
   | some s'=>
    refine ih _ s' (W.next M S c e) (by rw[A8 (by simp)];ext) λk a b e1 e2=>?_
    by_cases h:k+1 < (ps++[s]).length
    .rw[A8 h]at e2
     rw[A8 (by ext)]at e1
     exact h1 k a b e1 e2
    .have g:k+1 < (ps++[s]++[s']).length:=(AH.mp e2).1
     rw[AY,AY]at g
     rw[AY]at h
     simp only[AT,A9]at h g
     have l:k=ps.length:=by ext
     subst l
     have m:(ps++[s]++[s'])[ps.length]? = some s:=by rw[A8 (by simp),CL (AG _)];simp
     have o:(ps++[s]++[s'])[ps.length+1]? = some s':=by rw[CL (by simp)];simp
     rw[m]at e1;rw[o]at e2
     cases e1;cases e2
     exact e
theorem SD(M:cg rs sg)(S:aN sg z):∃ ps s,eP rs z=ps++[s]/\fx rs z ps s:=
 Vq M S _ [] _ (Way.start M) rfl λk a b e1 e2=>by
  simp_all
section
variable{rs:L9 Rw}{sg:Nat}{z:Str}
theorem HA(M:cg rs sg)(S:aN sg z.cps.toList)(V:fK rs z.cps.toList s):l9 [.d (aL rs),.d (.str z),.d (dh s)]=.ok (.d (.tuple [(aQ rs z.cps.toList s).1.d,.int (aQ rs z.cps.toList s).2])):=by
 obtain⟨p,q⟩:=s
 have hr:=y9 V.2.2.1 V.2.2.2
 have j:z.length<=16777216:=by rw[lN];have:=S.1;ext
 have f:=y7 j
 rw[lN]at f
 generalize A:z.cps.toList=b at *
 have i:b_ (dh (p,q)) (.int 0)=.ok (.int p):=rfl
 have h:b_ (dh (p,q)) (.int 1)=.ok (.int q):=rfl
 have u:∀ r:Rw,b_ (cU r) (.int 0)=.ok r.l.d:=λr=>rfl
 have r1:∀ r:Rw,b_ (cU r) (.int 1)=.ok _:=λr=>rfl
 have r2:∀ r:Rw,b_ (cU r) (.int 2)=.ok r.r.d:=λr=>rfl
 unfold l9 N1
 by_cases a:p=0
 .subst a
  have e:aQ rs b (0,q)=((aZ rs q).l,1):=by rfl
  rw[e]
  simp[i,h,hr,u,cY]
 .by_cases h1:p=(b.length:Int)+1
  .have e:aQ rs b (p,q)=((aZ rs q).r,-1):=by unfold aQ;rw[AM a,AI h1]
   rw[e]
   have x:¬ ((b.length:Int)+1=0):=by ext
   have e0:ey (.int p) (.int 0)=.ok (.bool false):=by rw[cY,BB a]
   have e1:ey (.int p) (.int ((b.length:Int)+1))=.ok (.bool true):=by rw[cY,A2 h1]
   simp[i,h,hr,r2,e0,e1,f]
  .obtain ⟨c,o,B,k⟩:=zU S V a h1
   obtain⟨g,m,t,D⟩:=qM M S V a h1
   have C:=V.1
   have v:=V.2.1
   simp only at C v o k m t
   have e:aQ rs b (p,q)=(.n g.1,g.2):=by unfold aQ;rw[AM a,AM h1];simp only[t]
   rw[e]
   have y:b_ (.str z) (.int (p - 1))=.ok (.str ⟨#[c]⟩):=El j (jL (by ext) (by rw[A,<-o];congr 1;ext))
   have w:b_ (.tuple ((aZ rs q).c.map dr)) (.int ((c - 97:Nat):Int))=.ok (dr g):=g7 (cM (by rw[AZ,<-k,m];rfl))
   simp[i,h,hr,r1,cY,a,f,h1,y,(m4 (lL M.qc B)),w]
   rfl
theorem wh(M:cg rs sg){a:L9 Nat}(V:fK rs a s)(h:(aQ rs a s).1=.w x):x="by"\/x="out":=by
 have g:=(M.row _ (AD (cK V.2.2.1 V.2.2.2))).1
 unfold aQ at h
 split at h
 .have h:(aZ rs s.2).l=.w x:=h
  have:=g.1;rw[h]at this;exact this
 .split at h
  .have h:(aZ rs s.2).r=.w x:=h
   have:=g.2.1;rw[h]at this;exact this
  ext
def lh(rs:L9 Rw)(z:Str)(ps:L9 (Int×Int))(s:Int×Int)(u:O9 A):Sg:=[some (.d (aL rs)),some (.d (.str z)),some (.d (dh s)),some (.l (ps.map dh++[dh s])),some (.m (ef dh ps)),u]
theorem QC{u:O9 A}(h:s∈ps):wa (lh rs z ps s u)=.ok false:=by
 simp[wa,lh,(eY iH ps s),((lI iG).mpr h)]
theorem LW{u:O9 A}(h:s∉ps):wa (lh rs z ps s u)=.ok true:=by
 simp[wa,lh,(eY iH ps s),(gS iG h)]
theorem SA(M:cg rs sg)(S:aN sg z.cps.toList){u:O9 A}(V:fK rs z.cps.toList s)(h:s∉ps)(b:ps.length<=2000000)(e:(aQ rs z.cps.toList s).1=.w x):wb (lh rs z ps s u)=.ok (.rt (.d (.list ((ps++[s]).map dh)))):=by
 have a:(ef dh ps).length<=16777216:=by rw[g8];ext
 have f:=HA M S V
 rw[e]at f
 simp[wb,lh,(eY iH ps s),a,f,Tn.d,(XS (wh M V e))]
theorem Q7(M:cg rs sg)(S:aN sg z.cps.toList){u:O9 A}{q:Int}(V:fK rs z.cps.toList s)(h:s∉ps)(g:ps.length<=2000000)(e:(aQ rs z.cps.toList s).1=.n q) :
  ∃ u',wb (lh rs z ps s u)=.ok (.nx (lh rs z (ps++[s]) (s.1+(aQ rs z.cps.toList s).2,q) u')):=by
 have c:(ef dh ps).length<=16777216:=by rw[g8];ext
 have f:=HA M S V
 rw[e]at f
 generalize (aQ rs z.cps.toList s).2=t at *
 have b:ps.length+1 < 16777216:=by ext
 have a:b_ (dh s) (.int 0)=.ok _:=rfl
 have p2:∀ i:Int,dh (i,q)=.tuple _:=λi=>rfl
 exact⟨some (.d (.tuple [.int q,.int t])),by simp[wb,lh,(eY iH ps s),(lJ iG h),c,f,Tn.d,(XT q),a,p2,b]⟩
theorem Sz(M:cg rs sg)(S:aN sg z.cps.toList):∀ (k:Nat) (ps:L9 (Int×Int)) (s:Int×Int) (u:O9 A),Way rs z.cps.toList ps s k->
  aG (bF wa wb) (ri 3 (aM (vV 3))) (lh rs z ps s u)=.ok (.rt (.d (.list ((eP rs z.cps.toList).map dh)))):=by
 have g:n8 rs z.cps.toList<=1002 * 1000:=GV (by have:=S.1;ext) M.l_
 have b:∀ k ps s u,Way rs z.cps.toList ps s k->s∈ps->aG (bF wa wb) (ri 3 (aM (vV 3))) (lh rs z ps s u)=.ok (.rt (.d (.list ((eP rs z.cps.toList).map dh)))):=by
  intro k ps s u W a
  rw[aU,cC (QC a),<-W.stop a]
  simp[lh]
 intro k
 induction k with
 | zero=>
  intro ps s u W
  by_cases a:s∈ps
  .exact b 0 ps s u W a
  .have j:=W.more a;ext
 | succ k ih=>
  intro ps s u W
  by_cases a:s∈ps
  .exact b _ ps s u W a
  .cases c:(aQ rs z.cps.toList s).1 with
   | w x=>
    rw[aU,kK (LW a) (SA M S W.here a (by have:=W.num;ext) c),<-W.ends a (by unfold bZ;rw[c])];rfl
   | n q=>
    obtain⟨f,e⟩:=Q7 M S W.here a (by have:=W.num;ext) c
    have:=ih _ _ f (W.next M S a (by unfold bZ;rw[c]))
    rw[aU]at this ⊢
    rw[eX (LW a) e]
    ext
theorem LV(M:cg rs sg)(S:aN sg z.cps.toList):mB [.d (aL rs),.d (.str z)]=.ok (.d (.list ((eP rs z.cps.toList).map dh))):=by
 have h:=Sz M S _ [] _ none (Way.start M)
 have h:aG _ _ [some _,some _,some (.d (.tuple _)),some (.l [.tuple _]),some (.m []),none]=.ok _:=h
 unfold mB
 rw[Eg]
 rw[aU]at h
 simp only[cX,aU,xG,gE,kR,(lK M S),rG,lG,IT,eM,fN,rF,fA,R.cf,AT,A9,Nat.reduceAdd,Nat.reduceLeDiff,CG,AV,BF,A7,BC,replicate,A4,A3,AW,AK,eG,iO,h]
end
theorem xO(i:Nat)(f g:Sg->R Dz)(Y:Sg):Dy i f g Y=(g Y).bind λx=>match Y[i]? with
 | some (some (.l xs))=>(f Y).bind λk=>match k with
  | .int k=>match ni xs.length k with
   | some j=>.ok (.nx (Y.set i (some (.l (xs.set j x)))))
   | none=>.bad
  | _=>.bad
 | _=>.bad:=id rfl
def yi(a b:Int×Int):Nat:=(nL a.1 b.1).toNat
def yj(eg:L9 (L9 Dz))(a b:Int×Int):L9 (L9 Dz):=eg.set (yi a b) (eg.getD (yi a b) []++[.int b.2])
def pq:L9 (Int×Int)->L9 (L9 Dz)->L9 (L9 Dz)
 | a::b::t,eg=>pq (b::t) (yj eg a b)
 | _,eg=>eg
def y2(n:Nat)(l:L9 (Int×Int)):Prop:=∀ (k:Nat) a b,l[k]? = some a->l[k+1]? = some b->0<=nL a.1 b.1/\nL a.1 b.1 < n
theorem y2.tail(h:y2 n (a::l)):y2 n l:=λk x y e1 e2=>h (k+1) x y (by assumption) (by assumption)
theorem Nk(c:L9 (L9 Dz))(a b:Int×Int):(yj c a b).length=c.length:=by unfold yj;rw[BJ]
theorem LU:∀ (l:L9 (Int×Int)) (eg:L9 (L9 Dz)),(pq l eg).length=eg.length
 | [],_=>rfl
 | [_],_=>rfl
 | a::b::t,eg=>by unfold pq;rw[LU _,Nk]
def Fo(m:Nat)(eg:L9 (L9 Dz)):Prop:=∀ r∈eg,r.length+m<=16777000
theorem Nj{a:L9 (L9 Dz)}(h:Fo m a)(j:Nat)(b:m<=16777000):(a.getD j []).length+m<=16777000:=by
 rw[BO]
 cases e:a[j]? with
 | none=>simp_all
 | some r=>exact h r (AD e)
theorem Vp{b:Int×Int}(h:Fo (m+1) c)(d:m+1<=16777000):Fo m (yj c a b):=λr hr=>by
 rcases FU hr with q|q
 .have:=h r q;ext
 .have:=Nj h (yi a b) d
  rw[q,AY,DJ];ext
section
variable{D0 D1:Dz}
theorem NV:∀ (l:L9 (Int×Int)) (eg:L9 (L9 Dz)) (u3 u4:O9 A),y2 eg.length l->Fo l.length eg->l.length<=16777000->
  ∃ Ft Fs,oP (u6 [(stN 3),(stN 4)]) (e2 (d2 nL) (e2 b_ (rV 3) (eC (.int 0))) (e2 b_ (rV 4) (eC (.int 0)))) (e2 b_ (rV 4) (eC (.int 1))) ((l.zip (l.drop 1)).map λp=>.tuple [dh p.1,dh p.2]) eg [some (.d D0),some (.d D1),none,u3,u4]=.ok (pq l eg,[some (.d D0),some (.d D1),none,Ft,Fs])
 | [],eg,u3,u4,_,_,_=>⟨u3,u4,rfl⟩
 | [a],eg,u3,u4,_,_,_=>⟨u3,u4,rfl⟩
 | a::b::t,eg,u3,u4,h,hf,hl=>by
  obtain⟨Ft,Fs,q⟩:=NV _ (yj eg a b) _ _ (by rw[Nk];exact h.tail) (Vp hf hl) (by ext)
  refine⟨Ft,Fs,?_⟩
  have e:((a::b::t).zip ((a::b::t).drop 1)).map (λp=>PyData.tuple [dh p.1,dh p.2])=.tuple [dh a,dh b]::(((b::t).zip _).map λp=>PyData.tuple _):=rfl
  rw[e]
  unfold oP pq
  have n:=Nj hf (yi a b) hl
  have f:∀ s:Int×Int,b_ (dh s) (.int 0)=.ok _:=λs=>rfl
  have k:∀ s:Int×Int,b_ (dh s) (.int 1)=.ok _:=λs=>rfl
  have g:∀ i j:Int,d2 nL (.int i) (.int j)=.ok _:=λi j=>rfl
  have c:jZ [some (A.d D0),some (.d D1),none,some (.d (dh a)),some (.d (dh b))]=true:=rfl
  simp only[RA,VE,K7,Tz,EV,A3,A4,l8,R.cf,c,CG,gZ,fO,fN,AK,AW,f,k,g,(QD (h 0 a b rfl rfl).1 (h 0 a b rfl rfl).2)]
  have m:yi a b=(nL a.1 b.1).toNat:=rfl
  rw[<-m,AI (by ext)]
  exact q
end
theorem WC(l:L9 (Int×Int)):(((l.map dh).zip ((l.map dh).drop 1)).map _f.HI)=(l.zip (l.drop 1)).map λp=>PyData.tuple [dh p.1,dh p.2]:=by
 rw[<-List.map_drop,List.zip_map,B1];rfl
theorem YD(xs:L9 Dz)(h:xs≠[]):kQ xs (some 1) none=xs.drop 1:=by
 have h1:1<=xs.length:=by cases xs with|nil=>exact absurd rfl h|cons _ _=>simp
 have e:_b.fo xs.length 0 (some 1)=1:=by
  have:=_b.zM xs.length 0 1
  ext
 unfold kQ
 rw[_b.wL,e,CM (by simp)]
def iB(eg:L9 (L9 Dz)):Dz:=.tuple (eg.map PyData.tuple)
theorem Q6{z:Str}(t:z.cps.toList.length<=1000)(y:l≠[])(w:l.length<=16000000)(u:y2 (z.cps.toList.length+1) l) :
  jD [.d (.list (l.map dh)),.d (.str z)]=.ok (.d (iB (pq l (replicate (z.cps.toList.length+1) [])))):=by
 have b:=y7 (z:=z) (by rw[lN];ext)
 rw[lN]at b
 have hr:kP 0 (z.cps.toList.length+1)=.ok ((range (z.cps.toList.length+1)).map λi:Nat=>.int i):=by
  have:=XU (n:=z.cps.toList.length+1) (by ext)
  simp_all
 obtain⟨k,o,q⟩:=NV (D0:=.list (l.map dh)) (D1:=.str z) l (replicate _ []) none none (by rw[CQ];ext) (λr hr=>by rw[GD hr];simp;ext) (by ext)
 have c:yn (.list (l.map dh)) (.list ((l.map dh).drop 1))=.ok ((l.zip (l.drop 1)).map λp=>PyData.tuple [dh p.1,dh p.2]):=by
  unfold yn
  rw[gF (by ext),R.cf,gF (by rw[CF,AL];ext),R.cf,WC]
 have g:ia (.list (l.map dh)) (some 1) none=.ok (.list ((l.map dh).drop 1)):=by rw[PF,YD _ (by simp_all)]
 generalize s:pq l _=a at *
 have j:a.length=z.cps.toList.length+1:=by rw[<-s,LU,CQ]
 have h:bA _=.ok (a.map PyData.list):=gF (by ext)
 have m:di (stN 0) dS (e1 ew (rV 0)) (eH [none] [some (.d (.list (l.map dh))),some (.d (.str z)),some (.d (.list (a.map PyData.list))),k,o]) (a.map PyData.list)=.ok _:=cL λx v=>⟨_,rfl,rfl⟩
 unfold jD tW
 have f:jZ [some (A.d (.list (l.map dh))),some (.d (.str z)),none,none,none]=true:=rfl
 have e:replicate 3 (none:O9 A)=[none,none,none]:=rfl
 simp only[cX,aU,Vr,kU,gZ,fU,fO,rF,fN,AV,BF,AT,A9,Nat.reduceAdd,e,A7,BC,AK,AW,b,R.cf,y6,hr,A3,A4,f,and_true,Nat.reduceLT,CG,yZ,y4,y3,g,c,AL,B8,q,jK,iO,Kj,lH,h,m]
 rfl
theorem Vo{b:Int×Int}(M:cg rs sg)(S:aN sg z)(V:fK rs z a)(h:bZ rs z a=some b):0<=nL a.1 b.1/\nL a.1 b.1 < ((z.length+1:Nat):Int):=by
 have W:=qN M S V h
 have i:b.1=a.1+1\/b.1=a.1 - 1:=by
  unfold bZ at h
  cases e:(aQ rs z a).1 with
  | w x=>simp_all
  | n q=>
   rw[e]at h
   cases h
   have g:(aQ rs z a).2=1\/(aQ rs z a).2 = -1:=by
    by_cases c:a.1=0
    .left;unfold aQ;rw[AI c]
    .by_cases h1:a.1=z.length+1
     .right;unfold aQ;rw[AM c,AI h1]
     .obtain ⟨j,d⟩:=qM M S V c h1
      unfold aQ
      rw[AM c,AM h1]
      simp only[d.2.1]
      exact d.2.2.2.2
   ext
 obtain⟨k,f,_,_⟩:=V
 obtain⟨w1,w2,_,_⟩:=W
 unfold nL
 ext
theorem fx.O_(M:cg rs sg)(S:aN sg z)(P:fx rs z ps s):y2 (z.length+1) (ps++[s]):=λk a b e1 e2=>
 Vo M S (P.val a (AD e1)) (P.step k a b e1 e2)
def iN(rs:L9 Rw)(z:L9 Nat)(ps:L9 (Int×Int))(s:Int×Int):Er:=
 if cT rs z="by" then⟨"LetBy",[("place",.int s.1),("room",.int s.2),("borders",iB (pq (ps++[s]) (replicate (z.length+1) [])))]⟩
 else if cT rs z="out" then⟨"ShutOut",[("place",.int s.1),("room",.int s.2),("borders",iB (pq (ps++[s]) (replicate (z.length+1) [])))]⟩
 else⟨"ForEver",[("place",.int s.1),("room",.int s.2),("first",.int (ps.idxOf s)),("again",.int ps.length)]⟩
inductive oy(rs:List Rw)(z:List Nat)(ps:List (Int×Int))(s:Int×Int):Prop
 | b (h:cT rs z="by") (n:s∉ps) (e:bZ rs z s=none) (c:(aQ rs z s).1=.w "by")
 | o (h:cT rs z="out") (n:s∉ps) (e:bZ rs z s=none) (c:(aQ rs z s).1=.w "out")
 | e (h:cT rs z="ever") (n:s∈ps) (q:Int) (c:(aQ rs z s).1=.n q)
theorem Hy{z:Str}(M:cg rs sg)(S:aN sg z.cps.toList):∃ ps s,eP rs z.cps.toList=ps++[s]/\fx rs z.cps.toList ps s/\oy rs z.cps.toList ps s:=by
 obtain⟨ps,s,e,P⟩:=SD M S
 obtain⟨_,k,s',f,V,q⟩:=Na M S
 rw[e]at f
 obtain⟨rfl,h2⟩:=List.append_inj' f rfl
 cases h2
 refine⟨ps,s,e,P,?_⟩
 rcases q with ⟨a,x,d,c⟩|⟨⟨s',a⟩,c⟩
 .have g:s∉ps:=by
   rcases P.fin with ⟨h,_⟩|⟨_,s',h⟩<;>simp_all
  rcases wh M V d with rfl|rfl
  .exact .b (by unfold cT;rw[c];rfl) g a d
  .exact .o (by unfold cT;rw[c];rfl) g a d
 .have i:s∈ps:=by
   rcases P.fin with ⟨_,h⟩|⟨h,_⟩<;>simp_all
  cases j:(aQ rs z.cps.toList s).1 with
  | w x=>unfold bZ at a;simp_all
  | n q=>exact .e (by unfold cT;rw[c];rfl) i q j
theorem t6(l:L9 (Int×Int))(s:Int×Int):b_ (.list ((l++[s]).map dh)) (.int (-1))=.ok (dh s):=by
 rw[BZ];exact nT _ _
theorem Vn(M:cg rs sg)(S:aN sg z)(P:fx rs z ps s):ps.length<=1002000:=by
 have a:n8 rs z<=1002 * 1000:=GV (by have:=S.1;ext) M.l_
 have:=P.sr
 ext
theorem Po(s:Int×Int):Sh 1 (dh s):=m9 λy a=>by
 rcases AQ.mp a with q|q
 · rw [q]; exact sL _ _
 · rw [AS.mp q]; exact sL _ _
theorem Xy:shaped (.list (l.map dh))=true:=Sh.shaped (tq λx a=>by
 obtain⟨s,_,rfl⟩:=BG.mp a
 exact Po s) (by simp)
theorem J7(s:Int×Int):qt (dh s)=true:=rfl
theorem Q5{b:Int×Int}:dh a=dh b↔a=b:=⟨λh=>iG _ _ h,λh=>by rw[h]⟩
theorem Q4(a b:Int×Int):PyData.eqv (dh a) (dh b)=decide (a=b):=by
 rw[HZ (J7 a) (J7 b) (wF a)]
 exact decide_eq_decide.mpr Q5
theorem LS(s:Int×Int):∀ (l t:L9 (Int×Int)),s∈l->((l++t).map dh).findIdx? (λy=>PyData.eqv y (dh s))=some (l.idxOf s)
 | [],_,h=>by ext
 | a::l,t,h=>by
  rw[A7,AV,List.findIdx?_cons,Q4]
  by_cases e:a=s
  .grind
  .rw[BB e,LS s l t (by
    ext),List.idxOf_cons,C7 e]
   rfl
section
variable{rs:L9 Rw}{sg:Nat}{z:Str}
theorem vK(M:cg rs sg)(S:aN sg z.cps.toList)(y:eP rs z.cps.toList=ps++[s])(P:fx rs z.cps.toList ps s)(W:oy rs z.cps.toList ps s):jE [.d (aL rs),.d (.str z)]=.ok (.o (iN rs z.cps.toList ps s)):=by
 have l:=LV M S
 rw[y]at l
 have u:=Vn M S P
 have g:=HA M S (P.val s (by simp))
 have v:=Q6 S.1 (by simp) (by simp;ext) (P.O_ M S)
 have r:b_ (dh s) (.int 0)=.ok _:=rfl
 have t:b_ (dh s) (.int 1)=.ok _:=rfl
 have f:replicate 3 (none:O9 A)=[none,none,none]:=rfl
 have t0:∀ a i,b_ (.tuple [a,.int i]) (.int 0)=.ok a:=λa i=>rfl
 unfold jE Ia
 cases W with
 | b h n e c=>
  rw[c]at g
  have j:ey (Tn.w "by").d _=.ok _:=zA (.inl rfl) (.inl rfl)
  have k:iN rs z.cps.toList ps s=⟨"LetBy",[("place",.int s.1),("room",.int s.2),("borders",iB (pq (ps++[s]) (replicate (z.cps.toList.length+1) [])))]⟩:=by unfold iN;rw[AI h]
  simp only[cX,aU,eG,gE,eM,fA,kR,R.cf,AV,BF,AT,A9,Nat.reduceAdd,f,A7,BC,AW,AK,CG,l,A4,A3,iO,gZ,fU,fO,fN,Ih,(t6 ps s),oO,g,mC,t0,kS,j,jK,II,r,t,v,k]
  rfl
 | o h n e c=>
  rw[c]at g
  have j:ey (Tn.w "out").d (.str "by")=.ok (.bool false):=zA (.inr (.inl rfl)) (.inl rfl)
  have p:ey (Tn.w "out").d (.str "out")=.ok (.bool true):=zA (.inr (.inl rfl)) (.inr (.inl rfl))
  have k:iN rs z.cps.toList ps s=⟨"ShutOut",[("place",.int s.1),("room",.int s.2),("borders",iB (pq (ps++[s]) (replicate (z.cps.toList.length+1) [])))]⟩:=by unfold iN;rw[AM (by rw[h];decide),AI h]
  simp only[cX,aU,eG,gE,eM,fA,kR,R.cf,AV,BF,AT,A9,Nat.reduceAdd,Nat.reduceSub,f,A7,BC,AW,AK,CG,l,A4,A3,iO,gZ,fU,fO,fN,Ih,(t6 ps s),oO,g,mC,t0,kS,j,p,CC,DU,pQ,kT,jK,II,r,t,v,k]
  rfl
 | e h n q c=>
  rw[c]at g
  have j:ey (Tn.n q).d (.str "by")=.ok (.bool false):=by show ey (.int q) (.str "by")=_;rw[y8 (mR q) (rL (.inl rfl))];rfl
  have p:ey (Tn.n q).d (.str "out")=.ok (.bool false):=by show ey (.int q) (.str "out")=_;rw[y8 (mR q) (rL (.inr (.inl rfl)))];rfl
  have k:iN rs z.cps.toList ps s=⟨"ForEver",[("place",.int s.1),("room",.int s.2),("first",.int (ps.idxOf s)),("again",.int ps.length)]⟩:=by unfold iN;rw[AM (by rw[h];decide),AM (by rw[h];decide)]
  have x:Av (.list ((ps++[s]).map dh)) (dh s)=.ok (.int (ps.idxOf s)):=by
   unfold Av
   dsimp only
   rw[AI ⟨wF s,Xy,by rw[AL,AY];simp;ext⟩,LS s ps [s] n]
  have m:((ps.length+1:Nat):Int) - 1=ps.length:=by ext
  simp only[cX,aU,eG,gE,eM,fA,kR,R.cf,AV,BF,AT,A9,Nat.reduceAdd,Nat.reduceSub,f,A7,BC,AW,AK,CG,l,A4,A3,iO,gZ,fU,fO,fN,Ih,(t6 ps s),oO,g,mC,t0,kS,j,p,kT,CC,DU,pQ,jK,II,r,t,To,Pp,x,tO,AL,AY,K6,m,k]
  rfl
end
def Jo(rs:L9 Rw)(z:L9 Nat):Nat->O9 (Int×Int)
 | 0=>some (0,0)
 | n+1=>(Jo rs z n).bind (bZ rs z)
def Aw(rs:L9 Rw)(z:L9 Nat)(ps:L9 (Int×Int))(s:Int×Int):Dz:=
 if s∈ps then .tuple [.str "ever",.int s.1,.int s.2,.int (ps.idxOf s),.int ps.length]
 else .tuple [.str (cT rs z),iB (pq (ps++[s]) (replicate (z.length+1) []))]
def YC(ps:L9 (Int×Int))(s:Int×Int):Er:=⟨"ForEver",[("place",.int s.1),("room",.int s.2),("first",.int (ps.idxOf s)),("again",.int ps.length)]⟩
section
variable{rs:L9 Rw}{sg:Nat}{z:L9 Nat}{ps:L9 (Int×Int)}{s:Int×Int}
theorem Hx(h:cT rs z="by"):iN rs z ps s=⟨"LetBy",[("place",.int s.1),("room",.int s.2),("borders",iB (pq (ps++[s]) (replicate (z.length+1) [])))]⟩:=by unfold iN;rw[AI h]
theorem Hw(h:cT rs z="out"):iN rs z ps s=⟨"ShutOut",[("place",.int s.1),("room",.int s.2),("borders",iB (pq (ps++[s]) (replicate (z.length+1) [])))]⟩:=by unfold iN;rw[AM (by rw[h];decide),AI h]
theorem Hv(h:cT rs z="ever"):iN rs z ps s=YC ps s:=by unfold iN;rw[AM (by rw[h];decide),AM (by rw[h];decide)];rfl
theorem l3(W:oy rs z ps s){f:Sg->R A}(h:f Y=.ok (.o (iN rs z ps s))):u5 f "paper" [("LetBy",j3),("ShutOut",iQ),("ForEver",iS)] Y=.ok (.d (Aw rs z ps s)):=by
 rw[Ik,h]
 unfold Aw
 cases W with
 | b w n e c=>rw[Hx w,AM n,w];rfl
 | o w n e c=>rw[Hw w,AM n,w];rfl
 | e w n q c=>rw[Hv w,AI n];rfl
theorem h_(W:oy rs z ps s){f:Sg->R A}(h:f Y=.ok (.o (iN rs z ps s))):u5 f "says" [("LetBy",gO),("ShutOut",fB),("ForEver",fC)] Y=.ok (.d (.str (cT rs z))):=by
 rw[Ik,h]
 cases W with
 | b w n e c=>rw[Hx w,w];rfl
 | o w n e c=>rw[Hw w,w];rfl
 | e w n q c=>rw[Hv w,w];rfl
theorem jf(W:oy rs z ps s){f:Sg->R A}(h:f Y=.ok (.o (iN rs z ps s))):u5 f "stops" [("LetBy",j2),("ShutOut",iP),("ForEver",iR)] Y=.ok (.d (.bool (decide (s∉ps)))):=by
 rw[Ik,h]
 cases W with
 | b w n e c=>rw[Hx w,A2 n];rfl
 | o w n e c=>rw[Hw w,A2 n];rfl
 | e w n q c=>rw[Hv w,BB (by simpa using n)];rfl
def zF(r:L9 Dz):Prop:=∀ x∈r,∃ i:Int,x=.int i
theorem WB{b:Int×Int}(h:∀ r∈c,zF r):∀ r∈yj c a b,zF r:=λr hr=>by
 rcases FU hr with q|q
 .exact h r q
 .subst q
  intro x d
  rcases BN.mp d with y|y
  .rw[BO]at y
   cases e:c[yi a b]? with
   | none=>rw[e]at y;simp at y
   | some r=>rw[e]at y;exact h r (AD e) x y
  .exact ⟨b.2,AS.mp y⟩
theorem Ni:∀ (l:L9 (Int×Int)) (eg:L9 (L9 Dz)),(∀ r∈eg,zF r)->∀ r∈pq l eg,zF r
 | [],_,h=>h
 | [_],_,h=>h
 | a::b::t,eg,h=>Ni (b::t) _ (WB h)
theorem Vm{a:L9 (L9 Dz)}(h:∀ r∈a,zF r):qt (iB a)=true/\Sh 2 (iB a):=by
 refine⟨vI λx b=>?_,m9 λx b=>?_⟩
 .obtain ⟨r,hr,rfl⟩:=BG.mp b
  exact vI λy c=>by obtain⟨i,rfl⟩:=h r hr y c;rfl
 .obtain ⟨r,hr,rfl⟩:=BG.mp b
  exact m9 λy c=>by obtain⟨i,rfl⟩:=h r hr y c;exact sL _ _
theorem Pn(l:L9 (Int×Int))(n:Nat):qt (iB (pq l (replicate n [])))=true/\Sh 2 (iB (pq l (replicate n []))):=
 Vm (Ni l _ λr hr=>by rw[GD hr];intro x a;ext)
theorem vj(W:oy rs z ps s):cT rs z="by"\/cT rs z="out"\/cT rs z="ever":=by
 cases W with
 | b w n e c=>exact .inl w
 | o w n e c=>exact .inr (.inl w)
 | e w n q c=>exact .inr (.inr w)
theorem JB{w:Str}(h:w="by"\/w="out"\/w="ever")(n:Nat):Sh n (.str w):=IB n (by rcases h with rfl|rfl|rfl<;>decide +kernel)
theorem Pm{w:Str}(h:w="by"\/w="out"\/w="ever"){d:Dz}(a:qt d=true/\Sh 2 d):Cp (.tuple [.str w,d]):=by
 refine⟨?_,Sh.shaped (n:=3) (m9 λx b=>?_) (by simp)⟩
 .show (true && (qt d && true))=true
  rw[a.1];rfl
 .rcases AQ.mp b with q|q
  · rw [q]; exact JB h 2
  simp_all
theorem Pl(a b c d:Int):Cp (.tuple [.str "ever",.int a,.int b,.int c,.int d]):=
 ⟨rfl,Sh.shaped (m9 λx e=>by
  simp[C8]at e
  rcases e with q|q|q|q|q<;>rw[q]
  · exact JB (.inr (.inr rfl)) 0
  all_goals exact sL _ _) (by decide)⟩
theorem Q3(W:oy rs z ps s):Cp (Aw rs z ps s):=by
 unfold Aw
 split
 · exact Pl _ _ _ _
 · exact Pm (vj W) (Pn _ _)
end
section
variable{rs:L9 Rw}{sg:Nat}{z:Str}{ps:L9 (Int×Int)}{s:Int×Int}
def Je(rs:L9 Rw)(z:L9 Nat)(p r n:Int):Prop:=Jo rs z n.toNat=some (p,r)
instance (rs:L9 Rw) (z:L9 Nat) (p r n:Int):Decidable (Je rs z p r n):=inferInstanceAs (Decidable (_=_))
def Pk(rs:L9 Rw)(z:L9 Nat)(p r f a:Int):Prop:=(0<=f/\f < a/\a<=(rs.length:Int) * ((z.length:Int)+2))/\Je rs z p r f/\Je rs z p r a
instance (rs:L9 Rw) (z:L9 Nat) (p r f a:Int):Decidable (Pk rs z p r f a):=inferInstanceAs (Decidable (_/\_))
end
def bX:Sg->R Fw:=(aM (u5 (aK 2 jE (aC (vV 1) (aC (vV 0) aF))) "says" [("LetBy",gO),("ShutOut",fB),("ForEver",fC)]))
def m5:L9 A->R A:=G4 2 [0] 7 1 (gC 2 bX)
def YB:Sg->R Fw:=JL
def qA:L9 A->R A:=du 8 YB
def oW:Sg->R Fw:=(aG (aV 3 (aK 2 jE (aC (vV 0) (aC (vV 1) aF))))
 (aG (fu (e1 dg (eA (u5 (vO 3) "stops" [("LetBy",j2),("ShutOut",iP),("ForEver",iR)]))) (aM (vD (e2 ey (rV 2) (eA (u5 (vO 3) "paper" [("LetBy",j3),("ShutOut",iQ),("ForEver",iS)]))))) gb)
 (aM (vD (sV (e2 ey (e2 b_ (rV 2) (eC (.int 0))) (eC (.str "ever"))) (eA (aK 4 qA (aC (vV 0) (aC (vV 1) (aC (vO 3) (aC (vV 2) aF)))))))))))
def eZ:L9 A->R A:=du 4 oW
def t7:Sg->R Fw:=(aM (vD (bW (aC (e1 ew (eL (cJ [none,some 0] (e1 bA (bW (aC (eC (.int 1)) (aC (eC (.int 0)) aF)))) (stN 0) dS (e1 ew (eL (HC (gA (aC (eV 0) aF)) (rV 1))))))) (aC (bW (aC (eC (.str "by")) (aC (eC (.str "ever")) aF))) aF)))))
def dD:L9 A->R A:=du 1 t7
def mL:Sg->R Fw:=(aG (fu (e1 dg (e2 ey (rV 0) (eC (.int 0)))) (aM (aK 2 mB (aC (vV 1) (aC (vV 2) aF)))) gb)
 (aG (fu (e1 dg (e2 ey (rV 0) (eC (.int 1)))) (aM (aK 2 jE (aC (vV 1) (aC (vV 2) aF)))) gb)
 (aG (fu (e1 dg (e2 ey (rV 0) (eC (.int 2)))) (aM (vD (HF 12 (aK 1 m5 (aC (vV 1) aF)) (aC (eV 2) aF)))) gb)
 (aG (fu (e1 dg (e2 ey (rV 0) (eC (.int 3)))) (aM (aK 3 eZ (aC (vV 1) (aC (vV 2) (aC (vD (bW (aC (eC (.str "by")) (aC (bW (aC (bW (aC (eC (.int 0)) aF)) aF)) aF)))) aF))))) gb)
 (aG (fu (e1 dg (e2 ey (rV 0) (eC (.int 4)))) (aM (aK 2 gY (aC (vV 1) (aC (vV 2) aF)))) gb)
 (aG (fu (e1 dg (e2 ey (rV 0) (eC (.int 5)))) (aM (aK 2 gD (aC (vV 1) (aC (vV 2) aF)))) gb)
 (aG (fu (e1 dg (e2 ey (rV 0) (eC (.int 6)))) (aM (aK 2 gR (aC (aK 1 dD (aC (vD (e1 dn (e2 b_ (e2 b_ (rV 1) (eC (.int 0))) (eC (.int 1))))) aF)) (aC (vV 2) aF)))) gb)
 (aG (fu (e1 dg (e2 ey (rV 0) (eC (.int 7)))) (aM (aK 2 i9 (aC (aK 1 dD (aC (vD (e1 dn (e2 b_ (e2 b_ (rV 1) (eC (.int 0))) (eC (.int 1))))) aF)) (aC (vV 2) aF)))) gb)
 (aG (fu (e1 dg (e2 uf (rV 0) (eC (.int 11)))) (aG (dX 4 (gA (aC (eV 3) (aC (eV 3) (aC (eV 3) aF)))))
 (aG (Dy 4 (e2 fj (rV 0) (eC (.int 8))) (eV 2))
 (aM (aK 4 b9 (aC (vV 1) (aC (vD (e2 b_ (rV 4) (eC (.int 0)))) (aC (vD (e2 b_ (rV 4) (eC (.int 1)))) (aC (vD (e2 b_ (rV 4) (eC (.int 2)))) aF)))))))) gb)
 (aM (aK 2 dL (aC (vV 1) (aC (vV 2) aF)))))))))))))
def cF:L9 A->R A:=du 5 mL
def kA:Sg->R Fw:=(aG (aV 4 (vD (eC .none)))
 (aG (aV 5 (vD (eC (.bool true))))
 (aG (xB 6 none 4 cF (aC (vV 0) (aC (vV 1) (aC (vV 2) (aC (vV 3) aF)))) ["NoStrip","TooMany"] (aG (aV 4 (vD (e1 hW (eC (.int 1)))))
 (aG (aV 5 (vD (sV (mJ 6 [("NoStrip",true),("TooMany",true)]) (mJ 6 [("NoStrip",true),("TooMany",false)]))))
 (aV 5 (vD (sV (eV 5) (Ay (mJ 6 [("NoStrip",false)]))))))))
 (aG (xB 6 none 4 cF (aC (vV 0) (aC (vV 1) (aC (vV 2) (aC (vV 3) aF)))) ["NoStrip"] (aV 4 (vD (ye 6 ["NoStrip"] "at"))))
 (aM (vD (bW (aC (eV 4) (aC (eV 5) aF)))))))))
def bY:L9 A->R A:=du 7 kA
def Gd:Sg->R Fw:=(Kb 3 (aC (vX 2) (aC (xK "NoText" ["at"] (aC (eC (.int 1)) aF)) (aC (xK "NoStrip" ["at"] (aC (eC (.int 2)) aF)) (aC (xK "NoName" ["name"] (aC (eC (.str "a")) aF)) (aC (xK "NoLine" ["line"] (aC (eC (.str "")) aF)) (aC (u9 "TooMany" (aC (eC (.str "so many")) aF)) (aC (u9 "NotLike" (aC (eC (.str "unlike")) aF)) aF))))))) (aC (u9 "NoWord" (aC (eC (.str "no word")) aF)) (aC (u9 "NoBorder" (aC (eC (.str "none")) aF)) (aC (u9 "NothingDone" (aC (eC (.str "nothing")) aF)) aF))) [none] 0 (sV (mJ 0 [("NoMachine",true),("NoText",true),("NoStrip",true),("NoName",true),("NoLine",true),("TooMany",true),("NotLike",true),("NoWord",true),("NoBorder",true),("NothingDone",true)]) (mJ 0 [("NoMachine",true),("NoText",true),("NoStrip",true),("NoName",true),("NoLine",true),("TooMany",true),("NotLike",true),("NoWord",true),("NoBorder",true),("NothingDone",true)])))
def oX:Sg->R Fw:=(aG (aV 1 (vD (e2 b_ (eL (gA (aC (eC (.str "rooms")) (aC (eC (.str "cells")) (aC (eC (.str "left")) (aC (eC (.str "cell")) (aC (eC (.str "right")) aF))))))) (e2 cy (rV 0) (eC (.int 5))))))
 (aG (aV 2 (xK "NoMachine" ["part","room"] (aC (eV 1) (aC (e2 cy (rV 0) (eC (.int 61))) aF))))
 (aG (fu (uo (e1 dg (e2 ou (ye 2 ["NoMachine"] "part") (rV 1))) (uo (e1 dg (e2 ou (ye 2 ["NoMachine"] "room") (e2 cy (rV 0) (eC (.int 61))))) (uo (e1 dg (e2 ou (vA ["at"] (aC (eV 0) aF) "at") (rV 0))) (e1 dg (e2 ou (vA ["at"] (aC (e2 cy (rV 0) (eC (.int 400))) aF) "at") (e2 cy (rV 0) (eC (.int 400)))))))) (aM (vD (eC (.bool false)))) gb)
 (aG (fu (uo (e1 dg (e2 ou (vA ["name"] (aC (eV 1) aF) "name") (rV 1))) (e1 dg (e2 ou (vA ["line"] (aC (e2 bN (rV 1) (eC (.str " a"))) aF) "line") (e2 bN (rV 1) (eC (.str " a")))))) (aM (vD (eC (.bool false)))) gb)
 Gd))))
def iV:L9 A->R A:=du 4 oX
def mD:Sg->R Fw:=(aG (aV 2 (vD (e2 bN (e2 bN (e2 bN (o_ ia (eC (.str "abc")) (qe (rV 0)) qf) (eC (.str "d"))) (eC (.str "AEBC -"))) (eC (.str " !\"#$&'()*+,./0123456789:;<=>?@XYZ[]^_`{|}~z")))))
 (aM (vD (e2 b_ (rV 2) (e2 cy (rV 1) (e1 dn (rV 2)))))))
def dE:L9 A->R A:=du 3 mD
def Cy:Sg->R Fw:=(aV 1 (vD (e2 bN (eC (.int 1)) (e2 cy (eA (aK 2 bJ (aC (vV 0) (aC (vD (eC (.int 0))) aF)))) (eC (.int 2))))))
def Cw:Sg->R Fw:=(aV 2 (aK 4 jM (aC (vV 0) (aC (vD (eC (.int 5))) (aC (vD (e2 bN (eC (.int 1)) (e2 cy (eA (aK 2 bJ (aC (vV 0) (aC (vD (eC (.int 1))) aF)))) (eC (.int 2))))) (aC (vV 1) aF))))))
def Cu:Sg->R Fw:=(aV 3 (aK 4 gN (aC (vV 0) (aC (vD (eC (.int 9))) (aC (vD (e2 cy (eA (aK 2 bJ (aC (vV 0) (aC (vD (eC (.int 2))) aF)))) (eC (.int 60)))) (aC (vV 1) aF))))))
def Cs:Sg->R Fw:=(aV 4 (vD (e2 cy (eA (aK 2 bJ (aC (vV 0) (aC (vD (eC (.int 3))) aF)))) (e2 bN (e1 dn (rV 3)) (eC (.int 1))))))
def Cr:Sg->R Fw:=(aV 5 (vD (e2 bN (e2 bN (o_ ia (rV 3) qf (qe (rV 4))) (eA (aK 2 dE (aC (vV 1) (aC (aK 2 bJ (aC (vV 0) (aC (vD (eC (.int 4))) aF))) aF))))) (o_ ia (rV 3) (qe (rV 4)) qf))))
def Cq:Sg->R Fw:=(aV 6 (vD (e2 bN (e2 bN (rV 4) (eC (.int 1))) (e2 cy (eA (aK 2 bJ (aC (vV 0) (aC (vD (eC (.int 7))) aF)))) (e2 fj (e1 dn (rV 5)) (rV 4))))))
def zt:Sg->R Fw:=(fu (e1 dg (e2 ey (e2 cy (eA (aK 2 bJ (aC (vV 0) (aC (vD (eC (.int 8))) aF)))) (eC (.int 2))) (eC (.int 1)))) (aV 5 (vD (e2 bN (e2 bN (o_ ia (rV 5) qf (qe (rV 6))) (eA (aK 2 dE (aC (vV 1) (aC (vD (e2 eT (eA (aK 2 bJ (aC (vV 0) (aC (vD (eC (.int 8))) aF)))) (eC (.int 2)))) aF))))) (o_ ia (rV 5) (qe (rV 6)) qf)))) gb)
def Cm:Sg->R Fw:=(aG (xA (u6 [(stN 8),(stN 9)]) (eA (aK 4 bY (aC (vV 7) (aC (vV 2) (aC (vV 5) (aC (vV 3) aF)))))))
 (aG (fu (uo (qV (e1 dg (eV 9))) (uo (qV (e1 dg (eA (aK 1 nS (aC (vV 8) aF))))) (e1 dg (e2 ou (rV 8) (rV 4))))) (aM (vD (eC (.bool false)))) gb)
 (fu (e1 dg (e2 ou (eA (aK 4 bY (aC (vV 7) (aC (vV 2) (aC (vV 3) (aC (vV 3) aF)))))) (bW (aC (eC .none) (aC (eC (.bool true)) aF))))) (aM (vD (eC (.bool false)))) gb)))
def Gh:Sg->R Fw:=(j5 (dN (eC (.int 11))) (stN 7) Cm)
def Co:Sg->R Fw:=(fu (qV (e1 dg (eA (aK 1 iV (aC (vD (e2 cy (e1 (d1 Ax) (eA (aK 2 bJ (aC (vV 0) (aC (vD (eC (.int 6))) aF))))) (e2 rq (eC (.int 10)) (eC (.int 30))))) aF))))) (aM (vD (eC (.bool false)))) gb)
def Cn:Sg->R Fw:=(aV 10 (aK 2 dE (aC (vV 1) (aC (aK 2 bJ (aC (vV 0) (aC (vD (eC (.int 4))) aF))) aF))))
def Dl:Sg->R Fw:=(aM (vD (sV (e2 ey (eA (aK 4 bY (aC (vD (eC (.int 11))) (aC (vV 2) (aC (vV 10) (aC (vV 3) aF)))))) (bW (aC (eC (.int 0)) (aC (eC (.bool true)) aF)))) (e2 ey (eA (aK 4 bY (aC (vD (eC (.int 11))) (aC (vV 2) (aC (vD (eC (.str "a"))) (aC (vV 3) aF)))))) (bW (aC (eC .none) (aC (eC (.bool true)) aF)))))))
def Dm:Sg->R Fw:=(aG Cy (aG Cw (aG Cu (aG Cs (aG Cr (aG Cq (aG zt (aG Gh (aG Co (aG Cn Dl))))))))))
def J6:L9 A->R A:=du 11 Dm
def top(i:Nat):Stmt:=PySem.Challenge.pw_striproam_k45_strips_refused_by_all.main.body.getD i (.Pass ⟨0,0,0,0⟩)
def c8:ej:=Jv "sayer.<locals>.word_of" ((aT (top 29)).getD 0 (.Pass ⟨0,0,0,0⟩))
def f6:Pos:=JC ((aT (top 29)).getD 0 (.Pass ⟨0,0,0,0⟩))
def c9:ej:=Jv "one_way.<locals>.after" ((aT (top 40)).getD 1 (.Pass ⟨0,0,0,0⟩))
def f7:Pos:=JC ((aT (top 40)).getD 1 (.Pass ⟨0,0,0,0⟩))
def f8:ej:=O1 "one_way.<locals>.<lambda>" (JD (JE ((aT (top 40)).getD 2 (.Pass ⟨0,0,0,0⟩))) 2)
def gG:Pos:=YK (JD (JE ((aT (top 40)).getD 2 (.Pass ⟨0,0,0,0⟩))) 2)
def rn:L9 (Pos×Str):=[(f6,("sayer.<locals>.word_of":Str)),(f7,("one_way.<locals>.after":Str)),(gG,("one_way.<locals>.<lambda>":Str))]
structure Txt(w:World)(K:Frag)(mg:Str->Option V9):Prop where
 ji:mg "ValueError"=none
 Ap:mg "abs"=none
 Ao:mg "all"=none
 xp:mg "bool"=none
 k8:mg "enumerate"=none
 An:mg "int"=none
 dc:mg "isinstance"=none
 um:mg "len"=none
 xo:mg "list"=none
 Am:mg "min"=none
 rl:mg "range"=none
 Al:mg "str"=none
 jh:mg "tuple"=none
 wj:mg "zip"=none
 oo:∃ a,mg "BEGIN"=some (.ref a)/\qK K a [.int 0,.int 0]
 jg:∃ t,mg "MOST_BEGINNINGS"=some (.int 200 t)
 vt:∃ t,mg "SIGNS"=some (.str "abc" t)
 om:∃ a,mg "STOPS"=some (.ref a)/\qK K a [.str "by",.str "out"]
section
variable{P:P9}{w:W9}{K:Frag}{mg:Str->O9 V9}{base:Hz}{TH:Hp}
theorem rY:cb ["self"] ["self"] (aD (aS (top 22) 1)):=by constructor<;>first|rfl|decide +kernel
theorem YA(T:Txt w K mg){fd:FuncData}(a:jt K "says" "LetBy.says" (aS (top 22) 1) f fd):c5 P w K mg base (d4 P w) 1 f fd ["self"] (nh (g6 P w K mg base TH) K mg 1 gO):=
 @jN P w K mg base TH "says" "LetBy.says" (aS (top 22) 1) ["self"] ["self"] 0 f fd tU a rY (λb A outer s H F E hr=>by
  have nd:=rY.nd
  exact(_f.bC (_f.cB (cS cW))))
theorem qB:cb ["self"] ["self"] (aD (aS (top 22) 2)):=⟨rfl,rfl,rfl,by ext,rfl,by decide +kernel,by decide +kernel⟩
theorem zG(T:Txt w K mg){fd:FuncData}(a:jt K "stops" "LetBy.stops" (aS (top 22) 2) f fd):c5 P w K mg base (d4 P w) 1 f fd ["self"] (nh (g6 P w K mg base TH) K mg 1 j2):=
 @jN P w K mg base TH "stops" "LetBy.stops" (aS (top 22) 2) ["self"] ["self"] 0 f fd rW a qB (λb A outer s H F E hr=>by
  have nd:=qB.nd
  exact(_f.bC (_f.cB (cS uQ))))
theorem qD:cb ["self"] ["self"] (aD (aS (top 22) 3)):=⟨rfl,rfl,rfl,by ext,rfl,by decide +kernel,by decide +kernel⟩
theorem zH(T:Txt w K mg){fd:FuncData}(b:jt K "paper" "LetBy.paper" (aS (top 22) 3) f fd)(a:mK K mg ["LetBy","ShutOut"] "borders"):c5 P w K mg base (d4 P w) 1 f fd ["self"] (nh (g6 P w K mg base TH) K mg 1 j3):=
 @jN P w K mg base TH "paper" "LetBy.paper" (aS (top 22) 3) ["self"] ["self"] 0 f fd rX b qD (λc A outer s H F E hr=>by
  have nd:=qD.nd
  exact(_f.bC (_f.cB (cS (pP (bD cW (bD (pU rfl rfl a (pA (pv 0) rfl)) cP)))))))
theorem oY:cb ["self"] ["self"] (aD (aS (top 23) 1)):=⟨rfl,rfl,rfl,by ext,rfl,by decide +kernel,by decide +kernel⟩
theorem xP(T:Txt w K mg){fd:FuncData}(a:jt K "says" "ShutOut.says" (aS (top 23) 1) f fd):c5 P w K mg base (d4 P w) 1 f fd ["self"] (nh (g6 P w K mg base TH) K mg 1 fB):=
 @jN P w K mg base TH "says" "ShutOut.says" (aS (top 23) 1) ["self"] ["self"] 0 f fd pX a oY (λb A outer s H F E hr=>by
  have nd:=oY.nd
  exact(_f.bC (_f.cB (cS cW))))
theorem nX:cb ["self"] ["self"] (aD (aS (top 23) 2)):=⟨rfl,rfl,rfl,by ext,rfl,by decide +kernel,by decide +kernel⟩
theorem vQ(T:Txt w K mg){fd:FuncData}(a:jt K "stops" "ShutOut.stops" (aS (top 23) 2) f fd):c5 P w K mg base (d4 P w) 1 f fd ["self"] (nh (g6 P w K mg base TH) K mg 1 iP):=
 @jN P w K mg base TH "stops" "ShutOut.stops" (aS (top 23) 2) ["self"] ["self"] 0 f fd oQ a nX (λb A outer s H F E hr=>by
  have nd:=nX.nd
  exact(_f.bC (_f.cB (cS uQ))))
end
end _e
variable{c:Az}{ps:L9 Str}
namespace _f
variable{base:Hz}
variable{X:Cx}{c:Ct}{E:XK}{e:Ez}{st:Stmt}{i:Nat}{N:L9 Str}{js:L9 (O9 Nat)}{scope:Scope}{tg elt:Ez}{ifs:L9 Ez}{fi:Sg->R (L9 Dz)}{fs:Dz->Sg->O9 Sg}{ft:Sg->R Bool}{fe:Sg->R Dz}{is:L9 Nat}
def J5(X:Cx)(c:Ct)(N:L9 Str)(scope:Scope)(tg elt:Ez)(ifs:L9 Ez)(fs:Dz->Sg->O9 Sg)(ft:Sg->R Bool)(fe:Sg->R Dz)(is:L9 Nat):Prop:=∀ (cl:L9 (Str×Az)) (C:Az) (s:S9) (H0:Hp) (fp:L9 Az),∃ g,Tg c g fs is/\PG (dB X N scope cl C s H0 fp) tg g/\_a.r0 (dB X N scope cl C s H0 fp) ifs (qm c E0 ft)/\PD (dB X N scope cl C s H0 fp) c E0 elt fe
def OO:Ez->L9 Str
 | .Name x _=>[x]
 | _=>[]
def ON:Ez->L9 Str
 | .Name x _=>[x]
 | .Tuple es _ _=>es.flatMap OO
 | _=>[]
def oZ(tg:Ez)(XN:L9 Str)(js:L9 (O9 Nat)):L9 Str:=(match tg with
 | .Name x _=>[x]
 | .Tuple es _ _=>es.flatMap ON
 | _=>[])++js.filterMap λo=>o.map λj=>XN.getD j ""
theorem Pj{f:Ez}{pos:Pos}(h:jd X scope (oZ tg X.N js) js)(hi:PI X tg f (tI c E fi))(hb:(oZ tg X.N js).Nodup->J5 X c (oZ tg X.N js) scope tg elt ifs fs ft fe is)(l:decide (oZ tg X.N js).Nodup=true)(k:js.Pairwise λa b=>a=none\/a≠b)(j:∀ i∈is,js[i]? = some none)
 (m:autoParam (X.calm=true) z3) (cj:autoParam (dH scope.names X.env.kindOf=true) z3) (ma:autoParam (scope.kind=.function) z3) (hs:∀ x,foldedSetIterable f X.env x=pure x:=by intro _;rfl) :
 PN X c E (.ListComp elt [⟨tg,f,ifs,0⟩] scope pos) (cJ js fi fs ft fe):=IW (uK m h cj hi ma hs) k j λa b c d e=>let ⟨g,q1,q2,q3⟩:=hb (BH l) a b c d e;⟨g,q2,q1,q3⟩
theorem Ph{f:Ez}{pos h:Pos}(j:jd X scope (oZ tg X.N js) js)(hi:PI X tg f (tI c E fi))(hb:(oZ tg X.N js).Nodup->J5 X c (oZ tg X.N js) scope tg elt ifs fs ft fe is)(n:decide (oZ tg X.N js).Nodup=true)(m:js.Pairwise λa b=>a=none\/a≠b)(k:∀ i∈is,js[i]? = some none)
 (nd:X.N.Nodup) (hx:Loc X.env.scope x) (l:autoParam (X.N[i]? = some x) z3) (Gp:autoParam (swapsWith (.ListComp elt [⟨tg,f,ifs,0⟩] scope pos) (some (.Name x pos')) h.line X.env=pure true) z3)
 (hc:autoParam (X.calm=true) z3) (cj:autoParam (dH scope.names X.env.kindOf=true) z3) (ma:autoParam (scope.kind=.function) z3) (hf:X.fn x=true\/X.env.scope.names.lookup x=some .local:=by first|exact .inl rfl|exact .inr rfl|assumption) (hs:∀ x,foldedSetIterable f X.env x=pure x:=by intro _;rfl) :
 gp X c E (.Assign [.Name x pos'] (.ListComp elt [⟨tg,f,ifs,0⟩] scope pos) h) (dX i (cJ js fi fs ft fe)):=Up (_a.yE nd l hx Gp hc j cj hi ma hf hs) m k λa b c d e=>let ⟨g,q1,q2,q3⟩:=hb (BH n) a b c d e;⟨g,q2,q1,q3⟩
section
variable{P:P9}{w:W9}{K:Frag}{mg:Str->O9 V9}{base:Hz}{TH:Hp}{x:Str}{st:Stmt}{ps:L9 Str}{k:Nat}{fb:Sg->R Fw}
def Fn(P:P9)(w:W9)(K:Frag)(mg:Str->O9 V9)(base:Hz)(TH:Hp)(k:Nat)(x:Str)(st:Stmt)(N:L9 Str)(fb:Sg->R Fw):Prop:=∀ (f:Az) (c_:V9) (A:U9) (outer:L9 Env) (s:S9) (H F:Hp) (E:XK),cw k (A.deeper (envOfC x (aD st) s.heap.objs.size f c_))->N.Nodup->
 gc ((cR (d4 P w) P w K mg base N x (aD st) f c_ A outer s H E).mf E) ⟨K,mg,w,F,H,g6 P w K mg base TH,(envOfC x (aD st) s.heap.objs.size f c_).cells,λ_=>none⟩ E (aT st) fb
theorem Sy(N:L9 Str)(D:jv K mg x st ps)(S:cb N ps (aD st))(a:Fn P w K mg base TH k x st N fb):cE P w K mg base TH (k+1) x ps (du N.length fb):=RZ D S λf b A outer s H F E hr=>a f b A outer s H F E hr S.nd
theorem Sx{fd:FuncData}(N:L9 Str)(c:jt K x x st f fd)(S:cb N ps (aD st))(a:Fn P w K mg base TH k x st N fb):c5 P w K mg base (d4 P w) (k+1) f fd ps (nh (g6 P w K mg base TH) K mg ps.length (du N.length fb)):=Rq c S λb A outer s H F E hr=>a f b A outer s H F E hr S.nd
end
theorem Q2{X:Cx}{c:Ct}{E:XK}{G:L9 A->R A}{w:W9}{T:Hp}{e:Ez}{es:L9 Ez}{pos:Pos}{f:Sg->R (L9 A)}(C:cE P w K mg base T k x ps G)(hr:cw k X.A)(hx:fR (d4 P w) X E)(b:yy X c E (e::es) f)
  (a:autoParam (ps.length=n) z3) (hg:autoParam (Gl X x) z3) (h1:autoParam (X.prog=P) z3) (h2:autoParam (X.w=w) z3) (h3:autoParam (X.K=K) z3) (h4:autoParam (X.mg=mg) z3) (h5:autoParam (X.base=base) z3) (hG:autoParam (g6 P w K mg base T=c.g) z3) (hK:autoParam (K=c.K) z3) (hM:autoParam (mg=c.mg) z3) (vr:autoParam ((x == ("__debug__":Str))=false) z5)
  (he:autoParam (starEach (e::es) X.env=(false,eval e X.env)::starEach es X.env) z3) (gk:autoParam ((backTo pos (starEach es X.env)).any (·.1)=false) z3):PV X c E (.Call (.Name x p) (e::es) [] pos) (aK n G f):=by
 subst h1 h2 h3 h4 h5 a
 exact Et hG hK hM (Ey C hr hg hx b vr he gk)
theorem ZD{X:Cx}{c:Ct}{E:XK}{w:W9}{d9 pos:Pos}{e0:Ez}{rest:L9 Ez}{fs:L9 Str}{f:Sg->R (L9 Dz)}(a:ju P w K mg base x fs W C)(hr:cw 2 X.A)(b:v8 (X.mf E) c E (e0::rest) f)(d:autoParam (fs.length<=1000) z5)(hM:autoParam (c.mg=mg) z3)(h1:autoParam (X.prog=P) z3)(h2:autoParam (X.w=w) z3)(h3:autoParam (X.K=K) z3)(h4:autoParam (X.mg=mg) z3)(h5:autoParam (X.base=base) z3)(hc:autoParam (X.calm=true) z3)(hg:autoParam (Gl X x) z3)
  (vr:autoParam ((x == ("__debug__":Str))=false) z5) (he:autoParam (starEach (e0::rest) X.env=(false,eval e0 X.env)::starEach rest X.env) z3) (gk:autoParam ((backTo d9 (starEach rest X.env)).any (·.1)=false) z3):gp (X.mf E) c E (.Raise (some (.Call (.Name x np) (e0::rest) [] d9)) none pos) (sZ x fs f):=by
 subst h1 h2 h3 h5
 exact _f.qJ (hM▸a.m) d (_a.Og hc (h4▸a) hg hr b vr he gk)
theorem Zg{w:W9}{fs:L9 Str}(a:ju P w K mg base nm fs W C)(i:lq K mg nm q b)(t:tb=[]\/uw K mg q tb):uw K mg q ((nm,b)::tb):=by
 rcases t with rfl|t
 · exact fP a.c a.m i
 · exact eI a.c a.m i t
theorem ZI(a:m3 K mg nm W C)(i:lq K mg nm q b)(t:tb=[]\/uw K mg q tb):uw K mg q ((nm,b)::tb):=by
 rcases t with rfl|t
 · exact fP a.c a.m i
 · exact eI a.c a.m i t
theorem ZC{X:Cx}{c:Ct}{E:XK}{e:Ez}{i:Nat}(is:uw c.K c.mg q tb)
 (h:∀ D,X.mg q=some (.ref D)->PE X e (rg (λxs H Q=>∃ x c t cv b,xs=[x,c]/\wo X.K H x t/\sI c=some cv/\kitOne X.K t cv=some b/\Q (.bl b) H) (bR (bU i) (bR (tC (.ref D)) dP)))) (a:autoParam (X.K=c.K) z3) (hM:autoParam (X.mg=c.mg) z3):PD X c E e (mJ i tb):=Iq hM (by rw[a,hM];exact is) h
end _f
set_option hygiene false
local macro_rules
| `(tactic| exists $t:term)=>`(tactic| (with_reducible show $t))
local macro_rules
| `(tactic| exists $h:term,$r:term)=>`(tactic| (with_reducible show(_:_->Prop) $h);refine $r<;>symm)
local macro_rules
| `(tactic| ac_rfl)=>`(tactic| first
 | exists PD _ _ _ _ (eV _);exact sU (pv _)
 | exists PD _ _ _ _ (eC _);first
  | exists PD _ _ _ _ (eC (.int _));apply gL
  | exists PD _ _ _ _ (eC (.str _));apply cW
  | exact(iZ (iD (v:=.str "abc") rfl T.vt.choose_spec ⟨_,rfl⟩) λ_=>.str _)
  | exact(iZ (iD (v:=.int 200) rfl T.jg.choose_spec ⟨_,rfl⟩) λ_=>.int _)
  | exact(iZ (iD (v:=.ref T.oo.choose) rfl T.oo.choose_spec.1 rfl) λF=>Nu T.oo.choose_spec.2 (by exact λF=>.cons (.int _) (.cons (.int _) (.nil))) F)
  | exact(iZ (iD (v:=.ref T.om.choose) rfl T.om.choose_spec.1 rfl) λF=>Nu T.om.choose_spec.2 (by exact λF=>.cons (.str _) (.cons (.str _) (.nil))) F)
  | exists PD _ _ _ _ (eC (.bool _));exact uQ
  | exact R4
 | exists PD _ _ _ _ (e2 _ _ _);first
  | exists e2 b_ _ _,yO (yP rfl) nG ?_ ?_
  | exists e2 bN _ _,fG (uR rfl) oI ?_ ?_
  | exists e2 cy _ _,fG lE i6 ?_ ?_
  | exists e2 fj _ _,fG Uv Xs ?_ ?_
  | exists e2 hF _ _,fG Uu Xr ?_ ?_
  | exists e2 eT _ _,fG Ut Xq ?_ ?_
  | exists e2 ey _ _,nF (Ip rfl hr.units) wY ?_ ?_ (dY _)
  | exists e2 ou _ _,nF (l7 rfl hr.units) i7 ?_ ?_ (dY _)
  | exists e2 qg _ _,nF Ly NA ?_ ?_ (dY _)
  | exists e2 uf _ _,nF Lz NB ?_ ?_ (dY _)
  | exists e2 ug _ _,nF (Lx rfl hr.units) Nz ?_ ?_ (by with_unfolding_all rfl)
  | exists e2 ot _ _,nF (MZ rfl hr.units) Oc ?_ ?_ (by with_unfolding_all rfl)
  | exists PD _ _ _ _ (e2 gM _ _);refine Wn (yA GS PySem.F.slot_str_index PySem.F.type_str_index V7 ?_ (aO ?_ bI)) (by intro Y x h;cases h;exact⟨_,rfl⟩)<;>symm
 | exists e1 dn _,Lf rfl (dG NO rfl T.um GW (aO ?_ bI))
 | exists e1 ew _,nJ rfl (kD hZ rfl T.jh DB (aO ?_ bI))
 | exists e1 (j7 "str") _,Im (dG (w7 rfl (UY _)) rfl T.dc BU (aO ?_ (aO (o8 (v:=.ty "str") rfl T.Al boot_str rfl) bI)))
 | exists e1 hW _,QA Us Xp ?_
 | exists eA _,yM ?_
 | exists eL _,pM ?_
 | exists bW _,pP ?_
 | exists uU _ _,UR rfl rfl (US hr.units (pv _) ?_ (λ_ _=>rfl))
 | exists Ay _,Io ?_
 | exists we _ _ _,Qz ?_ ?_ ?_
 | exists Dr _ _,WH rfl (yA EM GI PySem.F.type_list_index (WI hr.units) ?_ (aO ?_ bI))
 | exists o_ ia _ _ _,Nw rfl ?_ ?_ ?_)
local macro_rules
| `(tactic| and_intros)=>`(tactic| first
 | exists rz _ _ _ _ (qV _);refine _f.r7 ?_;and_intros
 | exists nI _ _,PW.pt ?_
 | exists uo _ _,PW.pt ?_
 | exists e1 dg (mH true _ _),Lc rfl rfl (zL (VT hr.units) ?_ (pv _) (by with_unfolding_all rfl))
 | exists e1 dg (mH false _ _),Lc rfl rfl (zL (UT hr.units) ?_ (pv _) (by with_unfolding_all rfl))
 | exists e1 dg (e2 ey _ _),_f.fD (Ip rfl hr.units) wY ?_ ?_ (dY _)
 | exists e1 dg (e2 ou _ _),_f.fD (l7 rfl hr.units) i7 ?_ ?_ (dY _)
 | exists e1 dg (e2 uf _ _),_f.fD Lz NB ?_ ?_ (dY _)
 | exists e1 dg (e2 qg _ _),_f.fD Ly NA ?_ ?_ (dY _)
 | exists e1 dg (e2 vw _ _),_f.fD R3 Wt ?_ ?_ (dY _)
 | exists e1 dg (e2 mh _ _),_f.fD Ws XI ?_ ?_ (dY _)
 | exists e1 dg (e2 ug _ _),_f.fD (Lx rfl hr.units) Nz ?_ ?_ (by with_unfolding_all rfl)
 | exists e1 dg (e2 ot _ _),_f.fD (MZ rfl hr.units) Oc ?_ ?_ (by with_unfolding_all rfl)
 | refine _f.o9 ?_;ac_rfl)
local macro_rules
| `(tactic| symm)=>`(tactic| first
 | exists Fn _ _ _ _ _ _ _ _ _ _ _;intro _ _ _ _ _ _ _ _ hr nd;symm
 | exists cb _ _ _;constructor<;>first|rfl|decide +kernel
 | exists PD _ _ _ _ _;ac_rfl
 | exists PR _ _ _ _ _;first|exists PR _ _ _ _ (rV _);exact dO (pv _)|refine bV ?_;ac_rfl
 | exists PV _ _ _ _ _;first
  | exists PV _ _ _ _ (vV _);exact R5 (pv _)
  | exists PV _ _ _ _ (vD _);refine cS ?_;ac_rfl
  | exists u5 _ "says" _,Ek rfl rfl rfl (by assumption) (hr.mono (by decide)) (by first|exact HV|exact jW λ_ _ _ h=>h) ?_
  | exists u5 _ "stops" _,Ek rfl rfl rfl (by assumption) (hr.mono (by decide)) (by first|exact HV|exact jW λ_ _ _ h=>h) ?_
  | exists rM "LetBy" _ _,Ib rfl (by assumption) (hr.mono (by decide)) rfl ?_
  | exists rM "ShutOut" _ _,Ib rfl (by assumption) (hr.mono (by decide)) rfl ?_
  | exists rM "ForEver" _ _,Ib rfl (by assumption) (hr.mono (by decide)) rfl ?_
  | refine Q2 (by with_reducible assumption) (hr.mono (by decide)) (by first|exact HV|exact jW λ_ _ _ h=>h) ?_;symm
 | exists rz _ _ _ _ _;and_intros
 | exists gc _ _ _ _ _;first
  | apply _f.iE
  | apply _f.bC;symm
  | apply _f.aJ<;>symm
 | exists gp _ _ _ _ _;first
  | exists aV _ _,_f.dA (_a.dA nd rfl (by first|exact .inl rfl|exact .inr rfl) ?_)
  | exists gp _ _ _ _ (dX _ (cJ _ _ _ _ _));first|exact Ph (by symm) (by symm) (λnd _ _ _ _ _=>⟨_,by symm,by symm,by symm,by symm⟩) (by kernel_rfl) (by decide) (by decide) nd (by first|exact .inl rfl|exact .inr rfl)
  | exists dX _ _,MY (_a.dA nd rfl (by first|exact .inl rfl|exact .inr rfl) ?_)
  | exists gp _ _ _ _ (aM _);apply _f.cB;symm
  | exists gp _ _ _ _ (fu _ _ _);apply _f.lQ<;>symm
  | exists kO _ _,R1 rfl (_a.kC (yA EM GE GF Oh (pv _) (aO ?_ bI)))
  | exists gp _ _ _ _ (j5 _ _ _);exact _f.lV (by symm) (_a.lV (jG ⟨rfl,rfl⟩) rfl (by symm) (by symm) (by symm))
  | exists bF _ _,_f.fF (_a.fF (jG ⟨rfl,rfl⟩) ?_ ?_)
  | exists gp _ _ _ _ (xA _ _);exact Rt (by symm) (xW (by symm) (by symm))
  | exists ri _ _,KA _ ?_
  | exists gp _ _ _ _ (lT _ _ _);exact _f.Mp rfl rfl (xW (by symm) (Iy (pv _) (by symm) (Nv hr.units)))
  | exists gp _ _ _ _ (Dy _ _ _);exact R0 (xW (by symm) (Iy (pv _) (by symm) We))
  | exists gp _ _ _ _ (mQ _);exact UU rfl (_a.dA nd rfl (by first|exact .inl rfl|exact .inr rfl) UW)
  | exists oJ _,_f.kC (_a.kC ?_)
  | exists gp _ _ _ _ (Eo _ _);exact T6 rfl rfl (_a.dA nd rfl (by first|exact .inl rfl|exact .inr rfl) (T8 hr.units (by symm)))
  | exists gp _ _ _ _ (uV "TooMany" _);exact WV cu.m (_a.N7 rfl cu rfl (aO (Rj (by symm)) bI))
  | apply _f.cB;symm
 | exists yy _ _ _ _ _;first
  | exists yy _ _ _ _ aF;exact uS
  | refine c6 ?_ ?_<;>symm
 | exists v8 _ _ _ _ _;first
  | exists v8 _ _ _ _ aF;exact cP
  | refine bD ?_ ?_<;>symm
 | exists PN _ _ _ _ _;first
  | exists gA _,Lw ?_
  | exists e2 tD _ _,Rn rfl ?_ ?_
  | exists PN _ _ _ _ (cJ _ _ _ _ _);first|exact Pj (by symm) (by symm) (λnd _ _ _ _ _=>⟨_,by symm,by symm,by symm,by symm⟩) (by kernel_rfl) (by decide) (by decide)
 | exists Fi _ _ _ _ _ _;first
  | apply T7
  | apply VQ<;>symm
 | exists jd _ _ _ _;constructor<;>first|rfl|exact .inl rfl|exact .inr rfl|symm
 | exists _a.r0 _ _ _;first
  | apply _f.lA
 | exists Tg _ _ _ _;first
  | exists Tg _ _ (stN _) _;exact mX _
  | exact Le rfl (by symm) rfl
 | exists yw _ _ _ _;first
  | exists yw _ _ [] _;exact MX
  | exact wZ (by symm) (by symm)
 | exists PG _ _ _;first
  | exists PG _ (.Name _ _) _;exact k6 (by first|exact nd|decide +kernel) rfl (by first|exact .inl rfl|exact .inr rfl)
  | exact LJ rfl (by symm)
 | exists yx _ _ _;first
  | exists yx _ [] _;exact MN
  | exact wK (by symm) (by symm)
 | exists xu _ _ _ _ _;first
  | apply _f.uE;and_intros
  | apply _f.r6;and_intros
  | apply _f.xV<;>symm
  | apply _f.qF<;>symm
 | exists PO _ _ _;first
  | apply Ky
  | apply Kx;symm
 | exists v7 _ _ _ _ _ _;first
  | exists v7 _ _ _ _ _ (e1 bA _);refine JY rfl ?_;symm
  | exists v7 _ _ _ _ _ (e2 yn _ _);exact Ma rfl (_a.K8 rfl T.wj (aO (by symm) (aO (by symm) bI)))
  | exists v7 _ _ _ _ _ (dN _);refine MT (Oo rfl T.rl (aO ?_ bI));symm
 | exists _f.r0 _ _ _ _ _ _;first
  | exists _f.r0 _ _ _ _ _ (e1 bA _);refine JX rfl ?_;symm
  | refine Kz ?_;symm
 )
set_option hygiene true
variable{l:Nat}{L:L9 Dz}
namespace _e
open _f
inductive sk(K:Frag)(mg:Str->Option V9):List (Str×Nat×List Str)->Prop
 | nil:sk K mg []
 | cons {x:Str} {i:Nat} {ps:List Str} {r:List (Str×Nat×List Str)}:jv K mg x (top i) ps->sk K mg r->sk K mg ((x,i,ps)::r)
theorem gd{w:W9}{base:Hz}{TH:Hp}{e:Nat}{b:L9 Str}{r:L9 (Str×Nat×L9 Str)}{fb:Sg->R Fw}{a:FuncData}(G:L9 A->R A)(k:Nat)(N:L9 Str)(D:sk K mg ((x,i,ps)::r))(h:cE P w K mg base TH (k+1) x ps G->sk K mg r->c5 P w K mg base (d4 P w) e c a b (yQ K TH))
  (S:cb N ps (aD (top i)):=by symm) (hG:autoParam (G=du N.length fb) z3) (hb:Fn P w K mg base TH k x (top i) N fb:=by symm):c5 P w K mg base (d4 P w) e c a b (yQ K TH):=by
 cases D with
 | cons d r=>exact h (hG▸Sy N d S hb) r
section
variable{P:P9}{w:W9}{K:Frag}{mg:Str->O9 V9}{base:Hz}{TH:Hp}
theorem nY:cb ["self"] ["self"] (aD (aS (top 23) 3)):=⟨rfl,rfl,rfl,by ext,rfl,by decide +kernel,by decide +kernel⟩
theorem vR(T:Txt w K mg){fd:FuncData}(b:jt K "paper" "ShutOut.paper" (aS (top 23) 3) f fd)(a:mK K mg ["LetBy","ShutOut"] "borders"):c5 P w K mg base (d4 P w) 1 f fd ["self"] (nh (g6 P w K mg base TH) K mg 1 iQ):=
 @jN P w K mg base TH "paper" "ShutOut.paper" (aS (top 23) 3) ["self"] ["self"] 0 f fd oR b nY (λc A outer s H F E hr=>by
  have nd:=nY.nd
  exact(_f.bC (_f.cB (cS (pP (bD cW (bD (pU rfl rfl a (pA (pv 0) rfl)) cP)))))))
theorem o0:cb ["self"] ["self"] (aD (aS (top 24) 1)):=⟨rfl,rfl,rfl,by ext,rfl,by decide +kernel,by decide +kernel⟩
theorem xQ(T:Txt w K mg){fd:FuncData}(a:jt K "says" "ForEver.says" (aS (top 24) 1) f fd):c5 P w K mg base (d4 P w) 1 f fd ["self"] (nh (g6 P w K mg base TH) K mg 1 fC):=
 @jN P w K mg base TH "says" "ForEver.says" (aS (top 24) 1) ["self"] ["self"] 0 f fd pY a o0 (λb A outer s H F E hr=>by
  have nd:=o0.nd
  exact(_f.bC (_f.cB (cS cW))))
theorem nZ:cb ["self"] ["self"] (aD (aS (top 24) 2)):=⟨rfl,rfl,rfl,by ext,rfl,by decide +kernel,by decide +kernel⟩
theorem vS(T:Txt w K mg){fd:FuncData}(a:jt K "stops" "ForEver.stops" (aS (top 24) 2) f fd):c5 P w K mg base (d4 P w) 1 f fd ["self"] (nh (g6 P w K mg base TH) K mg 1 iR):=
 @jN P w K mg base TH "stops" "ForEver.stops" (aS (top 24) 2) ["self"] ["self"] 0 f fd oS a nZ (λb A outer s H F E hr=>by
  have nd:=nZ.nd
  exact(_f.bC (_f.cB (cS uQ))))
theorem n4:cb ["self"] ["self"] (aD (aS (top 24) 3)):=⟨rfl,rfl,rfl,by ext,rfl,by decide +kernel,by decide +kernel⟩
theorem vT(T:Txt w K mg){fd:FuncData}(g:jt K "paper" "ForEver.paper" (aS (top 24) 3) f fd)(a:mK K mg ["ForEver"] "again")(c:mK K mg ["ForEver"] "first")(d:mK K mg ["LetBy","ShutOut","ForEver"] "room")(b:mK K mg ["LetBy","ShutOut","ForEver"] "place"):c5 P w K mg base (d4 P w) 1 f fd ["self"] (nh (g6 P w K mg base TH) K mg 1 iS):=
 @jN P w K mg base TH "paper" "ForEver.paper" (aS (top 24) 3) ["self"] ["self"] 0 f fd oU g n4 (λe A outer s H F E hr=>by
  have nd:=n4.nd
  exact(_f.bC (_f.cB (cS (pP (@bD _ _ _ _ _ _ _ cW (bD (pU rfl rfl b (pA (pv 0) rfl)) (bD (pU rfl rfl d (pA (pv 0) rfl)) (bD (pU rfl rfl c (pA (pv 0) rfl)) (bD (pU rfl rfl a (pA (pv 0) rfl)) cP)))) lO))))))
end
section
variable{P:P9}{w:W9}{K:Frag}{mg:Str->O9 V9}{base:Hz}{TH:Hp}
end
section
variable{P:P9}{w:W9}{K:Frag}{mg:Str->O9 V9}{base:Hz}{TH:Hp}
theorem gH:dm ["strip","machine"] ["strip"] ["machine"] c8.scope:=⟨rfl,rfl,rfl,by decide +kernel,rfl,by decide +kernel,by decide +kernel,by decide +kernel,by decide +kernel⟩
theorem vU:∀ y∈c8.scope.names,y.2=.free->(aD (top 29)).names.lookup y.1=some .cell\/(aD (top 29)).names.lookup y.1=some .free:=by decide +kernel
theorem t8:(f6,("sayer.<locals>.word_of":Str))∈rn:=(.head _)
theorem vW:∀ p∈rn,p.1.line=f6.line->p.1.col=f6.col->p.2=("sayer.<locals>.word_of":Str):=by decide +kernel
theorem t9(T:Txt w K mg)(a:cE P w K mg base TH 6 "walk" ["machine","strip"] jE)(h_:∀ p∈[(("LetBy":Str),gO),(("ShutOut":Str),fB),(("ForEver":Str),fC)],xJ P w K mg base TH 1 p.1 "says" p.2):ir P w K mg base TH c8 ["machine"] 7 1 (gC 2 bX):=
 @La P w K mg base TH c8 ["strip","machine"] ["strip"] ["machine"] 6 _ bX rfl gH (λ_ _ _ _ _=>_e.Aj λ_=>rfl) (λf c cl A outer s H F E b hr=>by
  have nd:=gH.nd
  symm)
theorem Nh:cb ["machine","word_of"] ["machine"] (aD (top 29)):=by constructor<;>first|rfl|decide +kernel
theorem Vl(T:Txt w K mg)(D:jc K mg base TH rn "sayer" (top 29) ["machine"])(a:cE P w K mg base TH 6 "walk" ["machine","strip"] jE)(h_:∀ p∈[(("LetBy":Str),gO),(("ShutOut":Str),fB),(("ForEver":Str),fC)],xJ P w K mg base TH 1 p.1 "says" p.2):cE P w K mg base TH 1 "sayer" ["machine"] m5:=
 @S4 P w K mg base TH "sayer" (top 29) _ _ _ ["machine","word_of"] ["machine"] 0 7 1 1 "sayer.<locals>.word_of" rn (λq=>[(("sayer.<locals>.word_of":Str),c8)].lookup q) c8 ["machine"] [0] (gC 2 bX) D Nh rfl rfl (t9 T a h_) (λy d=>gH.only (y,.free) d rfl) (λy d=>BE (gH.uj y d)) rfl (by decide) (by decide) (by decide) (by decide +kernel) (λf c0 P0 A outer s H F E b c hr=>by
  have nd:=Nh.nd
  exact⟨pv 1,(Mf (S:=c8) rfl rfl c (_a.Lm rfl b rfl t8 vW vU rfl rfl rfl nd rfl (Or.inl rfl)))⟩)
end
section
variable{P:P9}{w:W9}{K:Frag}{mg:Str->O9 V9}{base:Hz}{TH:Hp}
end
section
variable{P:P9}{w:W9}{K:Frag}{mg:Str->O9 V9}{base:Hz}{TH:Hp}
theorem gI:dm ["begun","columns"] ["begun"] ["columns"] c9.scope:=⟨rfl,rfl,rfl,by decide +kernel,rfl,by decide +kernel,by decide +kernel,by decide +kernel,by decide +kernel⟩
theorem vY:∀ y∈c9.scope.names,y.2=.free->(aD (top 40)).names.lookup y.1=some .cell\/(aD (top 40)).names.lookup y.1=some .free:=by decide +kernel
theorem uA:(f7,("one_way.<locals>.after":Str))∈rn:=(.tail _ (.head _))
theorem vZ:∀ p∈rn,p.1.line=f7.line->p.1.col=f7.col->p.2=("one_way.<locals>.after":Str):=by decide +kernel
theorem uB(T:Txt w K mg)(a:cE P w K mg base TH 3 "longer" ["begun","cells"] fJ):ir P w K mg base TH c9 ["columns"] 4 1 (gC 2 c7):=
 @La P w K mg base TH c9 ["begun","columns"] ["begun"] ["columns"] 3 _ c7 rfl gI (λ_ _ _ _ _=>_e.Aj λ_=>rfl) (λf c cl A outer s H F E b hr=>by
  have nd:=gI.nd
  symm)
theorem hX:dm ["found","at"] ["found","at"] [] f8.scope:=⟨rfl,rfl,rfl,by decide +kernel,rfl,by decide +kernel,by simp,by decide +kernel,by simp⟩
theorem xR:∀ y∈f8.scope.names,y.2=.free->(aD (top 40)).names.lookup y.1=some .cell\/(aD (top 40)).names.lookup y.1=some .free:=by decide +kernel
theorem v5:(gG,("one_way.<locals>.<lambda>":Str))∈rn:=(.tail _ (.tail _ (.head _)))
theorem xS:∀ p∈rn,p.1.line=gG.line->p.1.col=gG.col->p.2=("one_way.<locals>.<lambda>":Str):=by decide +kernel
theorem v9(T:Txt w K mg):ir P w K mg base TH f8 [] 1 2 (gC 2 eF):=
 @Rg P w K mg base TH f8 ["found","at"] ["found","at"] [] 0 _ (e2 qg (e1 dn (rV 0)) (eC (.int 200))) rfl hX (λ_ _ _ _ _=>_e.G7 λ_ _=>rfl) (λf b cl A outer s H F E a hr=>by
  have nd:=hX.nd
  symm)
theorem zI:cb ["machine","columns","after","search","found"] ["machine"] (aD (top 40)):=by constructor<;>first|rfl|decide +kernel
theorem Xx(T:Txt w K mg)(D:jc K mg base TH rn "one_way" (top 40) ["machine"])(e:cE P w K mg base TH 1 "signs_of" ["machine"] dJ)(g:cE P w K mg base TH 1 "cells_of" ["machine","number"] fS)(b:cE P w K mg base TH 3 "longer" ["begun","cells"] fJ)(a:cE P w K mg base TH 13 "reached" ["begin","after","done"] kH)(c:cE P w K mg base TH 1 "without_signs" ["machine"] eE)(d:cE P w K mg base TH 2 "word_behind" ["machine","begun"] eK){mi mq:Az}(cu:m3 K mg "TooMany" mi mq):cE P w K mg base TH 14 "one_way" ["machine"] gQ:=
 @TN P w K mg base TH "one_way" (top 40) ["machine","columns","after","search","found"] ["machine"] 13 rn (λq=>[(("one_way.<locals>.after":Str),c9)].lookup q) oN D zI (λf c0 P0 A outer s H F E k l hr=>by
  have nd:=zI.nd
  delta oN c7 eF
  exact(_f.aJ (by symm) (_f.aJ (Mf (S:=c9) rfl rfl l (_a.Lm rfl k rfl uA vZ vY rfl rfl rfl nd rfl (Or.inl rfl))) (_f.aJ (KA 1 (_f.dA (_a.dA (i:=3) nd rfl (Or.inl rfl) (Q_ (js:=[1]) rfl rfl rfl rfl rfl rfl rfl (TM ⟨_,rfl,rfl,rfl⟩ Q9) (_a.RJ a (hr.mono (by decide)) rfl (jW λ_ _ _ h=>h) (xC (Qt (by symm)) (xC (TU (S:=c9) rfl (uB T b) (λy j=>gI.only (y,.free) j rfl) (λy j=>BE (gI.uj y j)) rfl (by decide) (pv 2)) (xC (Rf (S:=f8) rfl l (v9 T ) (λy j=>hX.only (y,.free) j rfl) (λy j=>BE (hX.uj y j)) rfl (by decide) (_a.RK rfl k rfl v5 xS xR rfl)) TR)))))))) (by symm)))))
end
section
variable{P:P9}{w:W9}{K:Frag}{mg:Str->O9 V9}{base:Hz}{TH:Hp}
theorem qE:cb ["machine","ahead","again","behind","strip","reader","passed","words","start","length"] ["machine","ahead","again","behind"] (aD (top 48)):=by constructor<;>first|rfl|decide +kernel
theorem Yz(T:Txt w K mg)(D:kx K mg "comes_round" (top 48) ["machine","ahead","again","behind"] [.str ""])(e:cE P w K mg base TH 4 "checked" ["machine","strip"] bQ)(d:cE P w K mg base TH 14 "one_way" ["machine"] gQ)(a:cE P w K mg base TH 2 "rooms_passed" ["reader","room","piece"] gP)(c:cE P w K mg base TH 1 "room_from" ["reader","room","strip"] dF)(b:cE P w K mg base TH 1 "least_round" ["words"] fY):LZ P w K mg base TH 15 "comes_round" ["machine","ahead","again","behind"] [.str ""] b9:=
 @VY P w K mg base TH "comes_round" (top 48) ["machine","ahead","again","behind","strip","reader","passed","words","start","length"] ["machine","ahead","again","behind"] [.str ""] 14 iT D qE (λf g A outer s H F E hr=>by
  have nd:=qE.nd
  delta iT Ag Af Ah Di
  exact(_f.aJ (by symm) (_f.aJ (by symm) (_f.aJ (by symm) (_f.aJ (by symm) (_f.aJ (by symm) (_f.aJ (by symm) (_f.aJ (_f.fF (_a.fF (jG ⟨rfl,rfl⟩) (by symm) (_f.bC (_f.sA Uq (_a.sA (i:=8) nd rfl (Or.inl rfl) (by symm) SI))))) (by symm)))))))))
end
section
variable{P:P9}{w:W9}{K:Frag}{mg:Str->O9 V9}{base:Hz}{TH:Hp}
end
section
variable{P:P9}{w:W9}{K:Frag}{mg:Str->O9 V9}{base:Hz}{TH:Hp}
end
section
variable{P:P9}{w:W9}{K:Frag}{mg:Str->O9 V9}{base:Hz}{TH:Hp}
end
section
variable{P:P9}{w:W9}{K:Frag}{mg:Str->O9 V9}{base:Hz}{TH:Hp}
end
theorem IH{z:L9 Nat}(h:z.length<=16777216):dn (cq z)=.ok (.int (z.length:Int)):=by
 unfold cq;rw[y7 (by assumption),lN]
section
variable{ap r1 r2:L9 (L9 Nat)}{ws w1 w2:L9 Str}{sg:Nat}{L:L9 Nat}{N:Nat}
end
section
variable{ap:L9 (L9 Nat)}{ws:L9 Str}{rs:L9 Rw}{sg N:Nat}{L:L9 Nat}
theorem Pg(M:cg rs sg)(B:Dp rs sg):∃ N,Wy rs sg N/\qa rs sg 200 N:=by
 obtain⟨N,a,E⟩:=Tt rs sg 200
 exact⟨N,⟨M,E.full (B _ (KY _ _ _) λx b=>t4 M (by ext) b),a⟩,E⟩
end
def WL(L:L9 Dz):Prop:=∀ x∈L,∃ w,He w/\x=.str w
theorem WL.sh(h:WL L):∀ x∈L,Sh 1 x:=λx b=>by
 obtain⟨w,a,rfl⟩:=h x b
 exact IB _ (by rcases a with rfl|rfl|rfl<;>decide +kernel)
theorem WL.cp(h:WL L):Cp (.list L):=by
 refine⟨?_,Sh.shaped (tq h.sh) (by simp)⟩
 exact vI λx a=>by
  obtain⟨w,_,rfl⟩:=h x a
  rfl
theorem WL.Ju(h:WL L){x:Dz}(hx:x∈L):Cp x:=by
 refine⟨?_,Sh.shaped (h.sh x hx) (by simp)⟩
 obtain⟨w,_,rfl⟩:=h x hx
 rfl
theorem Ng(xs:L9 Dz)(h:l<=xs.length):kQ xs (some (l:Int)) none=xs.drop l:=by
 unfold kQ
 rw[_b.zM,_b.wL,Nat.min_eq_left h,CM (by simp)]
theorem Q1(xs:L9 Dz)(h:l<=xs.length):kQ xs none (some (l:Int))=xs.take l:=by
 unfold kQ
 rw[_b.zM,_b.wL,Nat.min_eq_left h,List.drop_zero,Nat.sub_zero]
theorem Vk(hw:WL L)(q:L.length<=1000):∀ (n l:Nat),1<=l->l<=L.length->L.length<=l+n->
  ∃ l',1<=l'/\l'<=L.length/\aG (bF zq zr) (aM (vV 1)) [some (.d (.list L)),some (.d (.int (l:Int)))]=.ok (.rt (.d (.int (l':Int)))):=by
 have b:∀ l,l<=L.length->zq [some (.d (.list L)),some (.d (.int l))]=.ok (!decide (PyData.list (L.drop l++L.take l)=.list L)):=λl h=>by
  have s1:ia (.list L) (some l) none=.ok (.list (L.drop l)):=by rw[<-Ng L h];rfl
  have m:ia (.list L) none (some l)=.ok (.list (L.take l)):=by rw[<-Q1 L h];rfl
  have i:tD (.list (L.drop l)) (.list (L.take l))=.ok (L.drop l++L.take l):=by
   show(if _<=sizeLine then R.ok _ else .bad)=_
   rw[AI (by rw[CF,BQ,iF];ext)]
  have a:WL (L.drop l++L.take l):=λw g=>hw w ((BN.mp g).elim List.mem_of_mem_drop EC)
  simp[zq,s1,m,i,(QL a.cp hw.cp)]
 intro n
 induction n with
 | zero=>
  intro l h1 h2 p
  have e:l=L.length:=by ext
  subst e
  refine⟨L.length,h1,AG _,?_⟩
  have:=b L.length (AG _)
  rw[EU,List.take_length,BC,A2 rfl]at this
  rw[aU,cC this]
  rfl
 | succ n ih=>
  intro l h1 h2 p
  have:=b l h2
  by_cases hr:PyData.list (L.drop l++L.take l)=.list L
  .refine ⟨l,h1,h2,?_⟩
   rw[A2 hr]at this
   rw[aU,cC this]
   rfl
  .have o:l≠L.length:=by
    rintro rfl
    simp_all
   obtain⟨l',f,k,c⟩:=ih (l+1) (by simp) (by ext) (by ext)
   refine⟨l',f,k,?_⟩
   rw[BB hr]at this
   have j:zr [some (.d (.list L)),some (.d (.int l))]=.ok (.nx [some (.d (.list L)),some (.d (.int ((l+1:Nat):Int)))]):=by simp[zr,uT]
   rw[aU]at c ⊢
   rw[eX this j]
   exact c
theorem WA{L:L9 Dz}(hw:WL L)(c:L.length<=1000)(h1:1<=L.length):∃ l,1<=l/\l<=L.length/\fY [.d (.list L)]=.ok (.d (.int (l:Int))):=by
 obtain⟨l,a,b,e⟩:=Vk hw c L.length 1 (AG _) h1 (by simp)
 refine⟨l,a,b,?_⟩
 unfold fY
 rw[oV]
 simp_all
theorem Vj(hw:WL L)(o:L.length<=1000){a0 a1 a2 a3 a4 a5 a6:O9 A}:∀ (st:Nat),st+l<=L.length->
  ∃ d,aG (bF Af Ah) Di [a0,a1,a2,a3,a4,a5,a6,some (.l L),some (.d (.int (st:Int))),some (.d (.int (l:Int)))]=.ok (.rt (.d d)):=by
 have b:∀ st:Nat,∃ d,Di [a0,a1,a2,a3,a4,a5,a6,some (.l L),some (.d (.int st)),some (.d (.int l))]=.ok (.rt _):=λst=>by
  exact⟨_,by rfl⟩
 intro st
 induction st with
 | zero=>
  intro h
  obtain⟨d,a⟩:=b 0
  exact⟨d,by rw[aU,cC (by rfl)];exact a⟩
 | succ st ih=>
  intro h
  have e:∀ k,k < L.length->∃ x∈L,b_ _ _=.ok x:=λk f=>⟨_,DW f,jY (cM (AJ f))⟩
  obtain⟨x,j⟩:=e st (by ext)
  obtain⟨y,m⟩:=e (st+l) (by ext)
  have e1:((st+1:Nat)) - 1=(st:Int):=by simp
  have e2:(st+l)=((st+l:Nat):Int):=by rfl
  have g:0 < ((st+1:Nat):Int):=by simp
  have c:Af [a0,a1,a2,a3,a4,a5,a6,some (.l L),some (.d (.int ((st+1:Nat)))),some (.d (.int l))]=.ok (decide (x=y)):=by
   unfold Af
   simp only[uZ,fU,gZ,fO,fN,AW,AK,R.cf,Qs,A2 g,kT,CG,K6,e1,j.2,y6,e2,m.2,(KS (hw.Ju j.1) (hw.Ju m.1))]
  by_cases i:x=y
  .obtain ⟨d,a⟩:=ih (by ext)
   refine⟨d,?_⟩
   rw[A2 i]at c
   have n:Ah [a0,a1,a2,a3,a4,a5,a6,some (.l L),some (.d (.int ((st+1)))),some (.d (.int l))]=.ok (.nx [a0,a1,a2,a3,a4,a5,a6,some (.l L),some (.d (.int st)),some (.d (.int l))]):=by
    simp[Ah]
   rw[aU]at a ⊢
   rw[eX c n]
   ext
  .obtain ⟨d,a⟩:=b _
   rw[BB i]at c
   exact⟨d,by rw[aU,cC c];exact a⟩
def yg(ap:L9 (L9 Nat))(ws:L9 Str)(a g b:L9 Nat)(k:Nat):Str:=ws.getD (runN ap (itR ap (runN ap 0 a) g k) b) ""
theorem Pf{rs:L9 Rw}{ap:L9 (L9 Nat)}{ws:L9 Str}(M:cg rs sg)(P:gQ [.d (aL rs)]=.ok (.d (va ap ws)))(Rr:Fh ap ws sg){a g b:L9 Nat}(Sa:aN sg a)(Sg:aN sg g)(Sb:aN sg b) :
  ∃ d,b9 [.d (aL rs),.d (cq a),.d (cq g),.d (cq b)]=.ok (.d d):=by
 have n2:=Rr.r.n2
 have f:=Ei Rr.r (wd:=ws.map .str) Rr.r.n1 Sa.2 Sa.1
 obtain⟨m,s,N,O,T,j⟩:=Tp Rr.r (wd:=ws.map .str) (iI Rr.r a Sa.2 Rr.r.n1) Sg.2 Sg.1
 have u:∀ z:L9 Nat,aN sg z->bQ [.d _,.d (cq z)]=.ok _:=λz S=>by
  have:=lK M (z:=⟨z.toArray⟩) (by ext)
  assumption
 obtain⟨W,C,n,rfl⟩:=jA (fs:=stN 4)
  (λi Y=>∃ n,Y=[some (.d (aL rs)),some (.d (cq a)),some (.d (cq g)),some (.d (cq b)),n,none,none,none,none,none]) ⟨none,rfl⟩ λi z Y G y=>by
  obtain⟨n,e⟩:=y
  have c:=AD G
  have S:aN sg z:=by
   rcases AQ.mp c with rfl|c
   · exact Sa
   rcases AQ.mp c with rfl|c
   · exact Sg
   · rw [AS.mp c]; ext
  have:=u z S
  refine⟨_,_,by rw[e];rfl,.inl (show Ag [some _,some _,some _,some _,some (.d (cq z)),none,none,none,none,none]=.ok _ from ?_),some (.d (cq z)),rfl⟩
  simp[Ag,this]
 have A:(ie ap (runN ap 0 a) g m).length=m:=by unfold ie;rw[AL,B8]
 have B:bA (.list (ie ap (runN ap 0 a) g m))=.ok (ie ap (runN ap 0 a) g m):=gF (by rw[A];ext)
 have t:di (stN 0) dS (e2 b_ (e2 b_ (rV 1) (eC (.int 1))) (eA (aK 3 dF (aC (vV 1) (aC (vV 0) (aC (vV 2) aF)))))) [none,some (.d (va ap ws)),some (.d (cq b))] (ie ap (runN ap 0 a) g m)=.ok ((range m).map λk=>PyData.str (yg ap ws a g b k)):=cL (d:=λk=>.int (itR ap (runN ap 0 a) g k:Int)) (g:=λk=>.str (yg ap ws a g b k)) (xs:=range m) λk _=>⟨_,rfl,by
  have hr:=Ei Rr.r (wd:=ws.map .str) ((p9 Rr.r (iI Rr.r a Sa.2 Rr.r.n1) Sg.2) k) Sb.2 Sb.1
  have p:=(Rr.w ((λk=>iI Rr.r b Sb.2 ((p9 Rr.r (iI Rr.r a Sa.2 Rr.r.n1) Sg.2) k)) k)).2
  have K:b_ (va ap ws) (.int 1)=.ok (.tuple (ws.map .str)):=rfl
  rw[show tw ap (ws.map .str)=va ap ws from rfl]at hr
  unfold yg
  generalize cq b=Z at *
  generalize va ap ws=U at *
  generalize ws.getD (runN ap (itR ap (runN ap 0 a) g k) b) ""=V at *
  simp[K,hr,p]⟩
 have D:WL ((range m).map λk=>PyData.str (yg ap ws a g b k)):=λx p=>by
  obtain⟨k,_,rfl⟩:=BG.mp p
  exact⟨_,(λk=>(Rr.w ((λk=>iI Rr.r b Sb.2 ((p9 Rr.r (iI Rr.r a Sa.2 Rr.r.n1) Sg.2) k)) k)).1) k,rfl⟩
 have I:((range m).map λk=>PyData.str (yg ap ws a g b k)).length=m:=by rw[AL,B8]
 generalize ((range m).map λk=>PyData.str (yg ap ws a g b k))=L at *
 have h:ia (.list L) (some (s:Int)) none=.ok (.list (L.drop s)):=by rw[<-Ng L (l:=s) (by ext)];rfl
 obtain⟨l,X,J,v⟩:=WA (L:=L.drop s) (λw q=>D w (List.mem_of_mem_drop q)) (by rw[CF];ext) (by rw[CF];ext)
 rw[CF]at J
 obtain⟨d,E⟩:=Vj D (by ext) (l:=l) (a0:=some (.d (aL rs))) (a1:=some (.d (cq a))) (a2:=some (.d (cq g))) (a3:=some (.d (cq b))) (a4:=n) (a5:=some (.d (va ap ws))) (a6:=some (.d (.tuple [.list (ie ap (runN ap 0 a) g m),.int (s:Int)]))) s (by ext)
 refine⟨d,?_⟩
 have Q:b_ (.tuple [.list (ie ap (runN ap 0 a) g m),.int (s:Int)]) (.int 0)=.ok (.list (ie ap (runN ap 0 a) g m)):=rfl
 have F:b_ (.tuple [.list (ie ap (runN ap 0 a) g m),.int (s:Int)]) (.int 1)=.ok (.int (s:Int)):=rfl
 have o:bA (.tuple [cq a,cq g,cq b])=.ok ([a,g,b].map cq):=rfl
 rw[show tw ap (ws.map .str)=va ap ws from rfl]at f j
 unfold b9
 rw[iT]
 rw[aU]at E
 generalize H:ie ap (runN ap 0 a) g m=PS at *
 simp only[Int.natCast_zero]at f
 simp only[cX,aU,pR,fU,gZ,L6,rF,fN,oO,eM,fA,kR,iO,fO,gE,eG,lG,lH,yZ,y3,y4,R.cf,AT,A9,Nat.reduceAdd,Nat.reduceSub,Nat.reduceLeDiff,CG,AV,BF,A7,BC,replicate,AW,AK,A4,A3,o]
 simp only[AV,BF]at C
 simp only[C,R.cf,P,mC,f,j,AW,AK,A4,A3,AT,A9,Nat.reduceAdd,CG,Q,F,B,eH,AV,BF,GC,EV,Option.join_some,t,h,v,E]
end _e
namespace _f
@[simp] theorem ZJ(m:Nat)(f:Sg->R A)(g:Sg->R (L9 Dz))(Y:Sg):HF m f g Y=(f Y).bind λa=>match a with
 | .g k n G=>(g Y).bind λds=>if k<=m/\ds.length=n then G ds else .bad
 | _=>.bad:=id rfl
end _f
namespace _e
open _f
section
variable{rs:L9 Rw}{sg:Nat}{z g:L9 Nat}{i:Nat}
def j0(i:Nat):Er:=⟨"NoStrip",[("at",.int (i:Int))]⟩
theorem Q0(M:cg rs sg)(a:z.length<=1000)(h:dW sg 0 z=some i):bQ [.d (aL rs),.d (cq z)]=.ex (j0 i):=by
 have:=Lk M (z:=⟨z.toArray⟩) (by ext)
 rw[h]at this
 exact this
theorem IG(M:cg rs sg)(S:aN sg g):bQ [.d (aL rs),.d (cq g)]=.ok (.d (cq g)):=lK M S
theorem Ij(M:cg rs sg){x y w:L9 Nat}(hx:bQ [.d (aL rs),.d (cq x)]=.ex (j0 i)\/(aN sg x/\bQ [.d (aL rs),.d (cq y)]=.ex (j0 i))\/(aN sg x/\aN sg y/\bQ [.d (aL rs),.d (cq w)]=.ex (j0 i))) :
  b9 [.d (aL rs),.d (cq x),.d (cq y),.d (cq w)]=.ex (j0 i):=by
 have a:bA (.tuple [cq x,cq y,cq w])=.ok _:=rfl
 unfold b9 iT Ag
 rcases hx with h|⟨h1,h⟩|⟨h1,h2,h⟩
 .simp[a,iK,h]
 .simp[a,iK,h,(IG M h1)]
 .have b:=IG M h1
  have c:=IG M h2
  generalize cq y=Yq at *
  generalize cq w=W at *
  simp[a,iK,h,b,c]
theorem KP(a:bQ [.d (aL rs),.d (cq z)]=.ex (j0 i)):mB [.d (aL rs),.d (cq z)]=.ex (j0 i):=by
 unfold mB Eg
 simp[a]
theorem Ii(a:bQ [.d (aL rs),.d (cq z)]=.ex (j0 i)):jE [.d (aL rs),.d (cq z)]=.ex (j0 i):=by
 unfold jE Ia
 simp[(KP a)]
theorem QZ(a:bQ [.d (aL rs),.d (cq z)]=.ex (j0 i))(p:Dz):eZ [.d (aL rs),.d (cq z),.d p]=.ex (j0 i):=by
 have a:=Ii a
 unfold eZ oW
 simp[a]
theorem Qr(a:bQ [.d (aL rs),.d (cq z)]=.ex (j0 i)):gY [.d (aL rs),.d (cq z)]=.ex (j0 i):=by
 unfold gY rD
 simp[a]
theorem Qq(a:bQ [.d (aL rs),.d (cq z)]=.ex (j0 i)):gD [.d (aL rs),.d (cq z)]=.ex (j0 i):=by
 unfold gD o5
 simp_all
theorem Qp(a:bQ [.d (aL rs),.d (cq z)]=.ex (j0 i)):dL [.d (aL rs),.d (cq z)]=.ex (j0 i):=by
 unfold dL nO
 simp_all
theorem Qo(a:bQ [.d (aL rs),.d (cq z)]=.ex (j0 i)):∃ G,m5 [.d (aL rs)]=.ok (.g 7 1 G)/\G [cq z]=.ex (j0 i):=by
 refine⟨gC 2 bX _,rfl,?_⟩
 have a:=Ii a
 unfold gC
 have e:du 2 bX ([cq z].map A.d++[.d (aL rs)])=.ex (j0 i):=by
  unfold bX
  simp_all
 rw[e];rfl
theorem Sw(M:cg rs sg)(S:aN sg g):∃ G d,m5 [.d (aL rs)]=.ok (.g 7 1 G)/\G [cq g]=.ok d:=by
 obtain⟨ps,s,a⟩:=Hy (z:=⟨g.toArray⟩) M S
 have b:=vK M S a.1 a.2.1 a.2.2
 refine⟨gC 2 bX _,.str (cT rs g),rfl,?_⟩
 unfold gC
 have e:du 2 bX ([cq g].map A.d++[.d (aL rs)])=.ok (.d (.str (cT rs g))):=by
  unfold bX
  rw[cX,jK,h_ a.2.2]
  · rfl
  assumption
 rw[e];rfl
section
variable{rs:L9 Rw}{sg:Nat}{z:Str}{ps:L9 (Int×Int)}{s:Int×Int}
theorem Wz(M:cg rs sg)(S:aN sg z.cps.toList)(c:eP rs z.cps.toList=ps++[s])(P:fx rs z.cps.toList ps s)(W:oy rs z.cps.toList ps s)(n:s∉ps){d:Dz}(e:Cp d):eZ [.d (aL rs),.d (.str z),.d d]=.ok (.d (.bool (decide (d=Aw rs z.cps.toList ps s)))):=by
 have a:replicate 1 (none:O9 A)=[none]:=rfl
 have b:vO 3 [some (A.d (aL rs)),some (.d (.str z)),some (.d d),some (.o _)]=.ok (.o (iN rs z.cps.toList ps s)):=rfl
 unfold eZ oW
 simp only[cX,aU,eG,gE,eM,fA,kR,AV,BF,AT,A9,a,A7,BC,AW,AK,R.cf,CG,(vK M S c P W),A4,A3,kS,fU,oO,(λf Y=>jf W (f:=f) (Y:=Y)) _ _ b,mC,kT,A2 n,jK,iO,gZ,fO,(λf Y=>l3 W (f:=f) (Y:=Y)) _ _ b,(KS e (Q3 W))]
theorem Wx(M:cg rs sg)(S:aN sg z.cps.toList)(b:eP rs z.cps.toList=ps++[s])(P:fx rs z.cps.toList ps s)(W:oy rs z.cps.toList ps s)(n:s∈ps){w:Str}(hw:w="by"\/w="out")(t:L9 Dz):eZ [.d (aL rs),.d (.str z),.d (.tuple (.str w::t))]=.ok (.d (.bool false)):=by
 have k:ey (.str w) (.str "ever")=.ok (.bool false):=by
  rw[zA (by ext) (.inr (.inr rfl)),BB (by rcases hw with rfl|rfl<;>decide)]
 have a:replicate 1 (none:O9 A)=[none]:=rfl
 have c:vO 3 [some (A.d (aL rs)),some (.d (.str z)),some (.d (.tuple (.str w::t))),some (.o _)]=.ok (.o (iN rs z.cps.toList ps s)):=rfl
 unfold eZ oW
 simp only[cX,aU,eG,gE,eM,fA,kR,AV,BF,AT,A9,a,A7,BC,AW,AK,R.cf,CG,(vK M S b P W),A4,A3,kS,fU,oO,(λf Y=>jf W (f:=f) (Y:=Y)) _ _ c,mC,kT,BB (show ¬ s∉ps by simp_all),CC,DU,pQ,jK,iO,Uk,gZ,fO,fN,tP,k]
end
theorem Sv(M:cg rs sg)(S:aN sg g):∃ d,eZ [.d (aL rs),.d (cq g),.d (.tuple [.str "by",.tuple [.tuple [.int 0]]])]=.ok (.d d):=by
 obtain⟨ps,s,a⟩:=Hy (z:=⟨g.toArray⟩) M S
 by_cases n:s∈ps
 · exact⟨_, Wx M S a.1 a.2.1 a.2.2 n (.inl rfl) _⟩
 · exact⟨_, Wz M S a.1 a.2.1 a.2.2 n ⟨by kernel_rfl, by kernel_rfl⟩⟩
theorem IF(M:cg rs sg)(h2:rs.length<=2)(S:aN sg g):∃ d,b9 [.d (aL rs),.d (cq g),.d (cq g),.d (cq g)]=.ok (.d d):=by
 have B:Dp rs sg:=by
  have:=M.len
  by_cases h:rs.length=1
  · exact λxs nd a => A6 (Tr M h xs nd a) (by simp)
  · exact Tx M (by ext)
 obtain⟨N,W⟩:=Pg M B
 obtain⟨d,e⟩:=Pf M (YE W.1 W.2) W.1.OL S S S
 exact⟨_,e⟩
def vy(sg:Nat):Dz:=tw [replicate sg 1,replicate sg 0] [.str "by",.str "ever"]
theorem G_(s1:1<=sg)(a:sg<=2):dD [.d (.int (sg:Int))]=.ok (.d (vy sg)):=by
 match sg,s1,a with
 | 1,_,_=>rfl
 | 2,_,_=>rfl
theorem KO(s1:1<=sg)(a:sg<=2):ve [replicate sg 1,replicate sg 0] sg:=⟨DP 1,by simp,s1,by ext,λr hr=>by
 rcases AQ.mp hr with rfl|hr<;>simp_all⟩
theorem KN(s1:1<=sg)(a:sg<=2):rE [.d (vy sg)]=.ok (.d (.int (sg:Int))):=by
 match sg,s1,a with
 | 1,_,_=>rfl
 | 2,_,_=>rfl
theorem LR(s1:1<=sg)(a:sg<=2)(S:aN sg g):∃ r:Nat,r < 2/\gR [.d (vy sg),.d (cq g)]=.ok (.d (.int (r:Int))):=by
 have h:=Ei (KO s1 a) (wd:=[.str "by",.str "ever"]) Nat.zero_lt_two S.2 S.1
 have b:=HS s1 (by ext) (z:=⟨g.toArray⟩) (by show g.length<=_;have:=S.1;ext)
 rw[wR S.2]at b
 have b:fH [.d _,.d (cq g)]=.ok (.d (cq g)):=b
 have c:=KN s1 a
 have h:dF [.d (vy sg),.d _,.d _]=.ok _:=h
 refine⟨_,iI (KO s1 a) g S.2 Nat.zero_lt_two,?_⟩
 unfold gR tL
 simp_all
theorem KL(s1:1<=sg)(b:sg<=2)(e:z.length<=1000)(h:dW sg 0 z=some i):gR [.d (vy sg),.d (cq z)]=.ex (j0 i):=by
 have a:=HS s1 (by ext) (z:=⟨z.toArray⟩) (by ext)
 rw[h]at a
 have a:fH [.d _,.d (cq z)]=.ex (j0 i):=a
 have c:=KN s1 b
 unfold gR tL
 simp_all
theorem Qn(s1:1<=sg)(a:sg<=2)(b:z.length<=1000)(h:dW sg 0 z=some i):i9 [.d (vy sg),.d (cq z)]=.ex (j0 i):=by
 have e:=KL s1 a b h
 unfold i9 tM
 have c:b_ (vy sg) (.int 1)=.ok _:=rfl
 simp_all
theorem Su(s1:1<=sg)(b:sg<=2)(S:aN sg g):∃ d,i9 [.d (vy sg),.d (cq g)]=.ok (.d d):=by
 obtain⟨r,hr,e⟩:=LR s1 b S
 unfold i9 tM
 have c:b_ (vy sg) (.int 1)=.ok _:=rfl
 have a:∃ d,b_ (.tuple [.str "by",.str "ever"]) (.int r)=.ok d:=by
  rcases(by omega:r=0\/r=1)with rfl|rfl<;>simp
 obtain⟨d,a⟩:=a
 simp_all
end
end _e
namespace _e
section
variable{rs:L9 Rw}{sg:Nat}{x y z:L9 Nat}
end
section
variable{rs:L9 Rw}{sg:Nat}{x y z:L9 Nat}
def As(a b:Tb):Tb:=⟨a.f.map λth=>oA a b th 1,b.a.map λth=>oA a b th (-1)⟩
end
end _e
namespace _e
open _f
variable{Zq Yq:Dz}
theorem Xw{a b:Tb}(h:a.good m)(hb:b.good m)(o:m<=1000){g:Int×Int}:∀ (n:Nat) (ps:L9 (Int×Int)) (s:Int×Int),gn (nB a b) g ps s->(∀ p∈ps,uN m p)->uN m s->2 * m+1<=ps.length+n->
  aG (bF gT gB) (aM (vV 2)) (gρ a b (some s) s.1 ps)=.ok (.rt (.d (ng (bM (nB a b) g)))):=by
 intro n
 induction n with
 | zero=>
  intro ps s U e V l
  have:=NS U.nd e
  ext
 | succ n ih=>
  intro ps s U e V l
  rw[aU]
  by_cases c:s∈ps
  .rw[kK (by rw[u8,A2 rfl]) (QX c),U.met c];rfl
  .have r:ps.length<=2 * m:=NS U.nd e
   rw[eX (by rw[u8,A2 rfl]) (Pz h hb c V (by ext))]
   have j:jU m (if s.1=1 then b.at 1 s.2 else a.at (-1) s.2):=by
    split
    .exact (hb.at V.2.1 V.2.2).2
    .exact (h.at V.2.1 V.2.2).2
   have st:nB a b s=match (if s.1=1 then b.at 1 s.2 else a.at (-1) s.2)with
    | none=>none
    | some (w,q)=>if w = -s.1 then some (.inl (w,q))else some (.inr (w,q)):=rfl
   cases i:(if s.1=1 then b.at 1 s.2 else a.at (-1) s.2)with
   | none=>
    rw[i]at st
    rw[cC (L3 _ _ _ _),U.w_ st]
    simp[gρ]
   | some x=>
    obtain⟨w,q⟩:=x
    rw[i]at st j
    simp only at st
    by_cases f:w = -s.1
    .rw[AI f]at st
     have:=ih (ps++[s]) (w,q) (U.next c st) (λp k=>by
      rcases BN.mp k with z|z
      · exact e p z
      · rw [AS.mp z]; exact V) j (by rw [AY, DJ]; ext)
     simp_all
    .rw[AM f]at st
     rw[U.outs st,cC (by rw[u8,BB f])]
     simp[gρ]
theorem LQ{a b:Tb}(e:a.good m)(hb:b.good m)(f:m<=1000){th:Th}{w:Int}(c:jU m th)(hw:w=1\/w = -1):gX [.d (jx a),.d (jx b),.d (ng th),.d (.int w)]=.ok (.d (ng (oA a b th w))):=by
 have g:gX [.d (jx a),.d (jx b),.d (ng th),.d (.int w)]=(aG (bF gT gB) (aM (vV 2)) (gρ a b th w [])).bind λw=>match w with | .rt (.l _)=>.bad | .rt a=>.ok a | .nx _=>.ok (.d .none)|_=>.bad:=by
  rfl
 rw[g]
 cases th with
 | none=>
  rw[aU,cC (L3 _ _ _ _)]
  rfl
 | some s=>
  by_cases q:s.1=w
  .subst q
   rw[Xw e hb f (2 * m+1) [] s .start (λp h=>by simp_all) c (by simp)]
   simp[oA]
  .rw[aU,cC (by rw[u8,BB q])]
   simp[gρ,oA,(q)]
theorem Qm{a b:Tb}(e:a.good m)(hb:b.good m)(h:m<=1000):nP [.d (jx a),.d (jx b)]=.ok (.d (jx (As a b))):=by
 have h1:=cL (fs:=stN 0) (fe:=eA (aK 4 gX (aC (vV 1) (aC (vV 2) (aC (vV 0) (aC (vD (eC (.int 1))) aF)))))) (Y0:=[none,some (.d (jx a)),some (.d (jx b))]) (d:=ng) (g:=λth=>ng (oA a b th 1)) (xs:=a.f) λth c=>⟨_,rfl,by simp[LQ e hb h (e.gf th c) (.inl rfl)]⟩
 have h2:=cL (fs:=stN 0) (fe:=eA (aK 4 gX (aC (vV 1) (aC (vV 2) (aC (vV 0) (aC (vD (e1 hW (eC (.int 1)))) aF)))))) (Y0:=[none,some (.d (jx a)),some (.d (jx b))]) (d:=ng) (g:=λth=>ng (oA a b th (-1))) (xs:=b.a) λth c=>⟨_,rfl,by simp[LQ e hb h (hb.ga th c) (.inr rfl)]⟩
 have j:(a.f.map ng).length<=16777216:=by rw[AL,e.lf];ext
 have i:(b.a.map ng).length<=16777216:=by rw[AL,hb.la];ext
 simp[nP,Nd,Kg,Kf,rH j,rH i,eH,h1,h2]
 unfold jx Ee As
 rw[B1,B1]
 rfl
theorem NU{a b:Tb}(c:a.good m)(hb:b.good m){x:Int×Int}(V:uN m s)(h:nB a b s=some (.inl x)\/nB a b s=some (.inr x)):uN m x:=by
 have g:jU m (if s.1=1 then b.at 1 s.2 else a.at (-1) s.2):=by
  split
  · exact(hb.at V.2.1 V.2.2).2
  · exact(c.at V.2.1 V.2.2).2
 unfold nB at h
 cases e:(if s.1=1 then b.at 1 s.2 else a.at (-1) s.2)with
 | none=>simp_all
 | some y=>
  rw[e]at g h
  dsimp at h
  split at h<;>simp at h<;>exact h▸g
theorem zJ{a b:Tb}(f:a.good m)(hb:b.good m){th:Th}{w:Int}(d:jU m th):jU m (oA a b th w):=by
 cases th with
 | none=>exact trivial
 | some s=>
  show jU m (if s.1=w then bM _ s else some s)
  by_cases c:s.1=w
  .rw[AI c];clear c
   cases e:bM _ s with
   | none=>exact trivial
   | some o=>
    obtain⟨k,h⟩:=eN e
    clear e
    induction h with
    | out h=>exact NU f hb d (.inr h)
    | go h _ ih=>exact ih (NU f hb d (.inl h))
  simp_all
theorem Vi{a b:Tb}(c:a.good m)(hb:b.good m):(As a b).good m:=by
 refine⟨by simp[As,c.lf],by simp[As,hb.la],λx d=>?_,λx d=>?_⟩<;>obtain⟨y,e,rfl⟩:=BG.mp d
 · exact zJ c hb (c.gf y e)
 · exact zJ c hb (hb.ga y e)
theorem Ql{rs:L9 Rw}(M:cg rs sg){z:Str}(S:aN sg z.cps.toList):∃ t:Tb,gY [.d (aL rs),.d (.str z)]=.ok (.d (jx t)):=by
 obtain⟨r,t,k,hr⟩:=M.cons
 have f:dJ [.d (aL rs)]=.ok (.d (.int sg)):=by rw[k,u7,hr]
 have v:ia (.str "abc") none (some sg)=.ok (.str (Txt.slice "abc" none (some sg))):=by
  rfl
 have h1:=cL (fs:=stN 0) (fe:=eA (aK 2 dL (aC (vV 1) (aC (vV 0) aF)))) (Y0:=[none,some (.d (aL rs))]) (d:=λu:Nat=>.str ⟨#[u]⟩) (g:=λu:Nat=>jx (jV (u - 97) rs)) (xs:=(Txt.slice "abc" none _).cps.toList) λu a=>⟨_,rfl,by
  have e:bK sg u=true:=by
   rw[(pE M.rh M.qc)]at a
   refine A2 ?_
   have h1:=M.rh
   obtain⟨i,hi⟩:=List.mem_iff_getElem?.mp a
   rw[FC]at hi
   split at hi
   .match i,hi with
    | 0,hi=>ext
    | 1,hi=>simp at hi;ext
    | 2,hi=>simp at hi;ext
   simp_all
  simp[Kh M e]⟩
 have p:bA _=.ok (z.cps.toList.map λu=>.str _):=rJ (by have:=S.1;ext)
 obtain⟨w,s⟩:=jA (fs:=stN 4) (fb:=aV 3 (aK 2 nP (aC (vV 3) (aC (vD (e2 b_ (rV 2) (e2 gM (eC (.str "abc")) (rV 4)))) aF)))) (d:=λu:Nat=>.str ⟨#[u]⟩)
  (λ_ Y=>∃ c t,t.good rs.length/\Y=[some (.d (aL rs)),some (.d (.str z)),some (.l ((Txt.slice "abc" none (some sg)).cps.toList.map λu:Nat=>jx (jV (u - 97) rs))),some (.d (jx t)),c]) ⟨none,_,XP _,rfl⟩
  (λi u Y a b=>by
   obtain⟨c,t,q,rfl⟩:=b
   have h:u - 97 < sg:=by have:=BH (S.2 u (AD a));ext
   have m:([97,98,99]:L9 Nat)[u - 97]? = some u:=by
    have:=BH (S.2 u (AD a))
    have x:=M.qc
    obtain rfl|rfl|rfl:u=97\/u=98\/u=99:=by ext
    all_goals rfl
   have o:b_ (.list ((Txt.slice "abc" none (some (sg:Int))).cps.toList.map λu:Nat=>jx (jV (u - 97) rs))) (.int ((u - 97:Nat):Int))=.ok (jx (jV (u - 97) rs)):=by
    refine jY (cM (j:=u - 97) ?_)
    rw[AZ,(pE M.rh M.qc),FC,AI h,m];rfl
   refine⟨_,_,rfl,.inl ?_,some (.d (.str ⟨#[u]⟩)),_,Vi q (wE M h),rfl⟩
   simp[m4 (lL M.qc (S.2 u (AD a))),o,(Qm q (wE M h) (by have:=M.l_;ext))])
 obtain⟨c,t,_,rfl⟩:=s.2
 refine⟨t,?_⟩
 unfold gY rD
 simp only[cX,AV,BF,A7,BC,AT,A9,replicate,aU,xG,gE,eM,fA,kR,AW,AK,R.cf]
 rw[AI (by decide),lK M S]
 simp only[R.cf,lG,lH,fU,yZ,fN,y3,y4,oO,gE,eM,fA,kR,AW,AT,A9,CG,f,mC,v,rJ (by rw[(pE M.rh M.qc),BQ];simp;ext),eH,AV,BF,GC,EV,Option.join_some,h1,A3,A4,eG,iO,fO,aU]
 simp[aL,Rz,PB (n:=rs.length) (by have:=M.l_;ext),p]
 rw[show PyData.tuple (List.map cU rs)=aL rs from rfl]
 rw[s.1]
 rfl
section
variable{rs:L9 Rw}{sg:Nat}{z g:L9 Nat}{i:Nat}
theorem xT(M:cg rs sg):∃ r c,b_ (aL rs) (.int 0)=.ok r/\b_ r (.int 1)=.ok c/\dn c=.ok (.int (sg:Int)):=by
 cases h:rs with
 | nil=>have:=M.len;simp_all
 | cons r t=>
  have hr:=(M.row r (by rw[h];exact .head _)).2
  refine⟨cU r,.tuple _,g7 (cM rfl),g7 (cM rfl),?_⟩
  simp_all
inductive ra(md Zq Yq aw:Dz)(r:R A):Nat->Prop
 | a0 (h:mB [.d md,.d Zq]=r):ra md Zq Yq aw r 0
 | a1 (h:jE [.d md,.d Zq]=r):ra md Zq Yq aw r 1
 | a2 {G:List Dz->R Dz} (h:m5 [.d md]=.ok (.g 7 1 G)) (h2:(G [Zq]).bind (λd=>.ok (.d d))=r):ra md Zq Yq aw r 2
 | a3 (h:eZ [.d md,.d Zq,.d (.tuple [.str "by",.tuple [.tuple [.int 0]]])]=r):ra md Zq Yq aw r 3
 | a4 (h:gY [.d md,.d Zq]=r):ra md Zq Yq aw r 4
 | a5 (h:gD [.d md,.d Zq]=r):ra md Zq Yq aw r 5
 | a6 (h:gR [.d aw,.d Zq]=r):ra md Zq Yq aw r 6
 | a7 (h:i9 [.d aw,.d Zq]=r):ra md Zq Yq aw r 7
 | a8 (h:b9 [.d md,.d Zq,.d Yq,.d Yq]=r):ra md Zq Yq aw r 8
 | a9 (h:b9 [.d md,.d Yq,.d Zq,.d Yq]=r):ra md Zq Yq aw r 9
 | aA (h:b9 [.d md,.d Yq,.d Yq,.d Zq]=r):ra md Zq Yq aw r 10
 | aB (h:dL [.d md,.d Zq]=r):ra md Zq Yq aw r 11
def zm(r:R A):Prop:=(∃ e,r=.ex e)\/(∃ d,r=.ok (.d d))\/∃ o,r=.ok (.o o)
def outF(q:R Fw):R A:=q.bind λw=>match w with
 | .rt (.l _)=>.bad
 | .rt a=>.ok a
 | .nx _=>.ok (.d .none)
 | _=>.bad
theorem LP{r:R A}(hr:zm r):outF (r.bind λa=>.ok (.rt a))=r:=by rcases hr with ⟨e,rfl⟩|⟨d,rfl⟩|⟨o,rfl⟩<;>rfl
theorem Pe{X rest:Sg->R Fw}{k j:Int}{y:Sg}{r:R A}(h:k≠j)(g:outF (rest (some (.d (.int k))::y))=r):outF (aG (fu (e1 dg (e2 ey (rV 0) (eC (.int j)))) X gb) rest (some (.d (.int k))::y))=r:=by
 simp[cY,h,g]
theorem Eh{t:Sg->R Bool}{V rest:Sg->R Fw}{y:Sg}{r:R A}(b:t y=.ok true)(h:V y=r.bind λa=>.ok (.rt a))(hr:zm r):outF (aG (fu t V gb) rest y)=r:=by
 have:=LP hr
 rcases hr with ⟨x,rfl⟩|⟨d,rfl⟩|⟨o,rfl⟩<;>simp[b,h]<;>exact this
theorem oj{V:Sg->R A}{rest:Sg->R Fw}{k j:Int}{y:Sg}{r:R A}(h:V (some (.d (.int k))::y)=r)(hr:zm r)(e:k=j):outF (aG (fu (e1 dg (e2 ey (rV 0) (eC (.int j)))) (aM V) gb) rest (some (.d (.int k))::y))=r:=
 Eh (by simp[cY,e]) (by rw[<-h];rfl) hr
theorem Hu{e g m r1:Dz}{r:R A}(hr:zm r)(m1:b_ e (.int 0)=.ok m)(m2:b_ m (.int 1)=.ok r1)(q:dn r1=.ok (.int (sg:Int)))(ca:dD [.d (.int (sg:Int))]=.ok (.d g))(h:ra e Zq Yq g r k) :
  cF [.d (.int (k:Int)),.d e,.d Zq,.d Yq]=r:=by
 have n:∀ (F:L9 A->R A) (k:Nat),aK 2 F (aC (aK 1 dD (aC (vD (e1 dn (e2 b_ (e2 b_ (rV 1) (eC (.int 0))) (eC (.int 1))))) aF)) (aC (vV 2) aF)) [some (.d (.int (k:Int))),some (.d e),some (.d Zq),some (.d Yq),none]=F [.d g,.d Zq]:=λF k=>by simp[m1,m2,q,ca]
 have i:∀ a b c:Dz,b_ (.list [a,b,c]) (.int 0)=.ok a:=λ_ _ _=>jY (cM (j:=0) rfl)
 have l:∀ a b c:Dz,b_ (.list [a,b,c]) (.int 1)=.ok b:=λ_ _ _=>jY (cM (j:=1) rfl)
 have f:∀ a b c:Dz,b_ (.list [a,b,c]) (.int 2)=.ok c:=λ_ _ _=>jY (cM (j:=2) rfl)
 have x0:ni 3 0=some 0:=by decide
 have o:ni 3 1=some 1:=by decide
 have p:ni 3 2=some 2:=by decide
 show outF (mL [some (.d (.int (k:Int))),some (.d e),some (.d Zq),some (.d Yq),none])=r
 unfold mL
 cases h<;>(repeat refine Pe (by decide) ?_)
 case a2 h h2=>
  refine oj (Eq.trans ?_ h2) hr rfl
  show R.bind (R.bind (m5 [.d e]) _) _=_
  rw[h];rfl
 case aB h=>simp[h];exact LP hr
 case a6 h=>exact oj ((n _ _).trans h) hr rfl
 case a7 h=>exact oj ((n _ _).trans h) hr rfl
 case a8 h=>exact Eh (by simp) (by simp[xO,i,l,f,x0,h]) hr
 case a9 h=>exact Eh (by simp) (by simp[xO,i,l,f,o,h]) hr
 case aA h=>exact Eh (by simp) (by simp[xO,i,l,f,p,h]) hr
 all_goals rename_i h;exact oj h hr rfl
end
section
variable{rs:L9 Rw}{sg:Nat}{z g:L9 Nat}{i:Nat}
theorem KJ(M:cg rs sg)(b:sg<=2)(c:z.length<=1000)(h:dW sg 0 z=some i)(S:aN sg g){k:Nat}(f:k < 12):cF [.d (.int (k:Int)),.d (aL rs),.d (cq z),.d (cq g)]=.ex (j0 i):=by
 have c0:=Q0 M c h
 obtain⟨G,e⟩:=Qo c0
 obtain⟨j,r1,a⟩:=xT M
 refine Hu (.inl ⟨_,rfl⟩) a.1 a.2.1 a.2.2 (G_ M.rh b) ?_
 rcases(by omega:k=0\/k=1\/k=2\/k=3\/k=4\/k=5\/k=6\/k=7\/k=8\/k=9\/k=10\/k=11)with rfl|rfl|rfl|rfl|rfl|rfl|rfl|rfl|rfl|rfl|rfl|rfl
 · exact .a0 (KP c0)
 · exact .a1 (Ii c0)
 · exact .a2 e.1 (by rw [e.2]; rfl)
 · exact .a3 (QZ c0 _)
 · exact .a4 (Qr c0)
 · exact .a5 (Qq c0)
 · exact .a6 (KL M.rh b c h)
 · exact .a7 (Qn M.rh b c h)
 · exact .a8 (Ij M (.inl c0))
 · exact .a9 (Ij M (.inr (.inl ⟨S, c0⟩)))
 · exact .aA (Ij M (.inr (.inr ⟨S, S, c0⟩)))
 · exact .aB (Qp c0)
theorem Ss(M:cg rs sg)(h2:rs.length<=2)(i:sg<=2)(S:aN sg g)(j:k < 11):∃ a,cF [.d (.int (k:Int)),.d (aL rs),.d (cq g),.d (cq g)]=.ok a:=by
 obtain⟨l,r1,e⟩:=xT M
 have c:∀ a,zm _->ra _ _ _ _ _ k->∃ a,cF [.d _,.d _,.d (cq g),.d (cq g)]=.ok a:=λa h1 h2=>⟨a,Hu h1 e.1 e.2.1 e.2.2 (G_ M.rh i) h2⟩
 have b:∀ d,ra _ _ _ _ (.ok (.d d)) k->∃ a,cF _=.ok a:=λd h=>c _ (.inr (.inl ⟨_,rfl⟩)) h
 rcases(by omega:k=0\/k=1\/k=2\/k=3\/k=4\/k=5\/k=6\/k=7\/k=8\/k=9\/k=10)with rfl|rfl|rfl|rfl|rfl|rfl|rfl|rfl|rfl|rfl|rfl
 .exact b _ (.a0 (LV M S))
 .obtain ⟨ps,s,f⟩:=Hy (z:=⟨g.toArray⟩) M S
  exact c _ (.inr (.inr ⟨_,rfl⟩)) (.a1 (vK M S f.1 f.2.1 f.2.2))
 .obtain ⟨G,d,h1⟩:=Sw M S
  exact b d (.a2 h1.1 (by rw[h1.2];rfl))
 .obtain ⟨d,h⟩:=Sv M S
  exact b d (.a3 h)
 .obtain ⟨t,h⟩:=Ql M (z:=⟨g.toArray⟩) S
  exact b _ (.a4 h)
 .exact b _ (.a5 (Pt M S))
 .obtain ⟨r,h⟩:=LR M.rh i S
  exact b _ (.a6 h.2)
 .obtain ⟨d,h⟩:=Su M.rh i S
  exact b d (.a7 h)
 .obtain ⟨d,h⟩:=IF M h2 S
  exact b d (.a8 h)
 .obtain ⟨d,h⟩:=IF M h2 S
  exact b d (.a9 h)
 .obtain ⟨d,h⟩:=IF M h2 S
  exact b d (.aA h)
theorem Sr(M:cg rs sg)(e:sg<=2){Yq:Dz}:∃ a,cF [.d (.int 11),.d (aL rs),.d (.str "a"),.d Yq]=.ok a:=by
 obtain⟨f,r1,b⟩:=xT M
 exact⟨_,Hu (.inr (.inl ⟨_,rfl⟩)) b.1 b.2.1 b.2.2 (G_ M.rh e) (.aB (Kh M (c:=97) (A2 ⟨AG _,by have:=M.rh;ext⟩)))⟩
end
theorem LO(i:Nat)(cs:L9 Str)(g:Str)(Y:Sg):ye i cs g Y=match Y[i]? with
 | some (some (.x e))=>if cs.contains e.c=true then(match e.fs.lookup g with|some d=>.ok d|none=>.bad)else .bad
 | _=>.bad:=id rfl
theorem LN{k a:Dz}(h:cF [.d k,.d a,.d Zq,.d Yq]=.ex (j0 i)):bY [.d k,.d a,.d Zq,.d Yq]=.ok (.d (.tuple [.int (i:Int),.bool true])):=by
 have e:(j0 i).c="NoStrip":=rfl
 have b:(j0 i).fs.lookup ("at":Str)=some _:=rfl
 unfold bY kA
 simp[xB,h,e,mJ,b,LO,JI]
theorem MQ{k b:Dz}{a:A}(h:cF [.d k,.d b,.d Zq,.d Yq]=.ok a):bY [.d k,.d b,.d Zq,.d Yq]=.ok (.d (.tuple [.none,.bool true])):=by
 unfold bY kA
 simp[xB,h,tx]
end _e
namespace _f
theorem So(cn:Str)(fs:L9 Str)(f:Sg->R (L9 Dz))(Y:Sg):xK cn fs f Y=(f Y).bind λxs=>if xs.length=fs.length then .ok (.x ⟨cn,fs.zip xs⟩)else .bad:=id rfl
theorem Vh(fs:L9 Str)(f:Sg->R (L9 Dz))(g:Str)(Y:Sg):vA fs f g Y=(f Y).bind λxs=>if xs.length=fs.length then(match (fs.zip xs).lookup g with
 | some d=>.ok d
 | none=>.bad)else .bad:=id rfl
end _f
namespace _e
open _f
theorem Qk(fs:L9 (Str×Dz))(a b:O9 A):Gd [a,b,some (.x ⟨"NoMachine",fs⟩),none]=.ok (.rt (.d (.bool true))):=by
 kernel_rfl
theorem Qj(n:Int):iV [.d (.int n)]=.ok (.d (.bool true)):=by
 obtain⟨p,q,h1,h2,g,b⟩:∃ p q:Str,b_ (.list [.str "rooms",.str "cells",.str "left",.str "cell",.str "right"]) (.int (n % 5))=.ok (.str p)/\bN (.str p) (.str " a")=.ok (.str q)/\shaped (.str p)=true/\shaped (.str q)=true:=by
  rcases(by omega:n % 5=0\/n % 5=1\/n % 5=2\/n % 5=3\/n % 5=4)with e|e|e|e|e<;>rw[e]
  · exact⟨"rooms", "rooms a", by kernel_rfl, by kernel_rfl, by kernel_rfl, by kernel_rfl⟩
  · exact⟨"cells", "cells a", by kernel_rfl, by kernel_rfl, by kernel_rfl, by kernel_rfl⟩
  · exact⟨"left", "left a", by kernel_rfl, by kernel_rfl, by kernel_rfl, by kernel_rfl⟩
  · exact⟨"cell", "cell a", by kernel_rfl, by kernel_rfl, by kernel_rfl, by kernel_rfl⟩
  · exact⟨"right", "right a", by kernel_rfl, by kernel_rfl, by kernel_rfl, by kernel_rfl⟩
 unfold iV
 rw[oX]
 have a:(["NoMachine"]:L9 Str).contains ("NoMachine")=true:=rfl
 have f:∀ x y:Dz,(([("part",x),("room",y)]:L9 (Str×Dz))).lookup ("room":Str)=some y:=λ_ _=>rfl
 have c:∀ k (x:Dz),(([(k,x)]:L9 (Str×Dz))).lookup k=some x:=λk x=>by simp
 simp[(bS (i:=n) (j:=5) (by simp)),(bS (i:=n) (j:=61) (by simp)),(bS (i:=n) (j:=400) (by simp)),h1,So,Vh,LO,h2,(zD g),(zD b),(λx=>zD (mR x)),a,(λ_ _=>rfl),f,c,Qk]
theorem YV(z:L9 Nat):(⟨z.toArray⟩:Str).length=z.length:=by rfl
theorem vL{x y:L9 Nat}(h:x.length+y.length<=16777216):bN (cq x) (cq y)=.ok (cq (x++y)):=by
 unfold cq
 rw[K4 (by assumption)]
 congr 2
 show(⟨x.toArray++y.toArray⟩:Str)=_
 rw[List.append_toArray]
theorem MP{z:L9 Nat}{i:Nat}(h:z.length<=16777216)(hi:i<=z.length):ia (cq z) none (some (i:Int))=.ok (cq (z.take i)):=by
 unfold cq
 rw[Ki (by assumption),XY hi]
theorem MO{z:L9 Nat}{i:Nat}(h:z.length<=16777216)(hi:i<=z.length):ia (cq z) (some (i:Int)) none=.ok (cq (z.drop i)):=by
 unfold cq
 rw[Ki (by assumption),XX hi]
theorem J4(x:Str):PyData.str x=cq x.cps.toList:=by rfl
theorem Qi(b:0 < z.length)(c:z.length<=1000)(v:Int):∃ u,cy (.int v) (.int (z.length:Int))=.ok (.int (v % (z.length:Int)))/\b_ (cq z) (.int (v % (z.length:Int)))=.ok (cq [u])/\u∈z:=by
 have h1:=CP v (show(z.length:Int)≠0 by ext)
 have h2:=CD v (show 0 < (z.length:Int)by ext)
 have a:(v % z.length).toNat < z.length:=by ext
 exact⟨z[(v % z.length).toNat],bS (by ext),El (by rw[YV];ext) (jL h1 (AJ a)),DW a⟩
theorem zK(s1:1<=sg)(j:sg<=2)(x:Int):∃ u,bK sg u=false/\dE [.d (.int (sg:Int)),.d (.int x)]=.ok (.d (cq [u])):=by
 obtain⟨a,b,c,d,h1,h2,l,k,g,h,f⟩:∃ a b c d:Str,ia (.str "abc") (some sg) none=.ok (.str a)/\bN (.str a) (.str "d")=.ok (.str b)/\bN (.str b) (.str "AEBC -")=.ok (.str c)/\bN (.str c) (.str " !\"#$&'()*+,./0123456789:;<=>?@XYZ[]^_`{|}~z")=.ok (.str d)/\0 < d.cps.toList.length/\d.cps.toList.length<=1000/\∀ u∈d.cps.toList,bK sg u=false:=by
  match sg,s1,j with
  | 1,_,_=>exact⟨"bc","bcd","bcdAEBC -","bcdAEBC - !\"#$&'()*+,./0123456789:;<=>?@XYZ[]^_`{|}~z",by kernel_rfl,by kernel_rfl,by kernel_rfl,by kernel_rfl,by decide +kernel,by decide +kernel,by decide +kernel⟩
  | 2,_,_=>exact⟨"c","cd","cdAEBC -","cdAEBC - !\"#$&'()*+,./0123456789:;<=>?@XYZ[]^_`{|}~z",by kernel_rfl,by kernel_rfl,by kernel_rfl,by kernel_rfl,by decide +kernel,by decide +kernel,by decide +kernel⟩
 obtain⟨u,d1,d2,i⟩:=Qi g h x
 have e:=IH (z:=d.cps.toList) (by ext)
 rw[<-J4]at e d2
 refine⟨u,f u i,?_⟩
 unfold dE mD
 simp_all
theorem iJ{f g:Sg->R Fw}{Y a:Sg}(h:f Y=.ok (.nx a)):aG f g Y=g a:=by simp_all
section
variable{ns:L9 Int}{rs:L9 Rw}{sg r l u:Nat}{g t:L9 Nat}
theorem Qh(M:cg rs sg)(h2:rs.length<=2)(f:sg<=2)(S:aN sg g)(i:z.length<=1000)(hb:dW sg 0 z=some r):∃ x7 x8 x9,Gh [some (.d (bO ns)),some (.d (.int (sg:Int))),some (.d (aL rs)),some (.d (cq g)),some (.d (.int (r:Int))),some (.d (cq z)),some (.d (.int (l:Int))),none,none,none,none]=.ok (.nx [some (.d (bO ns)),some (.d (.int (sg:Int))),some (.d (aL rs)),some (.d (cq g)),some (.d (.int (r:Int))),some (.d (cq z)),some (.d (.int (l:Int))),x7,x8,x9,none]):=by
 obtain⟨n,q,x7,x8,x9,e⟩:=jA (fs:=stN 7) (fb:=Cm) (d:=λk:Nat=>.int k) (xs:=range 11)
  (λ_ Y=>∃ x7 x8 x9,Y=[some (.d (bO ns)),some (.d (.int sg)),some (.d (aL rs)),some (.d (cq g)),some (.d (.int r)),some (.d (cq z)),some (.d (.int l)),x7,x8,x9,none]) ⟨none,none,none,rfl⟩ λj k Y c b=>by
  obtain⟨x7,x8,x9,e⟩:=b
  subst e
  have c:=B9.mp (AD c)
  obtain⟨a,m⟩:=Ss M h2 f S c
  have h:ou (.tuple [.none,.bool true]) (.tuple [.none,.bool true])=.ok (.bool false):=by kernel_rfl
  refine⟨_,[some _,some _,some _,some _,some _,some _,some _,some (.d (.int k)),some (.d (.int r)),some (.d (.bool true)),none],rfl,.inl ?_,_,_,_,rfl⟩
  simp[Cm,(LN (KJ M f i hb S (k:=k) (by ext))),(MQ m),(Uc r),(zD (mR _)),h,_f.stN]
 subst e
 refine⟨x7,x8,x9,?_⟩
 assumption
end
theorem LM(v:Int):∃ n:Nat,1+v % 2=(n:Int)/\1<=n/\n<=2:=⟨(1+v % 2).toNat,by ext,by ext,by ext⟩
theorem IE(v:Int)(h:0 < n):∃ m:Nat,v % (n:Int)=(m:Int)/\m < n:=by
 have a:=CP v (show(n:Int)≠0 by ext)
 have b:=CD v (show(0:Int) < n by ext)
 exact⟨(v % n).toNat,by ext,by ext⟩
theorem Vg:∀ ns:L9 Int,ns.length<=63->J6 [.d (.list (ns.map .int))]=.ok (.d (.bool true)):=by
 intro ns aa
 rw[show PyData.list (ns.map .int)=bO ns from rfl]
 obtain⟨J,h0⟩:=jB ns 0
 obtain⟨O,h1⟩:=jB ns 1
 obtain⟨G,h2⟩:=jB ns 2
 obtain⟨K,h3⟩:=jB ns 3
 obtain⟨v4,R⟩:=jB ns 4
 obtain⟨v6,h6⟩:=jB ns 6
 obtain⟨T,h7⟩:=jB ns 7
 obtain⟨q,V⟩:=jB ns 8
 obtain⟨sg,es,s1,p⟩:=LM J
 obtain⟨n,en,n1,n2⟩:=LM O
 obtain⟨m,em,m2⟩:∃ m:Nat,G % 60=(m:Int)/\m < 60:=IE G (n:=60) (by decide)
 obtain⟨rs,hr,M,af⟩:=QV (ns:=ns) (at':=5) (n:=n) (sg:=sg) (by decide) n1 (A6 n2 (by decide)) s1 (FQ p)
 obtain⟨gz,Y,S,Z⟩:=Ud (ns:=ns) (at':=9) (m:=m) (sg:=sg) (by decide) (A6 (B6 m2) (by decide)) s1 (FQ p)
 rw[J4]at Y
 generalize gz.cps.toList=g at *
 obtain⟨r,er,b⟩:∃ r:Nat,K % ((g.length:Int)+1)=(r:Int)/\r < g.length+1:=IE K (n:=g.length+1) (Nat.succ_pos _)
 have b:=Nat.le_of_lt_succ b
 obtain⟨u,X,Q⟩:=zK s1 p v4
 obtain⟨s,ac,L⟩:=zK s1 p (q / 2)
 have ln:=IH (z:=g) (by ext)
 have lt:(g.take r).length=r:=by rw[BQ];ext
 have F:(g.take r++[u]++g.drop r).length=g.length+1:=by rw[AY,AY,BQ,CF];simp;ext
 obtain⟨w,W,hw⟩:=IE T (n:=g.length+1 - r) (Nat.sub_pos_of_lt (Nat.lt_succ_of_le b))
 rw[show((g.length+1 - r:Nat):Int)=(g.length:Int)+1 - (r:Int)from Int.ofNat_sub (FQ b)]at W
 obtain⟨l,el,ad,ae⟩:∃ l:Nat,(r:Int)+1+(w:Int)=(l:Int)/\r+1<=l/\l<=g.length+1:=⟨r+1+w,rfl,Nat.le_add_right ..,by ext⟩
 have t1:=MP (z:=g) (i:=r) (by ext) b
 have t2:=MO (z:=g) (i:=r) (by ext) b
 have t:=vL (x:=g.take r) (y:=[u]) (by rw[lt];simp;ext)
 have N:=vL (x:=g.take r++[u]) (y:=g.drop r) (by rw[AY,lt,CF];simp;ext)
 have o:=IH (z:=g.take r++[u]++g.drop r) (by ext)
 rw[F]at o
 have k0:cy (.int J) (.int 2)=.ok (.int (J % 2)):=bS (by decide)
 have k1:cy (.int O) (.int 2)=.ok (.int (O % 2)):=bS (by decide)
 have k2:cy (.int G) (.int 60)=.ok (.int (m:Int)):=by rw[bS (by decide),em]
 have k3:cy (.int K) (.int ((g.length:Int)+1))=.ok (.int (r:Int)):=by rw[bS (by ext),er]
 have k7:cy (.int T) (.int ((g.length:Int)+1 - (r:Int)))=.ok (.int (w:Int)):=by rw[bS (by ext),W]
 have H:cy (.int q) (.int 2)=.ok (.int (q % 2)):=bS (by decide)
 have d8:eT (.int q) (.int 2)=.ok (.int (q / 2)):=iA (by decide) (by decide)
 obtain⟨z,hz,hb,q6⟩:∃ z:L9 Nat,z.length<=1000/\dW sg 0 z=some r/\zt [some (.d (bO ns)),some (.d (.int (sg:Int))),some (.d (aL rs)),some (.d (cq g)),some (.d (.int (r:Int))),some (.d (cq (g.take r++[u]++g.drop r))),some (.d (.int (l:Int))),none,none,none,none]=.ok (.nx [some (.d (bO ns)),some (.d (.int (sg:Int))),some (.d (aL rs)),some (.d (cq g)),some (.d (.int (r:Int))),some (.d (cq z)),some (.d (.int (l:Int))),none,none,none,none]):=by
  have tk:∀ c∈g.take r,bK sg c=true:=λc hc=>S.2 c (EC hc)
  have P:∀ y,dW sg 0 (g.take r++u::y)=some r:=λy=>by rw[L7 tk X,lt,G0]
  have E:=cY (q % 2) 1
  by_cases h:q % 2=1
  .have hx:g.take r++[u]++g.drop r=g.take r++u::g.drop r:=by simp
   have b1:=MP (z:=g.take r++[u]++g.drop r) (i:=l) (by ext) (by ext)
   have b2:=MO (z:=g.take r++[u]++g.drop r) (i:=l) (by ext) (by ext)
   have b3:=vL (x:=(g.take r++[u]++g.drop r).take l) (y:=[s]) (by rw[BQ,F];simp;ext)
   have b4:=vL (x:=(g.take r++[u]++g.drop r).take l++[s]) (y:=(g.take r++[u]++g.drop r).drop l) (by rw[AY,BQ,CF,F];simp;ext)
   refine⟨(g.take r++[u]++g.drop r).take l++[s]++(g.take r++[u]++g.drop r).drop l,?_,?_,?_⟩
   .rw[AY,AY,BQ,CF,F];simp;ext
   .obtain ⟨j,rfl⟩:∃ j,l=r+1+j:=⟨l - (r+1),by ext⟩
    have ht:(g.take r++[u]++g.drop r).take (r+1+j)=g.take r++u::(g.drop r).take j:=by
     rw[hx,List.take_append,lt,CM (by ext),show r+1+j - r=j+1 by ext,List.take_succ_cons]
    rw[ht,C9,C9,A7]
    exact P _
   .unfold zt
    rw[h]at E H
    generalize cq ((g.take r++[u]++g.drop r).take l++[s]++(g.take r++[u]++g.drop r).drop l)=Ou at *
    generalize cq ((g.take r++[u]++g.drop r).take l++[s])=YX at *
    generalize cq ((g.take r++[u]++g.drop r).take l)=YY at *
    generalize cq ((g.take r++[u]++g.drop r).drop l)=YW at *
    generalize cq (g.take r++[u]++g.drop r)=YZ at *
    generalize cq [s]=U at *
    generalize cq g=Yq at *
    generalize aL rs=f at *
    generalize bO ns=e at *
    simp[V,H,d8,E,b1,b2,b3,b4,L]
  .refine ⟨g.take r++[u]++g.drop r,by ext,?_,?_⟩
   .rw[C9];exact P _
   .unfold zt
    rw[BB h]at E
    generalize cq (g.take r++[u]++g.drop r)=YZ at *
    generalize cq g=Yq at *
    generalize aL rs=f at *
    generalize bO ns=e at *
    simp[V,H,E]
 obtain⟨v,D,C,q7⟩:=Qh (ns:=ns) (l:=l) M (by ext) p S hz hb
 have q0:Cy [some (.d (bO ns)),none,none,none,none,none,none,none,none,none,none]=.ok (.nx [some (.d (bO ns)),some (.d (.int (sg:Int))),none,none,none,none,none,none,none,none,none]):=by
  unfold Cy
  generalize bO ns=e at *
  simp[h0,k0,es]
 have q1:Cw [some (.d (bO ns)),some (.d (.int (sg:Int))),none,none,none,none,none,none,none,none,none]=.ok (.nx [some (.d (bO ns)),some (.d (.int (sg:Int))),some (.d (aL rs)),none,none,none,none,none,none,none,none]):=by
  unfold Cw
  generalize bO ns=e at *
  generalize aL rs=f at *
  simp[h1,k1,en,hr]
 have q2:Cu [some (.d (bO ns)),some (.d (.int (sg:Int))),some (.d (aL rs)),none,none,none,none,none,none,none,none]=.ok (.nx [some (.d (bO ns)),some (.d (.int (sg:Int))),some (.d (aL rs)),some (.d (cq g)),none,none,none,none,none,none,none]):=by
  unfold Cu
  generalize bO ns=e at *
  generalize aL rs=f at *
  generalize cq g=Yq at *
  simp[h2,k2,Y]
 have q3:Cs [some (.d (bO ns)),some (.d (.int (sg:Int))),some (.d (aL rs)),some (.d (cq g)),none,none,none,none,none,none,none]=.ok (.nx [some (.d (bO ns)),some (.d (.int (sg:Int))),some (.d (aL rs)),some (.d (cq g)),some (.d (.int (r:Int))),none,none,none,none,none,none]):=by
  unfold Cs
  generalize bO ns=e at *
  generalize aL rs=f at *
  generalize cq g=Yq at *
  simp[h3,ln,k3]
 have q4:Cr [some (.d (bO ns)),some (.d (.int (sg:Int))),some (.d (aL rs)),some (.d (cq g)),some (.d (.int (r:Int))),none,none,none,none,none,none]=.ok (.nx [some (.d (bO ns)),some (.d (.int (sg:Int))),some (.d (aL rs)),some (.d (cq g)),some (.d (.int (r:Int))),some (.d (cq (g.take r++[u]++g.drop r))),none,none,none,none,none]):=by
  unfold Cr
  generalize cq (g.take r++[u]++g.drop r)=Ou at *
  generalize cq (g.take r++[u])=YX at *
  generalize cq (g.take r)=YY at *
  generalize cq (g.drop r)=YW at *
  generalize cq [u]=U at *
  generalize bO ns=e at *
  generalize aL rs=f at *
  generalize cq g=Yq at *
  simp[R,t1,t2,t,N,Q]
 have q5:Cq [some (.d (bO ns)),some (.d (.int (sg:Int))),some (.d (aL rs)),some (.d (cq g)),some (.d (.int (r:Int))),some (.d (cq (g.take r++[u]++g.drop r))),none,none,none,none,none]=.ok (.nx [some (.d (bO ns)),some (.d (.int (sg:Int))),some (.d (aL rs)),some (.d (cq g)),some (.d (.int (r:Int))),some (.d (cq (g.take r++[u]++g.drop r))),some (.d (.int (l:Int))),none,none,none,none]):=by
  unfold Cq
  generalize cq (g.take r++[u]++g.drop r)=Ou at *
  generalize bO ns=e at *
  generalize aL rs=f at *
  generalize cq g=Yq at *
  rw[show((g.length+1:Nat):Int)=(g.length:Int)+1 from rfl]at o
  simp[h7,o,k7,el]
 have q8:Co [some (.d (bO ns)),some (.d (.int (sg:Int))),some (.d (aL rs)),some (.d (cq g)),some (.d (.int (r:Int))),some (.d (cq z)),some (.d (.int (l:Int))),v,D,C,none]=.ok (.nx [some (.d (bO ns)),some (.d (.int (sg:Int))),some (.d (aL rs)),some (.d (cq g)),some (.d (.int (r:Int))),some (.d (cq z)),some (.d (.int (l:Int))),v,D,C,none]):=by
  have pw:rq (.int 10) (.int 30)=.ok (.int 1000000000000000000000000000000):=by kernel_rfl
  have B:∀ x:Int,cy (.int x) (.int 1000000000000000000000000000000)=.ok (.int (x % 1000000000000000000000000000000)):=λx=>bS (by decide)
  have ab:∀ x:Int,d1 Ax (.int x)=.ok (.int (Ax x)):=λ_=>rfl
  have fm:=Qj (Ax v6 % 1000000000000000000000000000000)
  unfold Co
  generalize cq z=Zq at *
  generalize bO ns=e at *
  generalize aL rs=f at *
  generalize cq g=Yq at *
  simp[h6,pw,B,ab,fm]
 have q9:Cn [some (.d (bO ns)),some (.d (.int (sg:Int))),some (.d (aL rs)),some (.d (cq g)),some (.d (.int (r:Int))),some (.d (cq z)),some (.d (.int (l:Int))),v,D,C,none]=.ok (.nx [some (.d (bO ns)),some (.d (.int (sg:Int))),some (.d (aL rs)),some (.d (cq g)),some (.d (.int (r:Int))),some (.d (cq z)),some (.d (.int (l:Int))),v,D,C,some (.d (cq [u]))]):=by
  unfold Cn
  generalize cq [u]=U at *
  generalize cq z=Zq at *
  generalize bO ns=e at *
  generalize aL rs=f at *
  generalize cq g=Yq at *
  simp[R,Q]
 have I:Dl [some (.d (bO ns)),some (.d (.int (sg:Int))),some (.d (aL rs)),some (.d (cq g)),some (.d (.int (r:Int))),some (.d (cq z)),some (.d (.int (l:Int))),v,D,C,some (.d (cq [u]))]=.ok (.rt (.d (.bool true))):=by
  have t:=LN (KJ (z:=[u]) (i:=0) (k:=11) M p (by simp) (by unfold dW;rw[X];rfl) S (by decide))
  obtain⟨a,ha⟩:=Sr (Yq:=cq g) M p
  have N:=MQ ha
  have e1:ey (.tuple [.int 0,.bool true]) (.tuple [.int 0,.bool true])=.ok (.bool true):=by kernel_rfl
  have e2:ey (.tuple [.none,.bool true]) (.tuple [.none,.bool true])=.ok (.bool true):=by kernel_rfl
  have t:bY [.d (.int 11),.d (aL rs),.d (cq [u]),.d (cq g)]=.ok (.d (.tuple [.int 0,.bool true])):=t
  unfold Dl
  generalize cq [u]=U at *
  generalize cq z=Zq at *
  generalize bO ns=e at *
  generalize aL rs=f at *
  generalize cq g=Yq at *
  simp[t,N,e1,e2]
 unfold J6
 rw[Dm,cX,show [A.d (bO ns)].map some++replicate (11 - [A.d (bO ns)].length) none=[some (.d (bO ns)),none,none,none,none,none,none,none,none,none,none]from rfl,iJ q0,iJ q1,iJ q2,iJ q3,iJ q4,iJ q5,iJ q6,iJ q7,iJ q8,iJ q9,I]
 rfl
section
variable{P:P9}{w:W9}{K:Frag}{mg:Str->O9 V9}{base:Hz}
def uC(cn qn:Str)(fs:L9 Str)(st:Stmt)(K:Frag)(mg:Str->O9 V9):Prop:=∃ W C,_d.dy K W C/\mg cn=some (.ref C)/\(∀ f∈fs,findIn K (.ref C) f=some none) /\
 ∃ fI oq,jt K "__init__" qn st fI oq/\cG K oq ("self"::fs) []/\findIn K (.ref C) "__init__"=some (some (.ref fI))/\typeIn K (.ref fI)=some (.type "function")
theorem vM{c:Str}(h:uC cn c [x] st K mg)(S:cb ["self",x] ["self",x] (aD st))
  (hb:∀ f c_ A outer s H E,ix (cR mw P w K mg base ["self",x] c (aD st) f c_ A outer s H E).oD (aT st) (E_ K (bU 0) (bU 1) x)):∃ W C,ju P w K mg base cn [x] W C:=by
 obtain⟨W,C,g,m,n,fI,oq,a⟩:=h
 refine⟨W,C,g,m,n,fI,oq,a.1.ok S (λvs H Q E h=>?_) (λc_ A outer s H vs Q E hr h=>⟨_,hb _ _ _ _ _ _ _,?_⟩),a.2.2.1,a.2.2.2,a.2.1⟩<;>obtain⟨e,xs,rfl,j,i,q⟩:=h<;>(obtain _|⟨x,_|⟨y,l⟩⟩:=xs<;>cases j)
 .rfl
 .exact ⟨_,rfl,_,rfl,e,W,C,rfl,g,n _ (.head _),.inl ⟨i,λd k b=>q d k b⟩⟩
theorem Sn{i y:Str}(h:uC cn i [x,y] st K mg)(S:cb ["self",x,y] ["self",x,y] (aD st))(g:x≠y)
  (hb:∀ f c_ A outer s H E,∃ s1 s2,aT st=[s1,s2]/\PS (cR mw P w K mg base ["self",x,y] i (aD st) f c_ A outer s H E).oD s1 (E_ K (bU 0) (bU 1) x)/\PS (cR mw P w K mg base ["self",x,y] i (aD st) f c_ A outer s H E).oD s2 (E_ K (bU 0) (bU 2) y)):∃ W C,ju P w K mg base cn [x,y] W C:=by
 obtain⟨W,C,k,m,n,fI,oq,c⟩:=h
 refine⟨W,C,k,m,n,fI,oq,c.1.ok S (λvs H Q E h=>?_) (λc_ A outer s H vs Q E hr h=>?_),c.2.2.1,c.2.2.2,c.2.1⟩
 .obtain ⟨e,xs,rfl,a⟩:=h
  rw[AT,a.1];rfl
 .obtain ⟨e,xs,rfl,a⟩:=h
  obtain⟨s1,s2,j⟩:=hb fI c_ A outer s H E
  rw[j.1]
  obtain _|⟨u,_|⟨v,_|⟨_,_⟩⟩⟩:=xs<;>cases a.1
  refine⟨_,_a.aJ j.2.1 (_a.bC j.2.2),_,rfl,_,rfl,e,W,C,rfl,k,n _ (.head _),.inl ⟨a.2.1,λd l b=>⟨_,rfl,_,rfl,e,W,C,rfl,k,n _ (.tail _ (.head _)),.inr ⟨d,_,by rw[aE (BD b),aI],aI,by simp,?_⟩⟩⟩⟩
  rw[_a.kB,show f9 y v _=[(x,u),(y,v)]by unfold f9;rw[AM g];rfl]
  exact a.2.2 d l b
theorem Pd{h:Hz}{e:Str}{fs:L9 Str}(X:K.In h)(G:h.Ns mainGlobals mg){s:Az}{j d:L9 V9}{l:Str}{g:Bool}{k:L9 Str}{c:O9 Bool}{n:O9 Az}{c0 t w q u:O9 V9}
   {o:O9 Az} {i:Array (O9 V9)} {kV a:V9}
  (m:nsIn K mainGlobals cn=some (some (.ref C)))
  (e1:K.lookup C=some (excClassObj l r C s j (.ref W::_d.kM) true k d g c n c0 t w q u "ValueError.__new__"))
  (e2:findIn K (.ref C) "__setattr__"=some (some (.builtin "object.__setattr__"))) (e3:findIn K (.ref C) "__getattribute__"=some (some (.builtin "BaseException.__getattribute__"))) (e4:findIn K (.ref C) "__getattr__"=some none) (e5:findIn K (.ref C) "__class__"=some (some (.builtin "object.__class__")))
  (e6:specialIn K (.builtin "object.__class__") "__get__"=some (some (.builtin "getset_descriptor.__get__"))) (e7:takesIn K (.builtin "object.__class__")=some true) (e8:keepIn K (.ref C)=true)
  (p:∀ f∈fs,findIn K (.ref C) f=some none)
  (i1:findIn K (.ref C) "__init__"=some (some (.ref fI))) (i2:K.lookup fI=some ⟨v,od,.func (fnOf "__init__" e (bT st) (aT st) (aD st) .none kV doc pm o a ct),i⟩) (i3:codeIn K a e=true) (i4:keepIn K (.ref fI)=true) (i5:typeIn K (.ref fI)=some (.type "function"))
  (b:∀ (kV doc pm:V9) (o:O9 Az) (a ct:V9) (us:L9 V9),us.length=(("self":Str)::fs).length->bindArgs (fnOf "__init__" e (bT st) (aT st) (aD st) .none kV doc pm o a ct) ⟨us,[]⟩=pure ((("self":Str)::fs).zip us)):uC cn e fs st K mg:=
 ⟨W,C,MG e1 e2 e3 e4 e5 e6 e7 e8,BP X G m,p,fI,_,jT i2 i3 i4,(jT i2 i3 i4).binds b,i1,i5⟩
end
end _e
variable{g:V9}
namespace _a
theorem Vf(a:nsIn K cStatics "thirdparty.any"=some none)(b:typeIn K (.ref C)=some (.type "type"))(c:findIn K (.type "type") "__getattribute__"=some (some (.builtin "type.__getattribute__")))(d:subIn K (.type "type") (.type "type")=some true):readsIn K C (.type "type")=true:=by
 unfold readsIn
 rw[a,b,c]
 rfl
theorem Pc(a:findIn K (.type "type") "__init__"=some (some (.builtin "type.__init__")))(b:specialIn K (.builtin "type.__init__") "__get__"=some (some g))(c:takesIn K (.builtin "type.__init__")=some false)
  (d:findIn K (.ref C) "__init__"=some (some (.ref f))) (e:typeIn K (.ref f)=some (.type "function")):findCls K (.ref C) (.type "type") "__init__"=some (.val (.ref f)):=by
 unfold findCls
 simp only[EV,d]
 rw[e]
 rfl
end _a
variable{m q:V9}{xs:L9 Str}
namespace _e
open _f
variable{c0:O9 V9}
section
variable{P:P9}{w:W9}{K:Frag}{mg:Str->O9 V9}{base:Hz}
inductive k_(X:Cx):Nat->List Stmt->List Str->Prop
 | one {i:Nat} {s:Stmt} {x:Str} (h:PS X s (Hk X.K (bU 0) (bU i) x)):k_ X i [s] [x]
 | cons {i:Nat} {s:Stmt} {x:Str} {ss:List Stmt} {xs:List Str} (h:PS X s (Hk X.K (bU 0) (bU i) x)) (t:k_ X (i+1) ss xs):k_ X i (s::ss) (x::xs)
theorem xU{f:Str}{v:V}:∀ {fs:L9 (Str×V)},(∀ p∈fs,p.1≠f)->f9 f v fs=fs++[(f,v)]
 | [],_=>rfl
 | (g,x)::r,h=>by
  unfold f9
  rw[AM (h _ (.head _)),xU λp a=>h p (.tail _ a)];rfl
theorem LL{X:Cx}{d:L9 Stmt}(h:k_ X i d xs):∃ T,ix X d T/\∀ {D:_a.iL} {Z:_a.St} {H:Hp} {a C dx:Az} {fs:L9 (Str×V)} {us:L9 V},Z[0]? = some (some (.ref a))->(∀ j u,us[j]? = some u->Z[i+j]? = some (some u))->us.length=xs.length->H a=some (.ins C dx fs)->ky X.K C->(∀ f∈xs,cQ X.K C f)->(∀ p∈fs,p.1∉xs)->xs.Nodup->fs.length+xs.length<=1000->D.nx Z (upd H a (.ins C dx (fs++xs.zip us)))->T D Z H:=by
 induction h with
 | one h=>
  refine⟨_,_a.bC h,λ{D Z H a C dx fs us} h0 hu hl hH cl na hd _ hn q=>?_⟩
  obtain _|⟨u,_|_⟩:=us<;>cases hl
  refine⟨u,hu 0 u rfl,.ref a,h0,a,C,dx,fs,rfl,hH,cl,na _ (.head _),by simp at hn;ext,?_⟩
  rw[xU λp b e=>hd p b (e▸.head _)]
  exact q
 | cons h t ih=>
  obtain⟨T,l,g⟩:=ih
  refine⟨_,_a.aJ h l,λ{D Z H a C dx fs us} h0 hu hl hH cl na hd nd hn q=>?_⟩
  obtain _|⟨u,us⟩:=us
  .cases hl
  have nd:=BY.mp nd
  refine⟨u,hu 0 u rfl,.ref a,h0,a,C,dx,fs,rfl,hH,cl,na _ (.head _),by simp at hn;ext,?_⟩
  rw[xU λp b e=>hd p b (e▸.head _)]
  refine g h0 (λj v k=>?_) (Nat.succ.inj hl) aI cl (λf m=>na f (.tail _ m)) (λp b c=>?_) nd.2 (by simp at hn ⊢;ext) (by rw[_a.kB,C9];exact q)
  .rw[Nat.add_assoc,G1 1];exact hu (j+1) v k
  .rcases BN.mp b with b|b
   · exact hd p b (.tail _ c)
   · rw [AS.mp b]at c; exact nd.1 c
theorem Sm{b:Str}{fs:L9 Str}{fd:FuncData}(F:jt K "__init__" b st f fd)(S:cb ("self"::fs) ("self"::fs) (aD st))(g:fs.length<=1000)
  (hb:∀ c_ A outer s H E,k_ (cR mw P w K mg base ("self"::fs) b (aD st) f c_ A outer s H E).oD 1 (aT st) fs):c5 P w K mg base mw 1 f fd ("self"::fs) (_a.zf K fs):=by
 refine F.ok S (λvs H Q E h=>?_) (λc_ A outer s H vs Q E hr h=>?_)
 .obtain ⟨x,C,dx,us,rfl,a,_⟩:=h
  rw[AT,a];rfl
 .obtain ⟨x,C,dx,us,rfl,a,k,cl,l,q⟩:=h
  obtain⟨T,i,e⟩:=LL (hb c_ A outer s H E)
  refine⟨T,i,e rfl (λj u c=>?_) a k cl l (λp d=>(BS d).elim) (BY.mp S.nd).2 (by simpa using g) q⟩
  have m:=(AH.mp c).1
  unfold _a.start
  rw[G1,A8 (by simp;ext),AZ,AK,c];rfl
theorem Qg{e p:Str}{CE:Az}{fd:FuncData}(F:jt K "__init__" e st f fd)(S:cb ("self"::p::r::xs) ("self"::p::r::xs) (aD st))(v:xs.length<=900)(cl:ky K C)(g:∀ f∈p::r::xs,cQ K C f)
  (hb:∀ c_ A outer s H E,cw 1 (A.deeper (envOfC e (aD st) s.heap.objs.size f c_))->∃ s0 ss E0,aT st=s0::ss/\PS (cR mw P w K mg base ("self"::p::r::xs) e (aD st) f c_ A outer s H E).oD s0 (uF (Fy CE (_a.zf K [p,r]) [] E0 (tC (.ref CE)) (bR (bU 0) (bR (bU 1) (bR (bU 2) dP)))))/\k_ (cR mw P w K mg base ("self"::p::r::xs) e (aD st) f c_ A outer s H E).oD 3 ss xs):c5 P w K mg base mw 2 f fd ("self"::p::r::xs) (Fz C (p::r::xs)):=by
 refine F.ok S (λvs H Q E h=>?_) (λc_ A outer s H vs Q E hr h=>?_)
 .obtain ⟨x,dx,us,rfl,b,_⟩:=h
  rw[AT,b];rfl
 .obtain ⟨x,dx,us,rfl,b,d,q⟩:=h
  obtain⟨s0,ss,E0,m,t,a⟩:=hb c_ A outer s H E hr
  obtain⟨T,n,l⟩:=LL a
  obtain _|⟨u0,_|⟨u1,us⟩⟩:=us
  .cases b
  .cases b
  have nd:=BY.mp (BY.mp S.nd).2
  have c:=BY.mp nd.2
  rw[m]
  refine⟨_,_a.aJ t n,rfl,_,rfl,_,rfl,_,rfl,x,C,dx,[u0,u1],rfl,rfl,d,cl,λf a=>g f (by simp at a ⊢;rcases a with h|h<;>simp[h]),?_⟩
  refine l rfl (λj u k=>?_) (by simpa using b) aI cl (λf a=>g f (.tail _ (.tail _ a))) (λq i d=>?_) c.2 (by simp;ext) (by rw[_a.kB];exact q)
  .have o:=(AH.mp k).1
   unfold _a.start
   rw[show 3+j=j+1+1+1 by ext,A8 (by simp;ext),AZ,AK,AK,AK,k];rfl
  .simp at i
   rcases i with rfl|rfl
   · exact nd.1 (.tail _ d)
   · exact c.1 d
def Bn(bn bq:Str)(p r:Str)(O3:Stmt)(cn qn:Str)(xs:L9 Str)(st:Stmt)(K:Frag)(mg:Str->O9 V9):Prop:=∃ CE fE xm C fI oq,mg bn=some (.ref CE)/\x3 K CE "__init__" fE/\jt K "__init__" bq O3 fE xm/\cG K xm ["self",p,r] []/\mg cn=some (.ref C)/\ky K C/\(∀ f∈p::r::xs,cQ K C f)/\Mk K C fI/\jt K "__init__" qn st fI oq/\cG K oq ("self"::p::r::xs) []
theorem HY{e d p:Str}{b:Stmt}{c:Str}(h:Bn e d p r b cn c xs st K mg)(g:cb ["self",p,r] ["self",p,r] (aD b))(i:∀ f c_ A outer s H E,k_ (cR mw P w K mg base ["self",p,r] d (aD b) f c_ A outer s H E).oD 1 (aT b) [p,r])
  (S:cb ("self"::p::r::xs) ("self"::p::r::xs) (aD st)) (j:xs.length<=900)
  (hb:∀ f CE fE xm c_ A outer s H E,mg e=some (.ref CE)->x3 K CE "__init__" fE->c5 P w K mg base mw 1 fE xm ["self",p,r] (_a.zf K [p,r])->cG K xm ["self",p,r] []->cw 1 (A.deeper (envOfC c (aD st) s.heap.objs.size f c_))->∃ s0 ss E0,aT st=s0::ss/\PS (cR mw P w K mg base ("self"::p::r::xs) c (aD st) f c_ A outer s H E).oD s0 (uF (Fy CE (_a.zf K [p,r]) [] E0 (tC (.ref CE)) (bR (bU 0) (bR (bU 1) (bR (bU 2) dP)))))/\k_ (cR mw P w K mg base ("self"::p::r::xs) c (aD st) f c_ A outer s H E).oD 3 ss xs):∃ C,Bq P w K mg base 2 cn (p::r::xs) C:=by
 obtain⟨CE,fE,xm,C,fI,oq,a⟩:=h
 exact⟨C,a.2.2.2.2.1,fI,oq,a.2.2.2.2.2.2.2.1,Qg a.2.2.2.2.2.2.2.2.1 S j a.2.2.2.2.2.1 a.2.2.2.2.2.2.1 λc_ A outer s H E hr=>hb fI CE fE xm c_ A outer s H E a.1 a.2.1 (Sm a.2.2.1 g (by simp) (i fE)) a.2.2.2.1 hr,a.2.2.2.2.2.2.2.2.2⟩
theorem Pb{h:Hz}{E B p:Str}{a:Stmt}{D:Str}(X:K.In h)(G:h.Ns mainGlobals mg){CE:Az}{s w:O9 Az}{k:Array (O9 V9)}{t i d y:V9}{b:Az}{v z:O9 Az}{j:Array (O9 V9)}{A l x c:V9}(m1:nsIn K mainGlobals E=some (some (.ref CE)))(s1:specialIn K (.ref CE) "__getattribute__"=some (some (.builtin "type.__getattribute__")))
  (r1:nsIn K cStatics "thirdparty.any"=some none) (r2:typeIn K (.ref CE)=some (.type "type")) (r3:findIn K (.type "type") "__getattribute__"=some (some (.builtin "type.__getattribute__"))) (r4:subIn K (.type "type") (.type "type")=some true)
  (q1:findIn K (.type "type") "__init__"=some (some (.builtin "type.__init__"))) (q2:specialIn K (.builtin "type.__init__") "__get__"=some (some g)) (q3:takesIn K (.builtin "type.__init__")=some false) (q4:findIn K (.ref CE) "__init__"=some (some (.ref e))) (q5:typeIn K (.ref e)=some (.type "function"))
  (Dg:K.lookup e=some ⟨q,s,.func (fnOf "__init__" B (bT a) (aT a) (aD a) .none t i m w d y),k⟩) (Dh:codeIn K d B=true) (Ac:keepIn K (.ref e)=true)
  (m2:nsIn K mainGlobals cn=some (some (.ref C))) (p1:plainGet K C Str.empty=true) (p2:hasDictIn K C=true) (p3:plainOver K C=true) (p4:findIn K (.ref C) "__setattr__"=some (some (.builtin "object.__setattr__")))
  (n:∀ f∈p::r::xs,findIn K (.ref C) f=some none) (k1:makesIn K C=true) (k2:findIn K (.ref C) "__init__"=some (some (.ref b))) (k3:isFn K (.ref b)=true) (k4:keepIn K (.ref C)=true)
  (C0:K.lookup b=some ⟨u,v,.func (fnOf "__init__" D (bT st) (aT st) (aD st) .none A l x z c o),j⟩) (Dc:codeIn K c D=true) (C_:keepIn K (.ref b)=true)
  (F:∀ (kV doc pm:V9) (an:O9 Az) (c_ ct:V9) (us:L9 V9),us.length=(["self",p,r]:L9 Str).length->bindArgs (fnOf "__init__" B (bT a) (aT a) (aD a) .none kV doc pm an c_ ct) ⟨us,[]⟩=pure ((["self",p,r]:L9 Str).zip us))
  (b2:∀ (kV doc pm:V9) (an:O9 Az) (c_ ct:V9) (us:L9 V9),us.length=(("self":Str)::p::r::xs).length->bindArgs (fnOf "__init__" D (bT st) (aT st) (aD st) .none kV doc pm an c_ ct) ⟨us,[]⟩=pure ((("self":Str)::p::r::xs).zip us)):Bn E B p r a cn D xs st K mg:=
 ⟨CE,e,_,C,b,_,BP X G m1,⟨s1,Vf r1 r2 r3 r4,Pc q1 q2 q3 q4 q5,Ac⟩,jT Dg Dh Ac,(jT Dg Dh Ac).binds F,BP X G m2,⟨p1,p2,p3,p4⟩,n,⟨k1,k2,k3,k4⟩,jT C0 Dc C_,(jT C0 Dc C_).binds b2⟩
end
section
variable{P:P9}{w:W9}{K:Frag}{mg:Str->O9 V9}{base:Hz}{TH:Hp}
def vg(K:Frag)(mg:Str->O9 V9)(c m q:Str)(st:Stmt):Prop:=∃ C f fd,mg c=some (.ref C)/\ky K C/\Meth K C m f/\jt K m q st f fd/\cG K fd ["self"] []
set_option maxHeartbeats 0 in
theorem Sl(T:Txt w K mg)(D:sk K mg (("signs_of",15,["machine"])::("cells_of",16,["machine","number"])::("checked_by",17,["signs","strip"])::("checked",18,["machine","strip"])::("cell_at",25,["machine","strip","stand"])::("path",26,["machine","strip"])::("borders_of",27,["stands","strip"])::("walk",28,["machine","strip"])::("reached",31,["begin","after","done"])::("is_word",34,["part"])::("without_signs",35,["machine"])::("gone_on",36,["backs","cells","room"])::("longer",37,["begun","cells"])::("beginning",38,["machine","strip"])::("word_behind",39,["machine","begun"])::("signs_by",41,["reader"])::("room_from",42,["reader","room","strip"])::("room_by",43,["reader","strip"])::("word_by",44,["reader","strip"])::("rooms_passed",46,["reader","room","piece"])::("least_round",47,["words"])::("goes_round",51,["machine","strip","ending","paper"])::("holds",52,["machine","strip","paper"])::("still",54,["rooms"])::("sign_table",55,["machine","sign"])::("gone_out",56,["one","other","thing","inward"])::("behind",57,["one","other"])::("table_of",58,["machine","strip"])::("_law_cell",60,["_law_script","_law_k"])::("_law_end",61,["_law_number","_law_rooms"])::("_law_digit_row",62,["_law_number","_law_rooms","_law_signs"])::("_law_mixed_row",63,["_law_number","_law_rooms","_law_signs"])::("_law_machine",64,["_law_script","_law_at","_law_rooms","_law_signs"])::("_law_strip",65,["_law_script","_law_at","_law_size","_law_signs"])::("_law_whole",66,["_law_found"])::("_law_any_way",67,["_law_signs"])::("_law_do",68,["_law_which","_law_machine_here","_law_strip_here","_law_good"])::("_law_asked",69,["_law_which","_law_machine_here","_law_strip_here","_law_good"])::("_law_made",70,["_law_cell_here"])::("_law_strange",71,["_law_signs","_law_cell_here"])::[]))(qW:uC "NoStrip" "NoStrip.__init__" ["at"] (aS (top 4) 0) K mg)(ox:uC "NoMachine" "NoMachine.__init__" ["part","room"] (aS (top 2) 0) K mg)(r_:uC "NoText" "NoText.__init__" ["at"] (aS (top 3) 0) K mg)(sf:uC "NoLine" "NoLine.__init__" ["line"] (aS (top 6) 0) K mg)(sd:uC "NoName" "NoName.__init__" ["name"] (aS (top 5) 0) K mg)(pT:∃ W C,m3 K mg "TooMany" W C)(p_:∃ W C,m3 K mg "NotLike" W C)(lx:∃ W C,m3 K mg "NothingDone" W C)(ow:∃ W C,m3 K mg "NoBorder" W C)(qC:∃ W C,m3 K mg "NoWord" W C)(de:xt K mg ["NoStrip","TooMany"])(jo:lq K mg "NoStrip" "NoStrip" true)(jj:lq K mg "TooMany" "NoStrip" false)(et:mI K mg "NoStrip" "ValueError" true)(eo:mI K mg "TooMany" "ValueError" true)(jm:lq K mg "NoStrip" "TooMany" false)(jn:lq K mg "NoStrip" "NotLike" false)(kg:lq K mg "NoStrip" "NoWord" false)(kh:lq K mg "NoStrip" "NoText" false)(ki:lq K mg "NoStrip" "NoName" false)(ip:lq K mg "NoStrip" "NoMachine" false)(kj:lq K mg "NoStrip" "NoLine" false)(ja:lq K mg "NoStrip" "NoBorder" false)(gq:mI K mg "NoMachine" "ValueError" true)(ij:mI K mg "NoText" "ValueError" true)(ik:mI K mg "NoName" "ValueError" true)(il:mI K mg "NoLine" "ValueError" true)(hY:mI K mg "NotLike" "ValueError" true)(ig:mI K mg "NoWord" "ValueError" true)(hJ:mI K mg "NoBorder" "ValueError" true)(fy:mI K mg "NothingDone" "ValueError" true)(h8:lq K mg "NoMachine" "WayError" true)(jl:lq K mg "NoText" "WayError" true)(i_:lq K mg "NoStrip" "WayError" true)(jq:lq K mg "NoName" "WayError" true)(jr:lq K mg "NoLine" "WayError" true)(iy:lq K mg "TooMany" "WayError" true)(iz:lq K mg "NotLike" "WayError" true)(jk:lq K mg "NoWord" "WayError" true)(iq:lq K mg "NoBorder" "WayError" true)(gr:lq K mg "NothingDone" "WayError" true)(uu:Bn "Ending" "Ending.__init__" "place" "room" (aS (top 21) 0) "LetBy" "LetBy.__init__" ["borders"] (aS (top 22) 0) K mg)(qy:Bn "Ending" "Ending.__init__" "place" "room" (aS (top 21) 0) "ShutOut" "ShutOut.__init__" ["borders"] (aS (top 23) 0) K mg)(qz:Bn "Ending" "Ending.__init__" "place" "room" (aS (top 21) 0) "ForEver" "ForEver.__init__" ["first","again"] (aS (top 24) 0) K mg)(l:mK K mg ["LetBy","ShutOut"] "borders")(X:mK K mg ["ForEver"] "again")(V:mK K mg ["ForEver"] "first")(aa:mK K mg ["LetBy","ShutOut","ForEver"] "room")(S:mK K mg ["LetBy","ShutOut","ForEver"] "place")(mz:vg K mg "LetBy" "says" "LetBy.says" (aS (top 22) 1))(ll:vg K mg "ShutOut" "says" "ShutOut.says" (aS (top 23) 1))(lp:vg K mg "ForEver" "says" "ForEver.says" (aS (top 24) 1))(mj:vg K mg "LetBy" "stops" "LetBy.stops" (aS (top 22) 2))(kb:vg K mg "ShutOut" "stops" "ShutOut.stops" (aS (top 23) 2))(ke:vg K mg "ForEver" "stops" "ForEver.stops" (aS (top 24) 2))(ml:vg K mg "LetBy" "paper" "LetBy.paper" (aS (top 22) 3))(kc:vg K mg "ShutOut" "paper" "ShutOut.paper" (aS (top 23) 3))(kf:vg K mg "ForEver" "paper" "ForEver.paper" (aS (top 24) 3))(aj:jc K mg base TH rn "sayer" (top 29) ["machine"])(ak:jc K mg base TH rn "one_way" (top 40) ["machine"])(ai:kx K mg "comes_round" (top 48) ["machine","ahead","again","behind"] [.str ""]){fL:Az}{ag:FuncData}(FL:jt K "law" "law" (top 72) fL ag):c5 P w K mg base (d4 P w) 18 fL ag ["_law_script"] (yQ K TH):=by
 obtain⟨yu,y1,a⟩:=vM (P:=P) (w:=w) (base:=base) qW (by constructor<;>first|rfl|decide +kernel) λ_ _ _ _ _ _ _=>_a.bC (mU (pv 0) (pv 1) rfl)
 obtain⟨wm,wx,b⟩:=Sn (P:=P) (w:=w) (base:=base) ox (by constructor<;>first|rfl|decide +kernel) (by decide +kernel) λ_ _ _ _ _ _ _=>⟨_,_,rfl,mU (pv 0) (pv 1) rfl,mU (pv 0) (pv 2) rfl⟩
 obtain⟨Bg,Bu,g⟩:=vM (P:=P) (w:=w) (base:=base) r_ (by constructor<;>first|rfl|decide +kernel) λ_ _ _ _ _ _ _=>_a.bC (mU (pv 0) (pv 1) rfl)
 obtain⟨Bi,Bw,e⟩:=vM (P:=P) (w:=w) (base:=base) sf (by constructor<;>first|rfl|decide +kernel) λ_ _ _ _ _ _ _=>_a.bC (mU (pv 0) (pv 1) rfl)
 obtain⟨Bh,Bv,d⟩:=vM (P:=P) (w:=w) (base:=base) sd (by constructor<;>first|rfl|decide +kernel) λ_ _ _ _ _ _ _=>_a.bC (mU (pv 0) (pv 1) rfl)
 obtain⟨mi,mq,cu⟩:=pT
 obtain⟨xr,xv,d5⟩:=p_
 obtain⟨ur,uz,da⟩:=lx
 obtain⟨wk,wu,dv⟩:=ow
 obtain⟨yr,y0,ei⟩:=qC
 obtain⟨Bs,af⟩:=HY (P:=P) (w:=w) (base:=base) uu (by constructor<;>first|rfl|decide +kernel) (λ_ _ _ _ _ _ _=>.cons (jS (pv 0) (pv 1) rfl) (.one (jS (pv 0) (pv 2) rfl))) (by constructor<;>first|rfl|decide +kernel) (by decide) λ_ _ _ _ _ _ _ _ _ _ mE cm FE bE hr=>⟨_,_,_,rfl,_a.kC (IS (iD rfl mE rfl) cm FE hr bE .nil Fb (aO (pv 0) (aO (pv 1) (aO (pv 2) bI)))),.one (jS (pv 0) (pv 3) rfl)⟩
 obtain⟨xx,ae⟩:=HY (P:=P) (w:=w) (base:=base) qy (by constructor<;>first|rfl|decide +kernel) (λ_ _ _ _ _ _ _=>.cons (jS (pv 0) (pv 1) rfl) (.one (jS (pv 0) (pv 2) rfl))) (by constructor<;>first|rfl|decide +kernel) (by decide) λ_ _ _ _ _ _ _ _ _ _ mE cm FE bE hr=>⟨_,_,_,rfl,_a.kC (IS (iD rfl mE rfl) cm FE hr bE .nil Fb (aO (pv 0) (aO (pv 1) (aO (pv 2) bI)))),.one (jS (pv 0) (pv 3) rfl)⟩
 obtain⟨xy,ad⟩:=HY (P:=P) (w:=w) (base:=base) qz (by constructor<;>first|rfl|decide +kernel) (λ_ _ _ _ _ _ _=>.cons (jS (pv 0) (pv 1) rfl) (.one (jS (pv 0) (pv 2) rfl))) (by constructor<;>first|rfl|decide +kernel) (by decide) λ_ _ _ _ _ _ _ _ _ _ mE cm FE bE hr=>⟨_,_,_,rfl,_a.kC (IS (iD rfl mE rfl) cm FE hr bE .nil Fb (aO (pv 0) (aO (pv 1) (aO (pv 2) bI)))),.cons (jS (pv 0) (pv 3) rfl) (.one (jS (pv 0) (pv 4) rfl))⟩
 have h_:∀ p∈[(("LetBy":Str),gO),(("ShutOut":Str),fB),(("ForEver":Str),fC)],xJ P w K mg base TH 1 p.1 "says" p.2:=by
  intro p hp
  simp only[AQ,BS,C8]at hp
  rcases hp with rfl|rfl|rfl
  .obtain ⟨C,f,fd,h1,h2,M,B,J⟩:=mz
   exact⟨C,f,fd,h1,h2,M,YA T B ,J⟩
  .obtain ⟨C,f,fd,h1,h2,M,B,J⟩:=ll
   exact⟨C,f,fd,h1,h2,M,xP T B ,J⟩
  .obtain ⟨C,f,fd,h1,h2,M,B,J⟩:=lp
   exact⟨C,f,fd,h1,h2,M,xQ T B ,J⟩
 have jf:∀ p∈[(("LetBy":Str),j2),(("ShutOut":Str),iP),(("ForEver":Str),iR)],xJ P w K mg base TH 1 p.1 "stops" p.2:=by
  intro p hp
  simp only[AQ,BS,C8]at hp
  rcases hp with rfl|rfl|rfl
  .obtain ⟨C,f,fd,h1,h2,M,B,J⟩:=mj
   exact⟨C,f,fd,h1,h2,M,zG T B ,J⟩
  .obtain ⟨C,f,fd,h1,h2,M,B,J⟩:=kb
   exact⟨C,f,fd,h1,h2,M,vQ T B ,J⟩
  .obtain ⟨C,f,fd,h1,h2,M,B,J⟩:=ke
   exact⟨C,f,fd,h1,h2,M,vS T B ,J⟩
 have l3:∀ p∈[(("LetBy":Str),j3),(("ShutOut":Str),iQ),(("ForEver":Str),iS)],xJ P w K mg base TH 1 p.1 "paper" p.2:=by
  intro p hp
  simp only[AQ,BS,C8]at hp
  rcases hp with rfl|rfl|rfl
  .obtain ⟨C,f,fd,h1,h2,M,B,J⟩:=ml
   exact⟨C,f,fd,h1,h2,M,zH T B l,J⟩
  .obtain ⟨C,f,fd,h1,h2,M,B,J⟩:=kc
   exact⟨C,f,fd,h1,h2,M,vR T B l,J⟩
  .obtain ⟨C,f,fd,h1,h2,M,B,J⟩:=kf
   exact⟨C,f,fd,h1,h2,M,vT T B X V aa S,J⟩
 refine gd dJ 0 ["machine"] D (λI D=>?_)
 refine gd fS 0 ["machine","number"] D (λL D=>?_)
 refine gd fH 2 ["signs","strip","known","at","sign"] D (λ_ D=>?_) (hb:=λf k A outer s H F E hr nd=>by exact(_f.aJ (by symm) (_f.aJ (_f.lV (by symm) (_a.lV (jG ⟨rfl,rfl⟩) rfl (Ru rfl (U5 rfl T.k8 (aO (by symm) bI)) (V6 rfl T.k8 (aO (by symm) bI))) (by symm) (_f.bC (_f.lQ (by symm) (_f.bC (_f.qJ a.m (by decide) (Og rfl a rfl (hr.mono (by decide)) (by symm)))) _f.iE)))) (by symm))))
 refine gd bQ 3 ["machine","strip"] D (λR D=>?_)
 refine gd l9 0 ["machine","strip","stand","place","row"] D (λ_ D=>?_)
 refine gd mB 4 ["machine","strip","stand","stands","been","cell"] D (λ_ D=>?_) (hb:=by delta Eg wa wb;symm)
 refine gd jD 0 ["stands","strip","crossings","here","there"] D (λ_ D=>?_) (hb:=λf k A outer s H F E hr nd=>by exact(Vu (is:=[3,4]) (_a.yE (i:=2) nd rfl (Or.inl rfl) (by rfl) (N:=["border"]) (js:=[none]) rfl (.own .nil) (by rfl) (Kz (MT (Oo rfl T.rl (aO (bV (fG (uR rfl) oI (bV (Lf rfl (dG NO rfl T.um GW (aO (dO (pv 1)) bI)))) (bV gL))) bI))))) rfl (λcl C s0 H0 fp=>⟨k6 (i:=0) (show(["border"]:L9 Str).Nodup by decide +kernel) rfl (Or.inl rfl),xZ bI⟩) (Le rfl (wZ (mX 3) (wZ (mX 4) MX)) rfl) (by decide)
   (_a.lV (jG ⟨rfl,rfl⟩) rfl (Ma rfl (_a.K8 rfl T.wj (aO (sU (pv 0)) (aO (Nw rfl (dO (pv 0)) (Kx (bV gL)) Ky) bI)))) (LJ rfl (wK (k6 (i:=3) nd rfl (Or.inl rfl)) (wK (k6 (i:=4) nd rfl (Or.inl rfl)) MN))) (_a.bC (_a.kC (yA EM GE GF Oh (Kq RU (pv 2) (bV (Ro (G:=nL) (dG (XC rfl) rfl T.Am boot_min (aO (bV (yO (yP rfl) nG (dO (pv 3)) (bV gL))) (aO (bV (yO (yP rfl) nG (dO (pv 4)) (bV gL))) bI))))) (λ_ _=>rfl)) (aO (yO (yP rfl) nG (dO (pv 4)) (bV gL)) bI)))))
   (_f.bC (_f.cB (cS (nJ rfl (kD hZ rfl T.jh DB (aO (bV (pM (IW (uK (N:=["rooms"]) (js:=[none]) rfl (.own .nil) (by rfl) (JX rfl (dO (pv 2)))) (by decide) (by decide) (is:=[0]) (λcl C s0 H0 fp=>⟨_,(k6 (i:=0) (show(["rooms"]:L9 Str).Nodup by decide +kernel) rfl (Or.inl rfl)),(mX 0),_f.lA,(nJ rfl (kD hZ rfl T.jh DB (aO (dO (pv 0)) bI)))⟩)))) bI))))))))
 refine gd jE 5 ["machine","strip","stands","last","word"] D (λac D=>?_)
 have ah:=@Vl P w K mg base TH T aj ac h_
 refine gd kH 12 ["begin","after","done","found","numbers","rows","row","thing"] D (λQ D=>?_) (hb:=λf k A outer s H F E hr nd=>by delta ID yb zh yc;exact(_f.aJ (by symm) (_f.aJ (by symm) (_f.aJ (by symm) (_f.aJ (_f.fF (_a.fF (jG ⟨rfl,rfl⟩) (PW.pt (_f.xV (by symm) (_f.uE (_f.r7 (_f.o9 (T1 (m:=12) rfl rfl rfl (hr.mono (by decide)) (Nq (pv 2) (jW λ_ _ _ h=>h) (Np (by symm) (Np (by symm) T2))))))))) (_f.aJ (by symm) (_f.aJ (_f.lV (mX 7) (_a.lV (jG ⟨rfl,rfl⟩) rfl (JY rfl (Rh (m:=12) rfl rfl rfl (hr.mono (by decide)) (Nq (pv 1) (jW λ_ _ _ h=>h) (by symm)))) (by symm) (by symm))) (by symm))))) (by symm))))))
 refine gd kI 0 ["part"] D (λ_ D=>?_)
 refine gd eE 0 ["machine","lefts"] D (λj D=>?_)
 refine gd kJ 1 ["backs","cells","room","been","cell"] D (λ_ D=>?_) (hb:=by delta IC oT oB;symm)
 refine gd fJ 2 ["begun","cells","first","backs"] D (λU D=>?_)
 refine gd gD 4 ["machine","strip","columns","begun","sign"] D (λ_ D=>?_)
 refine gd eK 1 ["machine","begun","room","been","turn"] D (λt D=>?_) (hb:=by delta rR wT wB;symm)
 have O:=Xx (P:=P) (w:=w) (base:=base) (TH:=TH) T ak I L U Q j t cu
 refine gd rE 0 ["reader"] D (λ_ D=>?_)
 refine gd dF 0 ["reader","room","strip","sign"] D (λy D=>?_)
 refine gd gR 3 ["reader","strip"] D (λ_ D=>?_)
 refine gd i9 4 ["reader","strip"] D (λ_ D=>?_)
 refine gd gP 1 ["reader","room","piece","numbers"] D (λn D=>?_) (hb:=λf k A outer s H F E hr nd=>by delta pZ xa zg Cb;exact(_f.aJ (by symm) (_f.aJ (_f.fF (_a.fF (jG ⟨rfl,rfl⟩) (by symm) (_f.aJ (_f.Mp rfl rfl (xW (TB rfl rfl (dG WR rfl T.um GW (aO (pv 3) bI))) (Iy (pv 3) (by symm) (Nv hr.units)))) (by symm)))) (_f.bC (_f.cB (cS (pP (bD (pM (Vx rfl (kD (XR rfl) rfl T.xo PyProof.Rows.boot_list (aO (pv 3) bI)))) (by symm)))))))))
 refine gd fY 0 ["words","length"] D (λo D=>?_) (hb:=λf k A outer s H F E hr nd=>by delta oV zq zr;exact(_f.aJ (by symm) (_f.aJ (_f.fF (_a.fF (jG ⟨rfl,rfl⟩) (by symm) (_f.bC (_f.sA Ur (_a.sA (i:=1) nd rfl (Or.inl rfl) (by symm) SJ))))) (by symm))))
 have q:=@Yz P w K mg base TH T ai R O n y o
 refine gd qA 0 ["machine","strip","ending","paper","first","again","stands","stand"] D (λu D=>?_) (hb:=λf k A outer s H F E hr nd=>by exact Ta)
 refine gd eZ 6 ["machine","strip","paper","ending"] D (λ_ D=>?_) (hb:=λf k A outer s H F E hr nd=>by exact(_f.aJ (by symm) (_f.aJ (_f.lQ (_f.o9 (yM (Ek rfl rfl rfl jf (hr.mono (by decide)) (jW λ_ _ _ h=>h) (IQ (pv 3))))) (_f.bC (_f.cB (cS (nF (Ip rfl hr.units) wY (by symm) (bV (yM (Ek rfl rfl rfl l3 (hr.mono (by decide)) (jW λ_ _ _ h=>h) (IQ (pv 3))))) (dY _))))) _f.iE) (_f.bC (_f.cB (cS (pO (by symm) (pN (yM (Et rfl rfl rfl (Ey u (hr.mono (by decide)) rfl (jW λ_ _ _ h=>h) (c6 (by symm) (c6 (by symm) (c6 (IQ (pv 3)) (by symm)))))))))))))))
 refine gd uY 0 ["rooms","fore","aft"] D (λ_ D=>?_)
 refine gd dL 4 ["machine","sign","things"] D (λ_ D=>?_)
 refine gd gX 0 ["one","other","thing","inward","been"] D (λ_ D=>?_) (hb:=by delta LK gT gB;symm)
 refine gd nP 1 ["one","other","fore","aft"] D (λ_ D=>?_)
 refine gd gY 5 ["machine","strip","tables","table","sign"] D (λ_ D=>?_)
 refine gd bJ 0 ["_law_script","_law_k","_law_cell_here","_law_mixed"] D (λ_ D=>?_)
 refine gd g9 0 ["_law_number","_law_rooms"] D (λ_ D=>?_)
 refine gd hU 0 ["_law_number","_law_rooms","_law_signs","_law_left","_law_cells","_law_k","_law_ends"] D (λ_ D=>?_)
 refine gd hV 1 ["_law_number","_law_rooms","_law_signs","_law_pieces","_law_k","_law_cells"] D (λ_ D=>?_) (hb:=by delta nR Cg Cf;symm)
 refine gd jM 2 ["_law_script","_law_at","_law_rooms","_law_signs","_law_rows","_law_room","_law_row"] D (λ_ D=>?_) (hb:=by delta pS zo Cj Ci;symm)
 refine gd gN 1 ["_law_script","_law_at","_law_size","_law_signs","_law_number","_law_strip_here","_law_k"] D (λ_ D=>?_) (hb:=λf k A outer s H F E hr nd=>by exact(_f.aJ (by symm) (_f.bC (_f.cB (cS (UX rfl (yA GS PySem.F.slot_str_join PySem.F.type_str_join UK (by symm) (aO (by symm) bI)) (by intro Y x h;cases h;exact⟨_,rfl⟩)))))))
 refine gd nS 0 ["_law_found"] D (λ_ D=>?_) (hb:=λf k A outer s H F E hr nd=>by exact(_f.bC (_f.cB (cS (pO (Im (dG (w7 rfl (Um _)) rfl T.dc BU (aO (by symm) (aO (o8 (v:=.ty "int") rfl T.An boot_int rfl) bI)))) (pN (Io (Im (dG (w7 rfl (Wq _)) rfl T.dc BU (aO (by symm) (aO (o8 (v:=.ty "bool") rfl T.xp PyProof.Rows.boot_bool rfl) bI)))))))))))
 refine gd dD 0 ["_law_signs"] D (λ_ D=>?_) (hb:=λf k A outer s H F E hr nd=>by exact(_f.bC (_f.cB (cS (pP (bD (nJ rfl (kD hZ rfl T.jh DB (aO (bV (pM (IW (uK (N:=["_law_room","_law_signs"]) (js:=[none,some 0]) rfl (.own (.uj rfl (.inl rfl) (.inl rfl) .nil)) (by rfl) (by symm)) (by decide) (by decide) (is:=[0]) (λcl C s0 H0 fp=>⟨_,(k6 (i:=0) (show(["_law_room","_law_signs"]:L9 Str).Nodup by decide +kernel) rfl (Or.inl rfl)),(mX 0),_f.lA,(nJ rfl (kD hZ rfl T.jh DB (aO (bV (pM (S6 (by symm) (by symm)))) bI)))⟩)))) bI))) (by symm)))))))
 refine gd cF 15 ["_law_which","_law_machine_here","_law_strip_here","_law_good","_law_strips"] D (λr D=>?_) (hb:=λf k A outer s H F E hr nd=>by exact(_f.aJ (by symm) (_f.aJ (by symm) (_f.aJ (_f.lQ (by symm) (_f.bC (_f.cB (cS (S_ (m:=12) rfl rfl rfl (hr.mono (by decide)) (Vv (by symm) (jW λ_ _ _ h=>h) (by symm)))))) _f.iE) (_f.aJ (by symm) (_f.aJ (by symm) (_f.aJ (by symm) (_f.aJ (by symm) (_f.aJ (by symm) (_f.aJ (_f.lQ (by symm) (_f.aJ (by symm) (_f.aJ (by symm) (_f.bC (_f.cB (Et rfl rfl rfl (Ey q.calls (hr.mono (by decide)) rfl (jW λ_ _ _ h=>h) (by symm))))))) _f.iE) (by symm)))))))))))
 refine gd bY 16 ["_law_which","_law_machine_here","_law_strip_here","_law_good","_law_at","_law_fine","_law_e"] D (λ_ D=>?_) (hb:=λf k A outer s H F E hr nd=>by exact(_f.aJ (by symm) (_f.aJ (by symm) (_f.aJ (Mn (i:=6) rfl rfl ⟨rfl,rfl⟩ nd rfl rfl rfl de.choose_spec.choose_spec.1 de.choose_spec.choose_spec.2.1 de.choose_spec.choose_spec.2.2 (λpn Z E1=>Lb r (hr.mono (by decide)) rfl (by symm)) (λ_=>(_f.aJ (by symm) (_f.aJ (_f.dA (_a.dA (i:=5) nd rfl (Or.inl rfl) (cS (pO (Ir rfl rfl (eJ a.c a.m et (eJ cu.c cu.m eo IU)) (dG eW rfl T.dc BU (aO (pv 6) (aO (o8 (v:=.ty "ValueError") rfl T.ji Mm rfl) bI)))) (pN (Iq rfl (eI a.c a.m jo (fP cu.c cu.m jj)) λD hD=>dG eW rfl T.dc BU (aO (pv 6) (aO (iD (v:=.ref D) rfl hD rfl) bI)))))))) (_f.bC (_f.dA (_a.dA (i:=5) nd rfl (Or.inl rfl) (cS (pO (by symm) (pN (Io (Tc (qs:=["NoBorder","NoLine","NoMachine","NoName","NoText","NoWord","NotLike","TooMany"]) rfl (CJ.mpr ⟨(fP a.c a.m ja),(CJ.mpr ⟨(fP a.c a.m kj),(CJ.mpr ⟨(fP a.c a.m ip),(CJ.mpr ⟨(fP a.c a.m ki),(CJ.mpr ⟨(fP a.c a.m kh),(CJ.mpr ⟨(fP a.c a.m kg),(CJ.mpr ⟨(fP a.c a.m jn),(CJ.mpr ⟨(fP a.c a.m jm),(λ_ h=>nomatch h)⟩)⟩)⟩)⟩)⟩)⟩)⟩)⟩) (by decide) (by decide) λDs hD=>dG Yy rfl T.dc BU (aO (pv 6) (aO (LG ((jC (jC (jC (jC (jC (jC (jC (jC Te)))))))) Ds hD)) bI)))))))))))))) (_f.aJ (Mn (i:=6) rfl rfl ⟨rfl,rfl⟩ nd rfl rfl rfl a.m a.c.any (Ym a) (λpn Z E1=>Lb r (hr.mono (by decide)) rfl (by symm)) (λ_=>(_f.bC (_f.dA (_a.dA (i:=4) nd rfl (Or.inl rfl) (cS (HL rfl rfl (tE a (by decide)) (lB (pv 6) rfl)))))))) (by symm))))))
 refine gd iV 2 ["_law_cell_here","_law_part","_law_one","_law_some"] D (λz D=>?_) (hb:=λf k A outer s H F E hr nd=>by delta oX Gd;exact(_f.aJ (_f.dA (_a.dA (i:=1) nd rfl (Or.inl rfl) (cS (@yO _ _ _ _ _ _ _ _ _ (yP rfl) nG (@bV _ _ _ _ _ (@pM _ _ _ _ _ (@Lw _ _ _ _ _ _ (@bD _ _ _ _ _ _ _ cW (@bD _ _ _ _ _ _ _ cW (@bD _ _ _ _ _ _ _ cW (@bD _ _ _ _ _ _ _ cW (@bD _ _ _ _ _ _ _ cW cP lO) lO) lO) lO) lO)))) (bV (fG lE i6 (dO (pv 0)) (bV gL))) (λ_ _=>rfl)))))
   (_f.aJ (_f.dA (_a.dA (i:=2) nd rfl (Or.inl rfl) (tT b.m (by decide) (jO b rfl (hr.mono (by decide)) (bD (sU (pv 1)) (bD (fG lE i6 (dO (pv 0)) (bV gL)) cP))))))
   (_f.aJ (_f.lQ (PW.pt (_f.qF (_f.fD (l7 rfl hr.units) i7 (bV (HL rfl rfl (tE b (by decide)) (lB (pv 2) rfl))) (dO (pv 1)) (dY _)) (_f.qF (_f.fD (l7 rfl hr.units) i7 (bV (HL rfl rfl (tE b (by decide)) (lB (pv 2) rfl))) (bV (fG lE i6 (dO (pv 0)) (bV gL))) (dY _)) (_f.qF (_f.fD (l7 rfl hr.units) i7 (bV (vB g (by decide) (by decide) (lB (jO g rfl (hr.mono (by decide)) (bD (sU (pv 0)) cP)) rfl))) (dO (pv 0)) (dY _)) (_f.r6 (_f.fD (l7 rfl hr.units) i7 (bV (vB a (by decide) (by decide) (lB (jO a rfl (hr.mono (by decide)) (bD (fG lE i6 (dO (pv 0)) (bV gL)) cP)) rfl))) (bV (fG lE i6 (dO (pv 0)) (bV gL))) (dY _))))))) (_f.bC (_f.cB (cS uQ))) _f.iE)
   (_f.aJ (_f.lQ (PW.pt (_f.qF (_f.fD (l7 rfl hr.units) i7 (bV (vB d (by decide) (by decide) (lB (jO d rfl (hr.mono (by decide)) (bD (sU (pv 1)) cP)) rfl))) (dO (pv 1)) (dY _)) (_f.r6 (_f.fD (l7 rfl hr.units) i7 (bV (vB e (by decide) (by decide) (lB (jO e rfl (hr.mono (by decide)) (bD (fG (uR rfl) oI (dO (pv 1)) (bV cW)) cP)) rfl))) (bV (fG (uR rfl) oI (dO (pv 1)) (bV cW))) (dY _))))) (_f.bC (_f.cB (cS uQ))) _f.iE)
   (Vw rfl (@_a.dA _ _ 3 _ _ _ _ nd rfl (Or.inl rfl) (@xZ _ _ _ _ (@c6 _ _ _ _ _ _ _ (Tf (pv 2)) (@c6 _ _ _ _ _ _ _ (tT g.m (by decide) (jO g rfl (hr.mono (by decide)) (bD gL cP))) (@c6 _ _ _ _ _ _ _ (tT a.m (by decide) (jO a rfl (hr.mono (by decide)) (bD gL cP))) (@c6 _ _ _ _ _ _ _ (tT d.m (by decide) (jO d rfl (hr.mono (by decide)) (bD cW cP))) (@c6 _ _ _ _ _ _ _ (tT e.m (by decide) (jO e rfl (hr.mono (by decide)) (bD cW cP))) (@c6 _ _ _ _ _ _ _ (pW cu.m (pV cu rfl (bD cW cP))) (@c6 _ _ _ _ _ _ _ (pW d5.m (pV d5 rfl (bD cW cP))) uS fX) fX) fX) fX) fX) fX) WJ)) rfl (by first|exact .inl rfl|exact .inr rfl))
   (@_a.dA _ _ 3 _ _ _ _ nd rfl (Or.inl rfl) (@Fd _ _ _ _ _ _ _ _ RT (pv 3) (@xZ _ _ _ _ (@c6 _ _ _ _ _ _ _ (pW ei.m (pV ei rfl (bD cW cP))) (@c6 _ _ _ _ _ _ _ (pW dv.m (pV dv rfl (bD cW cP))) (@c6 _ _ _ _ _ _ _ (pW da.m (pV da rfl (bD cW cP))) uS fX) fX) fX))) rfl (by first|exact .inl rfl|exact .inr rfl))
   (_a.cB (dG (Xf rfl) rfl T.Ao boot_all (aO (uK (N:=["_law_e"]) (js:=[none]) rfl (.own .nil) (by rfl) (U3 (pv 3))) bI))) (by decide) rfl
   (λcl C s0 H0 fp=>⟨(k6 (i:=0) (show(["_law_e"]:L9 Str).Nodup by decide +kernel) rfl (Or.inl rfl)),(pO (Iq rfl (eI b.c b.m h8 (eI g.c g.m jl (eI a.c a.m i_ (eI d.c d.m jq (eI e.c e.m jr (eI cu.c cu.m iy (eI d5.c d5.m iz (eI ei.c ei.m jk (eI dv.c dv.m iq (fP da.c da.m gr)))))))))) λD hD=>dG eW rfl T.dc BU (aO (pv 0) (aO (iD (v:=.ref D) rfl hD rfl) bI))) (pN (Ir rfl rfl (eJ b.c b.m gq (eJ g.c g.m ij (eJ a.c a.m et (eJ d.c d.m ik (eJ e.c e.m il (eJ cu.c cu.m eo (eJ d5.c d5.m hY (eJ ei.c ei.m ig (eJ dv.c dv.m hJ (eJ da.c da.m fy IU)))))))))) (dG eW rfl T.dc BU (aO (pv 0) (aO (o8 (v:=.ty "ValueError") rfl T.ji Mm rfl) bI))))))⟩)))))))
 refine gd dE 0 ["_law_signs","_law_cell_here","_law_some"] D (λ_ D=>?_)
 exact Rp (Sx (fb:=Dm) ["_law_script","_law_signs","_law_machine_here","_law_good","_law_at","_law_strip_here","_law_later","_law_which","_law_found","_law_fine","_law_sign"] FL (by symm) (λ_ k A outer s H F E hr nd=>by delta Dm Cy Cw Cu Cs Cr Cq zt Gh Cm Co Cn Dl;exact(_f.aJ (by symm) (_f.aJ (by symm) (_f.aJ (by symm) (_f.aJ (by symm) (_f.aJ (by symm) (_f.aJ (by symm) (_f.aJ (by symm) (_f.aJ (by symm) (_f.aJ (_f.lQ (_f.r7 (_f.o9 (yM (Et rfl rfl rfl (Ey z (hr.mono (by decide)) rfl (jW λ_ _ _ h=>h) (c6 (cS (fG lE i6 (bV (UP (G:=Ax) (dG Wl rfl T.Ap boot_abs (aO (by symm) bI)))) (bV (fG Tj W4 (by symm) (by symm))))) uS)))))) (by symm) _f.iE) (_f.aJ (by symm) (_f.bC (_f.cB (cS (pO (by symm) (pN (by symm)))))))))))))))))) Vg
end
section
variable{w:W9}{K:Frag}{h:Hz}{mg:Str->O9 V9}
theorem Qf(X:K.In h)(G:h.Ns mainGlobals mg){a:Nat}{d:Nat}{b:Az}(gj:nsIn K mainGlobals "ValueError"=some none)(tm:nsIn K mainGlobals "abs"=some none)(tj:nsIn K mainGlobals "all"=some none)(qk:nsIn K mainGlobals "bool"=some none)(hL:nsIn K mainGlobals "enumerate"=some none)(s_:nsIn K mainGlobals "int"=some none)(gi:nsIn K mainGlobals "isinstance"=some none)(sF:nsIn K mainGlobals "len"=some none)(qj:nsIn K mainGlobals "list"=some none)(sy:nsIn K mainGlobals "min"=some none)(nu:nsIn K mainGlobals "range"=some none)(sx:nsIn K mainGlobals "str"=some none)(nt:nsIn K mainGlobals "tuple"=some none)(sv:nsIn K mainGlobals "zip"=some none)(nz:nsIn K mainGlobals "BEGIN"=some (some (.ref c)))(oh:qK K c [.int 0,.int 0])(ec:nsIn K mainGlobals "MOST_BEGINNINGS"=some (some (.int 200 a)))(ny:nsIn K mainGlobals "SIGNS"=some (some (.str "abc" d)))(nv:nsIn K mainGlobals "STOPS"=some (some (.ref b)))(og:qK K b [.str "by",.str "out"]):Txt w K mg:=⟨BL X G gj,BL X G tm,BL X G tj,BL X G qk,BL X G hL,BL X G s_,BL X G gi,BL X G sF,BL X G qj,BL X G sy,BL X G nu,BL X G sx,BL X G nt,BL X G sv,⟨c,BP X G nz,oh⟩,⟨a,BP X G ec⟩,⟨d,BP X G ny⟩,⟨b,BP X G nv,og⟩⟩
theorem Pa{c m q:Str}(X:K.In h)(G:h.Ns mainGlobals mg){a:Az}{i:V9}{j n:O9 Az}{e:Array (O9 V9)}{l f d k:V9}(m2:nsIn K mainGlobals c=some (some (.ref C)))(p1:plainGet K C Str.empty=true)(p2:hasDictIn K C=true)(p3:plainOver K C=true)(p4:findIn K (.ref C) "__setattr__"=some (some (.builtin "object.__setattr__")))
  (k2:findIn K (.ref C) m=some (some (.ref a))) (k3:isFn K (.ref a)=true) (Ge:K.lookup a=some ⟨i,j,.func (fnOf m q (bT st) (aT st) (aD st) .none l f g n d k),e⟩) (Gf:codeIn K d q=true) (Ck:keepIn K (.ref a)=true)
  (b:∀ (kV doc pm:V9) (an:O9 Az) (c_ ct:V9) (us:L9 V9),us.length=1->bindArgs (fnOf m q (bT st) (aT st) (aD st) .none kV doc pm an c_ ct) ⟨us,[]⟩=pure ((["self"]:L9 Str).zip us)):vg K mg c m q st:=by
 have o:=jT (st:=st) Ge Gf Ck
 exact⟨C,a,_,BP X G m2,⟨p1,p2,p3,p4⟩,⟨k2,k3,Ck⟩,o,o.binds (ps:=["self"]) b⟩
theorem PX{c:Str}(X:K.In h)(G:h.Ns mainGlobals mg)(m2:nsIn K mainGlobals c=some (some (.ref C)))(p1:plainGet K C Str.empty=true)(p2:hasDictIn K C=true)(p3:plainOver K C=true)(p4:findIn K (.ref C) "__setattr__"=some (some (.builtin "object.__setattr__")))(n:findIn K (.ref C) x=some none):∃ C,mg c=some (.ref C)/\ky K C/\cQ K C x:=⟨C,BP X G m2,⟨p1,p2,p3,p4⟩,n⟩
theorem Qe(X:K.In h)(G:h.Ns mainGlobals mg){g b:L9 V9}{j p:Str}{d:Bool}{i:L9 Str}{a:O9 Bool}{e:O9 Az}{l o k n:O9 V9}{wd:O9 Az}{cd:ClassData}{f:Array (O9 V9)}
  (m:nsIn K mainGlobals x=some (some (.ref C)))
  (e1:K.lookup C=some (excClassObj j p C c g (.ref W::_d.kM) true i b d a e c0 l o k n "ValueError.__new__"))
  (e2:findIn K (.ref C) "__setattr__"=some (some (.builtin "object.__setattr__"))) (e3:findIn K (.ref C) "__getattribute__"=some (some (.builtin "BaseException.__getattribute__"))) (e4:findIn K (.ref C) "__getattr__"=some none) (e5:findIn K (.ref C) "__class__"=some (some (.builtin "object.__class__")))
  (e6:specialIn K (.builtin "object.__class__") "__get__"=some (some (.builtin "getset_descriptor.__get__"))) (e7:takesIn K (.builtin "object.__class__")=some true) (e8:keepIn K (.ref C)=true)
  (n1:nsOkIn K c=true) (n2:nsIn K c "__init__"=some none) (w1:K.lookup W=some ⟨q,wd,.cls cd,f⟩) (w2:nsOkIn K cd.ns=true) (w3:nsIn K cd.ns "__init__"=some none):∃ W C,m3 K mg x W C:=
 ⟨W,C,MG e1 e2 e3 e4 e5 e6 e7 e8,BP X G m,⟨_,_,c,_,_,_,_,_,_,_,_,_,_,_,e1,n1,n2⟩,⟨_,_,cd,_,w1,w2,w3⟩⟩
theorem K3{q:Str}(X:K.In h)(G:h.Ns mainGlobals mg){D:Az}(a:nsIn K mainGlobals q=some (some (.ref D)))(m:nsIn K mainGlobals nm=some (some (.ref C)))(k:kitOne K (.ref C) (.ref D)=some b):lq K mg nm q b:=⟨D,C,BP X G a,BP X G m,k⟩
theorem Sk{q:String}(X:K.In h)(G:h.Ns mainGlobals mg)(m:nsIn K mainGlobals nm=some (some (.ref C)))(k:kitOne K (.ref C) (.type q)=some b):mI K mg nm q b:=⟨C,BP X G m,k⟩
theorem PU(X:K.In h)(G:h.Ns mainGlobals mg){D A:Az}{o g w i c:L9 V9}{z j B:Str}{k s v:Bool}{q p:L9 Str}{d f:O9 Bool}{t u:O9 Az}{E I y F x w1 w2 w3 J:O9 V9}{e:String}
  (a:nsIn K mainGlobals "WayError"=some (some (.ref W))) (l:K.lookup W=some (excClassObj j B W A w c v p i s f u x w1 w2 w3 J e)) (b:c.contains (.type "BaseException")=true)
  (m:nsIn K mainGlobals nm=some (some (.ref C)))
  (e1:K.lookup C=some (excClassObj r z C D o (.ref W::_d.kM) true q g k d t c0 E I y F "ValueError.__new__")):xt K mg [nm]:=
 ⟨W,c,BP X G a,Lr l b,λn H=>by
  rw[AS.mp H]
  exact⟨C,_,BP X G m,Lr e1 (_d.wN W).hasBase,by simp⟩⟩
theorem xb{q:P9}(h:((recsOf q).any λd=>d.name == x)=true):∃ d∈recsOf q,d.name=x:=by
 obtain⟨d,a,e⟩:=List.any_eq_true.mp h
 exact⟨d,a,eq_of_beq e⟩
theorem Qd{i:Az}{j:O9 Az}{g:Array (O9 V9)}{kV b:V9}(X:K.In h)(G:h.Ns mainGlobals mg)(d:mg "law"=some (.ref i))(a:nsIn K mainGlobals "law"=some (some (.ref f)))(l:K.lookup f=some ⟨m,od,.func (fnOf "law" "law" (bT (top 72)) (aT (top 72)) (aD (top 72)) .none kV doc pm j b ct),g⟩)
  (c:codeIn K b "law"=true) (k:keepIn K (.ref f)=true):∃ fd,jt K "law" "law" (top 72) i fd/\∀ (s:S9) (u:V9),BindsTo s fd ⟨[u],[]⟩ [("_law_script",u)]:=by
 have e:=d.symm.trans (BP X G a)
 cases e
 exact⟨_,jT (st:=top 72) l c k,λs u=>.of_eq rfl⟩
end
end _e
open PySem.W
set_option hygiene false
local macro_rules | `(tactic| symm)=>`(tactic| ((try dsimp only[_a.hI]);refine' _e.NT KX G ?a ?l ?c ?k ?b;(case a=>k_is);(case l=>k_is);(case c=>k_is);(case k=>k_is);(case b=>exact λ_ _ _ _ _ _=>_e.Aj λ_=>rfl)))
local macro_rules | `(tactic| ac_rfl)=>`(tactic| ((try dsimp only[_a.hI]);refine' _e.Pd KX G ?m ?e1 ?e2 ?e3 ?e4 ?e5 ?e6 ?e7 ?e8 ?pf ?i1 ?i2 ?i3 ?i4 ?i5 ?bk;(case m=>k_is);(case e1=>k_is);(case e2=>k_is);(case e3=>k_is);(case e4=>k_is);(case e5=>k_is);(case e6=>k_is);(case e7=>k_is);(case e8=>k_is);(case i1=>k_is);(case i2=>k_is);(case i3=>k_is);(case i4=>k_is);(case i5=>k_is);(case pf=>intro f hf;simp only[AQ,BS,C8]at hf;first|(rcases hf with rfl|rfl<;>k_is)|(subst hf;k_is));first|(case bk=>exact λ_ _ _ _ _ _=>_e.G7 λ_ _=>rfl)|(case bk=>exact λ_ _ _ _ _ _=>_e.G6 λ_ _ _=>rfl)))
local macro_rules | `(tactic| and_intros)=>`(tactic| ((try dsimp only[_a.hI]);refine' _e.Qe KX G ?m ?e1 ?e2 ?e3 ?e4 ?e5 ?e6 ?e7 ?e8 ?n1 ?n2 ?w1 ?w2 ?w3;(case m=>k_is);(case e1=>k_is);(case e2=>k_is);(case e3=>k_is);(case e4=>k_is);(case e5=>k_is);(case e6=>k_is);(case e7=>k_is);(case e8=>k_is);(case n2=>k_is);(case w1=>k_is);(case w3=>k_is);(case n1=>refine' _a.Ml ?l ?h;(case l=>k_is);(case h=>rfl));(case w2=>refine' _a.Ml ?l ?h;(case l=>k_is);(case h=>rfl))))
local macro_rules | `(tactic| left)=>`(tactic| ((try dsimp only[_a.hI]);refine' _e.PU KX G ?a ?l ?b ?m ?e1;(case a=>k_is);(case m=>k_is);(case l=>k_is);(case e1=>k_is);(case b=>rfl)))
local macro_rules | `(tactic| right)=>`(tactic| ((try dsimp only[_a.hI]);refine' _e.K3 KX G ?a ?m ?k;(case a=>k_is);(case m=>k_is);(case k=>refine' _e.UM (by decide) ?a ?b ?c;(case a=>k_is);(case b=>k_is);(case c=>k_is))))
local macro_rules | `(tactic| exfalso)=>`(tactic| ((try dsimp only[_a.hI]);refine' _e.Sk KX G ?m ?k;(case m=>k_is);(case k=>refine' _e.RL (by decide) (by decide) ?c;(case c=>k_is))))
local macro_rules | `(tactic| eq_refl)=>`(tactic| ((try dsimp only[_a.hI]);refine' _e.Pb KX G ?m1 ?s1 ?r1 ?r2 ?r3 ?r4 ?q1 ?q2 ?q3 ?q4 ?q5 ?Dg ?Dh ?Ac ?m2 ?p1 ?p2 ?p3 ?p4 ?nf ?k1 ?k2 ?k3 ?k4 ?C0 ?Dc ?C_ ?O6 ?Jx;(case m1=>k_is);(case m2=>k_is);(case q4=>k_is);(case k2=>k_is);(case Dg=>k_is);(case C0=>k_is);(case s1=>k_is);(case r1=>k_is);(case r2=>k_is);(case r3=>k_is);(case r4=>k_is);(case q1=>k_is);(case q2=>k_is);(case q3=>k_is);(case q5=>k_is);(case Dh=>k_is);(case Ac=>k_is);(case p1=>k_is);(case p2=>k_is);(case p3=>k_is);(case p4=>k_is);(case k1=>k_is);(case k3=>k_is);(case k4=>k_is);(case Dc=>k_is);(case C_=>k_is);(case nf=>intro f hf;simp only[AQ,BS,C8]at hf;first|(rcases hf with rfl|rfl|rfl|rfl<;>k_is)|(rcases hf with rfl|rfl|rfl<;>k_is));first|(case O6=>exact λ_ _ _ _ _ _=>_e.G6 λ_ _ _=>rfl);first|(case Jx=>exact λ_ _ _ _ _ _=>_e.Jw λ_ _ _ _=>rfl)|(case Jx=>exact λ_ _ _ _ _ _=>_e.O4 λ_ _ _ _ _=>rfl)))
local macro_rules | `(tactic| subst_eqs)=>`(tactic| ((try dsimp only[_a.hI]);refine' _e.PX KX G ?m2 ?p1 ?p2 ?p3 ?p4 ?n;(case m2=>k_is);(case p1=>k_is);(case p2=>k_is);(case p3=>k_is);(case p4=>k_is);(case n=>k_is)))
local macro_rules | `(tactic| infer_instance)=>`(tactic| ((try dsimp only[_a.hI]);refine' _e.Pa KX G ?m2 ?p1 ?p2 ?p3 ?p4 ?k2 ?k3 ?Ge ?Gf ?Ck ?b;(case m2=>k_is);(case k2=>k_is);(case Ge=>k_is);(case p1=>k_is);(case p2=>k_is);(case p3=>k_is);(case p4=>k_is);(case k3=>k_is);(case Gf=>k_is);(case Ck=>k_is);(case b=>exact λ_ _ _ _ _ _=>_e.Aj λ_=>rfl)))
set_option hygiene true
set_option maxRecDepth 100000 in
set_option maxHeartbeats 0 in
theorem PySem.Challenge.cw_striproam_k45_strips_refused_by_all_holds : PySem.Challenge.rw_striproam_k45_strips_refused_by_all.Holds := by
 w_on;o_law;k_head;(case hw=>w_witness2)
 k_fill
 refine _f.UQ (l:=PySem.Challenge.rw_striproam_k45_strips_refused_by_all) (k:=18) (x:="_law_script") (qs:=_e.rn) (xs:=["sayer","one_way"]) ?hx ?xk rfl rfl ⟨rfl,by decide,by decide⟩ (λw h Yq=>PySem.W.km_in_of Yq) ?F
 case hx=>
  intro x hx
  simp only[AQ,BS,C8]at hx
  rcases hx with rfl|rfl<;>exact _e.xb (by decide +kernel)
 case xk=>
  intro w
  kernel_rfl
 case F=>
  intro w mg p h KX G f
  have qw:_f.xt (_a.hI KX) mg ["NoStrip"]:=by left
  have qv:_f.xt (_a.hI KX) mg ["TooMany"]:=by left
  have de:=(_f.RC qw qv)
  have km:∃ C,mg "LetBy"=some (.ref C)/\_a.ky (_a.hI KX) C/\_a.cQ (_a.hI KX) C "borders":=by subst_eqs
  have jb:∃ C,mg "ShutOut"=some (.ref C)/\_a.ky (_a.hI KX) C/\_a.cQ (_a.hI KX) C "borders":=by subst_eqs
  have kq:∃ C,mg "ForEver"=some (.ref C)/\_a.ky (_a.hI KX) C/\_a.cQ (_a.hI KX) C "again":=by subst_eqs
  have ko:∃ C,mg "ForEver"=some (.ref C)/\_a.ky (_a.hI KX) C/\_a.cQ (_a.hI KX) C "first":=by subst_eqs
  have mN:∃ C,mg "LetBy"=some (.ref C)/\_a.ky (_a.hI KX) C/\_a.cQ (_a.hI KX) C "room":=by subst_eqs
  have lr:∃ C,mg "ShutOut"=some (.ref C)/\_a.ky (_a.hI KX) C/\_a.cQ (_a.hI KX) C "room":=by subst_eqs
  have lu:∃ C,mg "ForEver"=some (.ref C)/\_a.ky (_a.hI KX) C/\_a.cQ (_a.hI KX) C "room":=by subst_eqs
  have mm:∃ C,mg "LetBy"=some (.ref C)/\_a.ky (_a.hI KX) C/\_a.cQ (_a.hI KX) C "place":=by subst_eqs
  have kl:∃ C,mg "ShutOut"=some (.ref C)/\_a.ky (_a.hI KX) C/\_a.cQ (_a.hI KX) C "place":=by subst_eqs
  have kn:∃ C,mg "ForEver"=some (.ref C)/\_a.ky (_a.hI KX) C/\_a.cQ (_a.hI KX) C "place":=by subst_eqs
  have j:∃ fd,_a.jt (_a.hI KX) "law" "law" (_e.top 72) p fd/\∀ (s:S9) (u:V9),BindsTo s fd ⟨[u],[]⟩ [("_law_script",u)]:=by
   dsimp only[_a.hI]
   refine' _e.Qd KX G f ?a4 ?l4 ?c4 ?k4
   (case a4=>k_is);(case l4=>k_is);(case c4=>k_is);(case k4=>k_is)
  obtain⟨fd,n,o⟩:=j
  exact⟨fd,o,λbase TH _ _ i=>_e.Sl (by(try dsimp only[_a.hI]);refine' _e.Qf KX G ?gj ?tm ?tj ?qk ?hL ?s_ ?gi ?sF ?qj ?sy ?nu ?sx ?nt ?sv ?nz (_e.RM ?oh) ?ec ?ny ?nv (_e.RN ?og);(case gj=>k_is);(case tm=>k_is);(case tj=>k_is);(case qk=>k_is);(case hL=>k_is);(case s_=>k_is);(case gi=>k_is);(case sF=>k_is);(case qj=>k_is);(case sy=>k_is);(case nu=>k_is);(case sx=>k_is);(case nt=>k_is);(case sv=>k_is);(case nz=>k_is);(case oh=>k_is);(case ec=>k_is);(case ny=>k_is);(case nv=>k_is);(case og=>k_is)) (by repeat (first|exact .nil|refine .cons (by(try dsimp only[_a.hI]);refine' _e.NT KX G ?a ?l ?c ?k ?b;(case a=>k_is);(case l=>k_is);(case c=>k_is);(case k=>k_is);first|(case b=>exact λ_ _ _ _ _ _=>_e.Aj λ_=>rfl)|(case b=>exact λ_ _ _ _ _ _=>_e.G7 λ_ _=>rfl)|(case b=>exact λ_ _ _ _ _ _=>_e.G6 λ_ _ _=>rfl)|(case b=>exact λ_ _ _ _ _ _=>_e.Jw λ_ _ _ _=>rfl)) ?_)) (by ac_rfl) (by ac_rfl) (by ac_rfl) (by ac_rfl) (by ac_rfl) (by and_intros) (by and_intros) (by and_intros) (by and_intros) (by and_intros) de (by(try dsimp only[_a.hI]);refine' _e.K3 KX G ?a ?m ?k;(case a=>k_is);(case m=>k_is);(case k=>exact _e.V5)) (by right) (by exfalso) (by exfalso) (by right) (by right) (by right) (by right) (by right) (by right) (by right) (by right) (by exfalso) (by exfalso) (by exfalso) (by exfalso) (by exfalso) (by exfalso) (by exfalso) (by exfalso) (by right) (by right) (by right) (by right) (by right) (by right) (by right) (by right) (by right) (by right) (by eq_refl) (by eq_refl) (by eq_refl) (by intro nm e;simp only[AQ,BS,C8]at e;rcases e with rfl|rfl;exact km;exact jb) (by intro nm e;simp only[AQ,BS,C8]at e;rcases e with rfl;exact kq) (by intro nm e;simp only[AQ,BS,C8]at e;rcases e with rfl;exact ko) (by intro nm e;simp only[AQ,BS,C8]at e;rcases e with rfl|rfl|rfl;exact mN;exact lr;exact lu) (by intro nm e;simp only[AQ,BS,C8]at e;rcases e with rfl|rfl|rfl;exact mm;exact kl;exact kn) (by infer_instance) (by infer_instance) (by infer_instance) (by infer_instance) (by infer_instance) (by infer_instance) (by infer_instance) (by infer_instance) (by infer_instance) (_f.Ae (by symm) KX i (by decide)) (_f.Ae (by symm) KX i (by decide)) (by(try dsimp only[_a.hI]);refine' _e.rp KX G ?a ?l ?d ?c ?k ?b ?b2;(case a=>k_is);(case l=>k_is);(case d=>k_is);(case c=>k_is);(case k=>k_is);(case b=>exact λ_ _ _ _ _ _ _ u us g=>match us,g with|[_,_,_,_],_=>⟨_,rfl,rfl⟩);(case b2=>exact λ_ _ _ _ _ _ _ u us g=>match us,g with|[_,_,_],_=>⟨_,rfl,rfl⟩)) n⟩
end
