import PyProof.Rows.All
import Wide.All
import OpenK.AllK
import Wide.FinOn
import Lean
import PyProof.EqAt
import PyProof.EqKinds
import PyProof.TupleCall
import PyProof.ExcInit
import PyProof.InstStoreFacts
import PyProof.StrLawsFirst
import PyProof.StrLawsIn
import KE.KLam
import PyProof.ListMulRoad
import PyProof.Rows.ListMul
import PyProof.ZipIter
import PyProof.Draws
import PyProof.ListStr
import PyProof.DictWalks
import PyProof.DictTruth
import PyProof.ListRange
import PyProof.StrLaws
import PyProof.StrLawsIdx
import PyProof.AttrMissHeap
import PyProof.StrBlock2
import PyProof.P3In
import PyProof.Rows.StrClip
import PySem.Challenge.RW_striproam_k43_whole_all_roads
set_option linter.all false
set_option maxRecDepth 100000
set_option maxHeartbeats 4000000
set_option Elab.async false
set_option genSizeOf false
set_option compiler.extract_closed false
set_option bootstrap.genMatcherCode false
open PySem.W (instObj of_hideAll lookIn plainGet findIn isFn plainGet_of plainOver takerIn hasDictIn makesIn typeIn emptyDict keepIn specialIn takesIn kitOne kitx_tuple kitx_dict fnOf codeIn codeRec_of nsIn CodeHd tabObj noTabs OpenLaw WalkO pyHash_slot callWith_F readsIn findCls subIn)
open List (range replicate length Nodup foldl)
open PySem.SeqAt (shaped readOf)
open PyProof.Rows (boot_min boot_zip boot_int boot_str boot_max boot_abs)
set_option hygiene false
local macro_rules
|`(tactic|ext)=>`(tactic|first
 |(with_reducible first
  |assumption
  |exact Nat.zero_le _
  |exact Nat.le_refl _
  |exact Int.natCast_nonneg _
  |exact Nat.le_of_lt (by assumption)
  |exact Nat.le_trans (by assumption) (by decide)
  |exact Nat.lt_of_le_of_lt (by assumption) (by decide)
  |exact Nat.lt_of_lt_of_le (by assumption) (by decide)
  |exact Nat.lt_of_lt_of_le (by assumption) (by assumption)
  |exact Nat.lt_of_le_of_lt (by assumption) (by assumption)
  |exact Nat.le_trans (by assumption) (by assumption)
  |exact Nat.le_trans (Nat.le_of_lt (by assumption)) (by assumption)
  |exact Int.ofNat_lt.mpr (by assumption)
  |exact Int.ofNat_le.mpr (by assumption))
 |omega|grind)
set_option hygiene true
abbrev D4:=PySem.PyData
abbrev V9:=PySem.Value
abbrev S9:=PySem.Shared
abbrev Az:=PySem.Addr
abbrev P9:=PySem.Program
abbrev W9:=PySem.World
abbrev Hz:=PySem.Heap
abbrev Ez:=PySem.Expr
abbrev U9:=PySem.Around
abbrev O9(α:Type):=Option α
abbrev L9(α:Type):=List α
theorem z0(a:True:=by rfl):True:=a
def z3:Lean.Syntax:=z0._auto_1
theorem z4(a:True:=by decide):True:=a
def z5:Lean.Syntax:=z4._auto_1
namespace PySem.W.Fast
def tw4793601232404530509:=0
def tw4987560653342699409:=0
def tw8817978853670197000:=0
def tw5424266610962551517:=0
def tw16963857737791079689:=0
def tw14892462755258228460:=0
def tw3170538300501407843:=0
def tw2212186045675085584:=0
def tw3271214749443563901:=0
def tw2042960488749923732:=0
def tw17726157174511036027:=0
def tw4030910439149218185:=0
def tw7383560166366662440:=0
def tw11394015145810597922:=0
def tw15915742183715489245:=0
def tw4702337988506900955:=0
def tw13416748987903374809:=0
def tw14818327884270517577:=0
def tw3305354606661206764:=0
def tw15546192645711368670:=0
def tw5697225467813511144:=0
def tw12301026498260767510:=0
def tw891807855901448708:=0
def tw11705781346369895373:=0
def tw14519064650975754746:=0
def tw14384309737122005731:=0
def tw11923712285574730764:=0
def tw17073447236577833201:=0
def tw12985730435635936635:=0
def tw743502587908278643:=0
def tw11990449755660269608:=0
def tw4989879482835054022:=0
def tw16706405665436564164:=0
def tw9956510347144897762:=0
def tw9728642056888129153:=0
def tw15404858466490979505:=0
def tw3499018563580642858:=0
def tw10443799359958651651:=0
def tw3624173441384817035:=0
def tw15438154533103509282:=0
def tw17417859021405721627:=0
def tw15839758944357015342:=0
def tw9669982010124476554:=0
def tw15811714152682649380:=0
def tw17528764141770267229:=0
def tw18111483801328693459:=0
def tw4975781571419227680:=0
def tw817340757574120013:=0
def tw10971538893459711348:=0
def tw8230820929856902339:=0
def tw15252123091445129179:=0
def tw12021057030080845540:=0
def tw4927937047860634110:=0
def tw6682371616176381142:=0
def tw15604424669033271185:=0
def tw12514668552931990277:=0
def tw1954087523137339986:=0
def tw12871695050928296897:=0
def tw11406339350498668406:=0
def tw11738561392723863351:=0
def tw2873983258459494131:=0
def tw11128981914969264989:=0
def tw9414910116064337693:=0
def tw853037221888274961:=0
def tw4614887447350804487:=0
def tw2078863117742346769:=0
def tw16517960117110280000:=0
def tw12329509608471866871:=0
def tw4284252363229159734:=0
def tw14543018263447048470:=0
def tw9364855888880531944:=0
def tw18207559561658519215:=0
def tw15453847435413745343:=0
def tw13305925553742550140:=0
def tw11588357706706840704:=0
def tw17535342246082012337:=0
def tw5868531891547847069:=0
def tw17391957703190361340:=0
def tw10904377210155213558:=0
def tw2195755795602819850:=0
def tw864312300395297383:=0
def tw9078685707153876951:=0
def tw8305011981933065667:=0
def tw3390191184722930427:=0
def tw8743632947984152468:=0
def tw13929096097655765271:=0
def tw3130322099643357183:=0
def tw11220448978486502261:=0
def tw7078190184260585003:=0
def tw6621670076665046545:=0
def tw1279314222345146958:=0
def tw15525938341536115506:=0
def tw10837715454931675282:=0
def tw17379670379426178141:=0
def tw8213730121607704886:=0
def tw3682592420660426425:=0
def tw10533568099632808443:=0
def tw13420080301464833428:=0
def tw7436945431487830032:=0
def tw13738033172392494674:=0
def tw7949264467527604720:=0
def tw9904037126656852296:=0
def tw6324319335394200682:=0
def tw7096691643570030490:=0
def tw17743436712857657230:=0
def tw178001973691782861:=0
def tw15286518990426455879:=0
def tw283211066613783804:=0
def tw16411626533465569537:=0
def tw11931637414668149849:=0
def tw14244554959703995889:=0
def tw14117481247634186320:=0
def tw15912326037194658829:=0
def tw9860414036833256712:=0
def tw14111054370282057372:=0
def tw1823675967005254760:=0
def tw13248800392238103154:=0
def tw13664625847927674121:=0
def tw2670360958740074081:=0
def tw3388984739707317228:=0
def tw12570092544497050856:=0
def tw236387088362572509:=0
def tw17260354064047841692:=0
def tw6559969320574699431:=0
def tw480008107267474562:=0
def tw14572629020816713722:=0
def tw4005299675547714695:=0
def tw745434270513484782:=0
def tw12830818313954607994:=0
def tw13020187344088006183:=0
def tw1790762191206152277:=0
def tw15724794144805106185:=0
def tw340519965137714774:=0
def tw3058729795139242351:=0
def tw9238085897347713449:=0
def tw8441746722108698805:=0
def tw3038684836705392315:=0
def tw16849879135481185276:=0
def tw8968851322931825746:=0
def tw15455272544179672612:=0
def tw12686158129196032032:=0
def tw2014725009757368253:=0
def tw13490102296143270215:=0
def tw14804155484978544340:=0
def tw11629842864402020649:=0
def tw4506264090342573391:=0
def tw4288579997866542968:=0
def tw6287857889470995041:=0
def tw9940989182294287844:=0
def tw4633877469619499507:=0
def tw10063151266144821001:=0
def tw17130875096845753774:=0
def tw15893591607294368946:=0
def tw2832398518369952234:=0
def tw9601228828149421725:=0
def tw540283231128238851:=0
def tw12967992327077937633:=0
def tw10539284431644587620:=0
def tw13123980279855003136:=0
def tw10597343972239476839:=0
def tw16463888716365766479:=0
def tw1178717215377006349:=0
def tw15900438306006997188:=0
def tw8909546857541271808:=0
def tw6376121734756062712:=0
def tw17580680923528162211:=0
def tw14294739399828083201:=0
def tw15690801039962598762:=0
def tw3886711500380650642:=0
def tw11993538753446616817:=0
def tw724063925879987437:=0
def tw17299550598482438556:=0
def tw11130136465831170952:=0
def tw4477359279493040848:=0
def tw12105324239515108077:=0
def tw9687703762473803432:=0
def tw355663195762420816:=0
def tw15510972054179588220:=0
def tw4365620413207441228:=0
def tw5709212160209192210:=0
def tw16469020258353274397:=0
def tw1671691562598732450:=0
def tw7826681670384422387:=0
def tw2501059777371281442:=0
def tw5095183746870182772:=0
def tw12160007269337160224:=0
def tw11875021974670053560:=0
def tw14157493769413954374:=0
def tw6348392427989045212:=0
def tw11551008672253960062:=0
def tw3778137545363024359:=0
def tw7314251458631764851:=0
def tw4498170245660962563:=0
def tw3915176726144623352:=0
def tw13427328278825366333:=0
def tw2235763823575756967:=0
def tw14797885535217146914:=0
def tw13572356526018455829:=0
def tw15211784016111156130:=0
def tw5954403909934287233:=0
def tw3223587681288806541:=0
def tw8623966549263747040:=0
def tw12906048373130514003:=0
def tw4943360022185000702:=0
def tw5297394826918104356:=0
def tw10344464447319787165:=0
def tw9038137677519170338:=0
def tw13986004805274028957:=0
def tw8936704200738008565:=0
def tw11468018097738225985:=0
def tw730863043234656250:=0
def tw1273904316986720851:=0
def tw11637881390531680294:=0
def tw9242637664326715362:=0
def tw4276984210406980196:=0
def tw1319720967607096311:=0
def tw456869291903636193:=0
def tw6619253582517905332:=0
def tw2449758092715409738:=0
def tw8476058203108893437:=0
def tw16869060471443008747:=0
def tw16548139100162382204:=0
def tw1553196808512311484:=0
def tw3298515829753170161:=0
def tw11238015792428975105:=0
def tw14951342545465677849:=0
def tw3149692898348398625:=0
def tw15199357111043762419:=0
def tw9217644393821250926:=0
def tw6288926505283800037:=0
def tw13967313707933851533:=0
def tw7967876622323313664:=0
def tw14835724666793310028:=0
def tw12329910024722272595:=0
def tw3911420439176628395:=0
def tw9689632215790028562:=0
def tw7543335943819997106:=0
def tw14133923873110430248:=0
def tw2508312654596303961:=0
def tw15510968232855284675:=0
def tw9597175174482860189:=0
def tw14379311181246769111:=0
def tw15278809932223890420:=0
def tw3139718329979291647:=0
def tw13636408128773626844:=0
def tw14405260517114959918:=0
def tw8898022375430459969:=0
def tw15213564406091978082:=0
def tw15158735384431199167:=0
def tw2539130200787174854:=0
def tw6784983284828949333:=0
def tw2999948862353997265:=0
def tw4820520229799055149:=0
def tw11635775544536836350:=0
def tw9690831279390792072:=0
def tw5028566950283780239:=0
def tw4811400041154386507:=0
def tw15536423541544770441:=0
def tw10143990636885091358:=0
def tw9211722968998327821:=0
def tw11845934998750694724:=0
def tw14966829956091774503:=0
def tw297583496828416953:=0
def tw10646802216147760305:=0
def tw1815448447205555490:=0
def tw7825648546666286871:=0
def tw6359351124625078942:=0
def tw14960360941029102555:=0
def tw8988896536014400189:=0
def tw7422042491261080585:=0
def tw12910537588609709247:=0
def tw4222402093769039725:=0
def tw4830388888261725311:=0
def tw5612336325068402633:=0
def tw3857469366128453160:=0
def tw14192000162303553616:=0
def tw2754114301962020601:=0
def tw15758620114168531700:=0
def tw2183583156301844878:=0
def tw18418567709199618246:=0
def tw17770682297449070848:=0
def tw8040705423668995049:=0
def tw2200979741565315832:=0
def tw17852427799839760243:=0
def tw3332882770402190981:=0
def tw10932580476923663226:=0
def tw5771615777813988343:=0
def tw18096222830034578188:=0
def tw14247662949568139878:=0
def tw961691623342624363:=0
def tw927633984839073650:=0
def tw2341989551410088922:=0
def tw18329257072080822534:=0
def tw18169096455709686622:=0
def tw7925517429051490565:=0
def tw12005882062402415312:=0
def tw6662510634158247875:=0
def tw12642354637235610829:=0
def tw871336024802353902:=0
def tw17159831533059238813:=0
end PySem.W.Fast
def AA:=@PySem.wpAny_bind
def AB:=@PySem.Heap.get?_push_of_some
def AC:=@List.length_map
def AD:=@List.mem_of_getElem?
def AE:=@List.getElem?_map
def AG:=@List.getElem?_eq_some_iff
def AH:=@PySem.wpAny_pure
def AI:=@List.getElem?_eq_getElem
def AJ:=@if_pos
def AK:=@List.getD_eq_getElem?_getD
def AL:=@if_neg
def AM:=@Nat.le_refl
def AN:=@List.getElem?_cons_succ
def AQ:=@PySem.Heap.lt_size
def AS:=@List.getElem?_cons_zero
def AT:=@List.length_cons
def AU:=@List.mem_cons_of_mem
def AV:=@List.mem_cons
def AW:=@List.map_cons
def AX:=@List.set_cons_zero
def AY:=@PySem.Heap.get?_push_size
def AZ:=@List.mem_singleton
def A0:=@List.set_cons_succ
def A1:=@List.mem_map
def A2:=@decide_eq_true
def A3:=@Nat.lt_of_lt_of_le
def A4:=@List.mem_cons_self
def A5:=@List.length_nil
def A6:=@List.map_map
def A7:=@List.length_append
def A8:=@List.cons_append
def A9:=@List.map_congr_left
def BA:=@decide_eq_false
def BB:=@Nat.le_trans
def BC:=@of_decide_eq_true
def BD:=@List.nil_append
def BE:=@List.map_nil
def BF:=@List.getElem?_append_left
def BG:=@Nat.ne_of_lt
def BH:=@PySem.mem_of_lookup
def BI:=@List.mem_range
def BJ:=@Bool.and_eq_true
def BK:=@List.getElem?_set_ne
def BL:=@List.map_append
def BM:=@List.length_range
def BN:=@List.getElem?_range
def BO:=@List.mem_append
def BP:=@PySem.Heap.size_push
def BQ:=@Ne.symm
def BR:=@if_true
def BS:=@Nat.le_of_lt
def BU:=@PySem.W.mg_none_of
def BV:=@Option.some.inj
def BW:=@PySem.wpAny_mono
def BX:=@List.mem_append_right
def BY:=@PySem.wpAny_field
def BZ:=@Bool.false_eq_true
def B0:=@Nat.lt_irrefl
def B1:=@PySem.W.kia_one
def B2:=@Int.emod_nonneg
def B3:=@Int.emod_lt_of_pos
def B4:=@List.getElem?_set_self
def B5:=@Nat.zero_le
def B6:=@List.length_take
def B7:=@List.lookup_cons
def B8:=@List.not_mem_nil
def B9:=@PySem.Heap.SameBut.update
def CA:=@List.size_toArray
def CB:=@List.length_set
def CC:=@PyProof.Rows.callWith_type1
def CD:=@List.getElem?_append_right
def CF:=@PySem.W.mg_of
def CG:=@List.take_of_length_le
def CH:=@PySem.Heap.get?_update_self
def CI:=@List.length_replicate
def CJ:=@Nat.ne_of_gt
def CK:=@List.all_eq_true
def CL:=@PySem.wpAny_holding
def CM:=@Int.le_refl
def CN:=@List.nodup_append
def CO:=@List.nodup_cons
def CP:=@PySem.Heap.get?_update_other
def CQ:=@PySem.wpAny_setField_rec
def CS:=@List.length_singleton
def CT:=@List.mem_append_left
def CU:=@List.take_add_one
def CV:=@List.getElem?_replicate
def CW:=@List.length_reverse
def CY:=@List.getElem_mem
def CZ:=@List.mem_filterMap
def C0:=@PySem.wpAny_Call_Name_kw
def C3:=@PySem.W.callWith_K
def C4:=@PySem.wpAny_passesOwn
def C5:=@List.append_nil
def C6:=@beq_false_of_ne
def C7:=@List.find?_cons
def C8:=@if_false
def C9:=@PySem.F.slot_tuple_iterator_next
def DA:=@Classical.byContradiction
def DB:=@PySem.wpAny_seqItems
def DC:=@Nat.lt_succ_self
def DD:=@congrArg
def DE:=@or_false
def DF:=@List.mem_map_of_mem
def DG:=@Int.toNat_of_nonneg
def DH:=@PyProof.Rows.slot_tuple_getitem
def DI:=@PySem.wpAny_callSpecial?_slot
def DJ:=@List.forIn_cons
def DK:=@PySem.Obj.data_mapFields
def DL:=@Bool.or_eq_true
def DM:=@List.map_singleton
def DN:=@Nat.lt_trichotomy
def DO:=@List.nodup_nil
def DP:=@Array.getElem?_toList
def DQ:=@PySem.F.slot_dict_setdefault
def DR:=@PySem.wpAny_call_entry
def DS:=@PySem.call_meets
def DT:=@beq_self_eq_true
def DU:=@PySem.Obj.data_mapDictKeys
def DV:=@List.getElem?_of_mem
def DW:=@Array.getElem?_eq_some_iff
def DX:=@List.filterMap_cons
def DY:=@Array.length_toList
def DZ:=@List.of_mem_zip
def D5:=@List.foldl_cons
def D6:=@List.pairwise_iff_getElem
def D7:=@List.drop_eq_getElem_cons
def D8:=@Nat.le_of_eq
def D9:=@PySem.codeAny_mono
def EA:=@List.getElem?_take_of_lt
def EB:=@Bool.false_ne_true
def EC:=@List.length_zipIdx
def ED:=@List.getElem?_take
def EE:=@PySem.wpAny_setField
def EF:=@PyProof.Rows.boot_tuple
def EG:=@PySem.F.plainAttrs_list
def EH:=@PySem.wpAny_newObj_type
def EI:=@PySem.wpAny_pyIter_enum
def EJ:=@List.ext_getElem?
def EK:=@PySem.W.cellsFrom_some
def EL:=@PySem.wpAny_execs_cons
def EM:=@List.length_drop
def EN:=@PySem.F.slot_tuple_mul
def EO:=@Option.bind_some
def EQ:=@PySem.codeAny_call_function
def ER:=@PySem.Obj.isFreed_of_fields
def ES:=@List.take_append_drop
def ET:=@List.getElem?_eq_none
def EU:=@PySem.wpAny_execs_nil
def EV:=@Nat.lt_trans
def EW:=@List.mem_iff_getElem
def EX:=@List.cons.injEq
def EY:=@PySem.F.slot_int_rmul
def EZ:=@PySem.F.args_dict_setdefault_3
def E1:=@List.mem_of_mem_take
def E2:=@PyProof.Rows.slot_str_getitem
def E3:=@PySem.F.entry_dict_setdefault
def E4:=@List.take_append_of_le_length
def E5:=@List.replicate_succ
def E6:=@PySem.F.args_tuple_iterator_next_1
def E7:=@Nat.mul_le_mul
def E8:=@Nat.le_succ
def E9:=@PyProof.Rows.boot_enumerate
def FA:=@Nat.lt_of_le_of_lt
def FB:=@PySem.F.entry_tuple_iterator_next
def FC:=@PySem.Calls.Name_function_global
def FD:=@PySem.wpAny_standAt
def FF:=@PySem.wpAny_newFunctionEnv_cells
def FG:=@PySem.F.excAttr_ValueError
def FH:=@Bool.true_and
def FJ:=@PySem.wpAny_letOwnedTupleGo_enum
def FK:=@PySem.wpAny_truthy_bool
def FM:=@PySem.W.kitx_list
def FN:=@Bool.eq_false_iff
def FP:=@PySem.StrLaws.subAt_one
def FQ:=@List.append_assoc
def FR:=@Option.isSome_map
def FS:=@PySem.wpAny_call
def FT:=@PySem.typeIs_int
def FU:=@Nat.not_lt
def FV:=@Option.isNone_iff_eq_none
def FW:=@PySem.wpAny_binaryOp_repeat_ref
def FX:=@PySem.wpAny_rule
def FY:=@Option.isSome_iff_exists
def FZ:=@PySem.F.args_tuple_add_2
def F5:=@PySem.wpAny_comprehension_free
def F7:=@List.Pairwise.imp_of_mem
def GA:=@List.drop_length
def GB:=@Nat.zero_add
def GC:=@Option.bind_none
def GD:=@PySem.F.slot_list_append
def GE:=@PySem.F.type_list_append
def GF:=@PySem.F.entry_tuple_add
def GG:=@List.length_eq_zero_iff
def GH:=@PySem.wpAny_getItem_str_slice
def GI:=@PySem.wpAny_pyNext_enum_itemD
def GJ:=@Nat.lt_add_of_pos_right
def GK:=@PySem.F.slot_list_index
def GL:=@PySem.pushCells_keeps
def GM:=@Nat.min_le_left
def GN:=@PySem.F.slot_zip_next
def GO:=@List.length_zip
def GP:=@PySem.F.slot_tuple_add
def GQ:=@PySem.wpAny_Call_method_late
def GR:=@PySem.Calls.callWith_builtin
def GS:=@PySem.wpAny_pyNext_enum_endD
def GT:=@PySem.F.plainAttrs_str
def GU:=@PySem.W.methodCall_KW
def GV:=@List.filterMap_append
def GW:=@boot_min
def GX:=@PySem.wpAny_attempt
def GY:=@Int.add_comm
theorem _e.bn1{α:Type}{P:L9 α->Prop}(h:∀ a,P [a]):∀ us:L9 α,us.length=1->P us
 | [a],_=>h a
theorem _e.bn2{α:Type}{P:L9 α->Prop}(h:∀ a b,P [a,b]):∀ us:L9 α,us.length=2->P us
 | [a,b],_=>h a b
theorem _e.bn3{α:Type}{P:L9 α->Prop}(h:∀ a b c,P [a,b,c]):∀ us:L9 α,us.length=3->P us
 | [a,b,c],_=>h a b c
theorem _e.bn4{α:Type}{P:L9 α->Prop}(h:∀ a b c d,P [a,b,c,d]):∀ us:L9 α,us.length=4->P us
 | [a,b,c,d],_=>h a b c d
theorem _e.bn5{α:Type}{P:L9 α->Prop}(h:∀ a b c d e,P [a,b,c,d,e]):∀ us:L9 α,us.length=5->P us
 | [a,b,c,d,e],_=>h a b c d e
open PySem.W (Frag)
open PySem PyProof.Rows PySem.Spec
noncomputable section
variable{us:L9 V9}{a b it C f:Az}{α β:Type}{P:P9}{o:Obj}{t' i j k n c:Nat}{ch:L9 Az}{x m qual name:Str}{N ps:L9 Str}{E Q:V9->S9->Prop}{u v cd doc pm ct:V9}{s' s:S9}{ap:L9 (Az×Obj)}{K:Frag}{pos' apos:Pos}{body:L9 Stmt}{vs:Array V9}{g:Int->Int->Int}{mA mg:Str->O9 V9}{outer:L9 Env}{kindOf:Str->O9 NameKind}{scope:Scope}{od:O9 Az}
namespace _a
variable{H:Hp}{M:Model}{Z:St}{es:L9 Ez}{tg:Ez}{te:TE}{pl:Sem Bool}{r:R2}{base:Hz}{CX:CXT}
abbrev Key:=Sum Int Str
noncomputable def uA:Key->V9->Bool
 | .inl k,v=>Value.isInt k v
 | .inr x,v=>Value.isStrOf x v
noncomputable def aZC(w:W9):Key->Int
 | .inl k=>hashInt k
 | .inr x=>hashStr w x
theorem keyIs_shape:∀ {k:Key} {v:V9},uA k v=true->(∃ i t,k=Sum.inl i/\v=Value.int i t)\/(∃ x t,k=Sum.inr x/\v=Value.str x t)
 | .inl i,v,h=>by
  obtain⟨t,e⟩:=Value.isInt_shape h
  exact .inl ⟨i,t,rfl,e⟩
 | .inr x,v,h=>by
  obtain⟨t,e⟩:=Value.isStrOf_shape h
  exact .inr ⟨x,t,rfl,e⟩
theorem aJG(i:Int)(t:Tok):uA (.inl i) (.int i t)=true:=by simp[uA,Value.isInt]
theorem aJH(x:Str)(t:Tok):uA (.inr x) (.str x t)=true:=by simp[uA,Value.isStrOf]
theorem aT9(a b:Int):decide ((Sum.inl a:Key)=Sum.inl b)=(a == b):=by
 ext
theorem aUA(a b:Str):decide ((Sum.inr a:Key)=Sum.inr b)=decide (a=b):=by
 simp
theorem aUB(a:Int)(b:Str):decide ((Sum.inl a:Key)=Sum.inr b)=false:=BA (λq=>nomatch q)
theorem aUC(a:Str)(b:Int):decide ((Sum.inr a:Key)=Sum.inl b)=false:=BA (λq=>nomatch q)
noncomputable def dP(prog:P9)(w:W9):PySem.KeyKind prog w Key where
 is:=uA
 hash:=aZC w
 inj:=λv a b ha hb=>by
  rcases keyIs_shape ha with ⟨i,t,rfl,rfl⟩|⟨x,t,rfl,rfl⟩
  .rcases keyIs_shape hb with ⟨j,u,rfl,e⟩|⟨y,u,rfl,e⟩
   · injection e with e1 _; rw [e1]
   · exact nomatch e
  .rcases keyIs_shape hb with ⟨j,u,rfl,e⟩|⟨y,u,rfl,e⟩
   · exact nomatch e
   · injection e with e1 _; rw [e1]
 byValue:=λk v h=>by
  rcases keyIs_shape h with ⟨i,t,rfl,rfl⟩|⟨x,t,rfl,rfl⟩<;>rfl
 pyHash:=λhv h=>by
  rcases keyIs_shape hv with ⟨i,t,rfl,rfl⟩|⟨x,t,rfl,rfl⟩
  .exact wpAny_pyHash_int h
  .exact wpAny_pyHash_str h
 eqBool:=λhu hv h=>by
  rcases keyIs_shape hu with ⟨i,t,rfl,rfl⟩|⟨x,t,rfl,rfl⟩
  .rcases keyIs_shape hv with ⟨j,u,rfl,rfl⟩|⟨y,u,rfl,rfl⟩
   · rw [aT9]at h; exact wpAny_eqBool_int h
   · rw [aUB]at h; exact SeqAt.EqAt.int_str i t y u _ _ _ _ h
  .rcases keyIs_shape hv with ⟨j,u,rfl,rfl⟩|⟨y,u,rfl,rfl⟩
   · rw [aUC]at h; exact SeqAt.EqAt.str_int x t j u _ _ _ _ h
   · rw [aUA]at h; exact wpAny_eqBool_str h
 «strs»:=λk x t v h=>by
  rcases keyIs_shape h with ⟨i,u,rfl,e⟩|⟨y,u,rfl,e⟩
  .exact nomatch e
  .injection e with e1 _
   subst e1
   cases v<;>rfl
theorem aEZ(prog:P9)(w:W9)(i:Int)(t:Tok):(dP prog w).is (.inl i) (.int i t)=true:=aJG i t
theorem aE0(prog:P9)(w:W9)(x:Str)(t:Tok):(dP prog w).is (.inr x) (.str x t)=true:=aJH x t
inductive V where
 | non|bl (b:Bool)|int (i:Int)|str (x:Str)|byt (b:Array UInt8)|flt (b:UInt64)|ref (a:Az)|ty (n:String)
 deriving DecidableEq
def aV:V->V9->Prop
 | .non,u=>u=Value.none
 | .bl b,u=>u=Value.bool b
 | .int i,u=>∃ t,u=Value.int i t
 | .str x,u=>∃ t,u=Value.str x t
 | .byt b,u=>∃ t,u=Value.bytes b t
 | .flt b,u=>∃ t,u=Value.float b t
 | .ref a,u=>u=Value.ref a
 | .ty n,u=>u=Value.type n
abbrev a8:L9 V->L9 V9->Prop:=Paired aV
theorem a8.length{xs:L9 V}(r:a8 xs us):xs.length=us.length:=Paired.length r
theorem a8.get:∀ {xs:L9 V} {us:L9 V9} {i:Nat} {x:V},a8 xs us->xs[i]? = some x->∃ u,us[i]? = some u/\aV x u
 | _,_,_,_,.nil,e=>by simp_all
 | _,_,0,_,.cons r _,e=>by simp_all
 | _,_,i+1,x,.cons _ t,e=>by
  have u:=a8.get t (by assumption)
  simp_all
theorem a8.append:∀ {xs ys:L9 V} {us ws:L9 V9},a8 xs us->a8 ys ws->a8 (xs++ys) (us++ws)
 | _,_,_,_,.nil,s=>s
 | _,_,_,_,.cons r t,s=>.cons r (a8.append t s)
theorem a8.take:∀ {xs:L9 V} {us:L9 V9} (n:Nat),a8 xs us->a8 (xs.take n) (us.take n)
 | _,_,0,_=>.nil
 | _,_,_+1,.nil=>.nil
 | _,_,n+1,.cons r t=>.cons r (a8.take n t)
theorem a8.drop:∀ {xs:L9 V} {us:L9 V9} (n:Nat),a8 xs us->a8 (xs.drop n) (us.drop n)
 | _,_,0,r=>r
 | _,_,_+1,.nil=>.nil
 | _,_,n+1,.cons _ t=>a8.drop n t
def lG:O9 V->O9 V9->Prop
 | some v,some u=>aV v u
 | none,none=>True
 | _,_=>False
def KV{κ:Type}:L9 (κ×V)->L9 (κ×V9)->Prop:=Paired λ(p:κ×V) (q:κ×V9)=>p.1=q.1/\aV p.2 q.2
noncomputable def kV:Key->V
 | .inl i=>.int i
 | .inr x=>.str x
inductive HO where
 | lst (xs:List V)
 | tup (xs:List V)
 | dK (a0:List (Key×V))|dT (a0:List (List Key×V))
 | set (S:Int->Bool) (n:Nat)
 | ins (C dx:Az) (fs:List (Str×V))
 | own (x:Az)
 | xd (fs:List (Str×V))
 | met (f x:Az)
 | rng (lo hi:Int)
 | frz (o:Obj) (u:HO)
 | tbl (qs:List (Pos×Str))
 | cod (q:Str)
 | ext (φ:Heap->Prop)
abbrev Hp:=Az->O9 HO
noncomputable def upd(H:Hp)(a:Az)(o:HO):Hp:=λb=>if b=a then some o else H b
theorem aO{o:HO}:upd H a o a=some o:=by unfold upd;simp
theorem aG{o:HO}(h:b≠a):upd H a o b=H b:=by unfold upd;rw[AL h]
theorem kE{o u:HO}:upd (upd H a o) a u=upd H a u:=by
 unfold upd;simp_all
theorem a9{o:HO}(h:H a=some o)(h':H b=none):a≠b:=by
 ext
def kR(h:Hz)(a:Az)(its:Array V9):Prop:=∃ o,h.get? a=some o/\(o.cls=.type "tuple"/\o.dict=none)/\∃ n,o.data=.seq its n
theorem kR.t{h:Hz}{b:Array V9}:kR h a b->IsTup h a b:=λo=>by obtain⟨o,e,c,n,d⟩:=o;exact⟨o,e,c.1,n,d⟩
theorem kR.new(h:Hz)(a:Array V9):kR (h.push {cls:=.type "tuple",data:=.seq a}) h.objs.size a:=⟨_,AY h rfl,⟨rfl,rfl⟩,_,rfl⟩
section
variable(P:P9)(w:W9)
def dF(H:Hp)(h:Hz)(a:Az):HO->Prop
 | .lst xs=>xs.length<=sizeLine/\∃ (its:L9 V9) (n:Nat),a8 xs its/\h.get? a=some {cls:=.type "list",data:=.seq its.toArray n}
 | .tup xs=>xs.length<=sizeLine/\∃ its:L9 V9,a8 xs its/\kR h a its.toArray
 | .dK a0=>a0.length<=sizeLine/\(a == sysModules)=false/\∃ vs,KV a0 vs/\h.DictOf (dP P w) a vs
 | .dT a0=>a0.length<=sizeLine/\(a == sysModules)=false/\∃ xs:L9 (L9 Key×Az×V9),
  Paired (λ(p:L9 Key×V) (q:L9 Key×Az×V9)=>p.1=q.1/\H q.2.1=some (.tup (p.1.map kV))/\aV p.2 q.2.2) a0 xs /\
  ∃ o es ep,h.get? a=some o/\o.ExactDict/\o.data=.dict es ep/\es.toList=xs.map (entryOfKey (tupleKind (dP P w)))/\(xs.map (·.1)).Nodup
 | .set S n=>h.SetOf (intKind P w) a S n
 | .ins C dx fs=>H dx=some (.own a)/\fs.length<=1000/\dx≠a/\h.get? a=some (instObj C dx) /\
  ∃ mA,h.Ns1 dx mA/\(∀ f,lG (fs.lookup f) (mA f))/\PySem.Within mA (fs.map (·.1))
 | .own _=>∃ o,h.get? a=some o
 | .xd fs=>∃ mA,h.Ns1 a mA/\∀ f,lG (fs.lookup f) (mA f)
 | .rng lo hi=>∃ t u v,h.get? a=some {cls:=.type "range",data:=.fields #[.int lo t,.int hi u,.int 1 v]}
 | .frz o u=>h.get? a=some o/\dF H h a u
 | .tbl qs=>∃ ps:Array V9,h.get? a=some {cls:=.none,data:=.fields ps}/\TriplesOk ps.toList/\∀ p∈qs,codeAmong p.1 ps.toList=none\/∃ c,codeAmong p.1 ps.toList=some (.ref c)/\H c=some (.cod p.2)
 | .cod q=>h.CodeRec (.ref a) q
 | .met f x=>h.get? a=some (PySem.W.methodObj (.ref f) (.ref x))
 | .ext φ=>φ h/\(∃ o,h.get? a=some o)/\∀ h1 h2:Hz,φ h1->(∀ o,h1.get? a=some o->h2.get? a=some o)->φ h2
def HOk(H:Hp)(h:Hz):Prop:=∀ a o,H a=some o->dF P w H h a o
end
section
variable{P:P9}{w:W9}{H H':Hp}{h h':Hz}{a:Az}{o:HO}
theorem dF.lt(x:dF P w H h a o):a < h.objs.size:=by
 cases o with
 | lst xs=>obtain⟨_,_,_,e⟩:=x;exact AQ e.2
 | tup xs=>obtain⟨_,_,p⟩:=x;exact p.2.t.lt
 | dK a0=>obtain⟨_,_,_,_,o,_,_,e⟩:=x;exact AQ e.1
 | dT a0=>obtain⟨_,_,_,_,o,_,_,e⟩:=x;exact AQ e.1
 | set S n=>obtain⟨o,_,_,_,e⟩:=x;exact AQ e.1
 | ins C dx fs=>exact AQ x.2.2.2.1
 | own y=>obtain⟨_,e⟩:=x;exact AQ e
 | xd fs=>obtain⟨_,⟨_,_,_,e,_⟩,_⟩:=x;exact AQ e
 | rng lo hi=>obtain⟨_,_,_,e⟩:=x;exact AQ e
 | frz ob u=>exact AQ x.1
 | tbl qs=>obtain⟨ps,e⟩:=x;exact AQ e.1
 | cod q=>obtain⟨c,o,vs,t,e,b⟩:=x;cases e;exact AQ b.1
 | met f y=>exact AQ ((x))
 | ext φ=>obtain⟨_,⟨_,e⟩,_⟩:=x;exact AQ e
theorem Paired.mapP{F G:α->β->Prop}:∀ {l₁:L9 α} {l₂:L9 β},Paired F l₁ l₂->(∀ a b,F a b->G a b)->Paired G l₁ l₂
 | _,_,.nil,_=>.nil
 | _,_,.cons r t,f=>.cons (f _ _ r) (Paired.mapP t f)
theorem dF.stay(x:dF P w H h a o)(k:∀ b u,(b=a\/H b=some (.own a))->h.get? b=some u->h'.get? b=some u)
  (A:∀ b,H b=some (.own a)->H' b=some (.own a)) (D:∀ b q,H b=some (.cod q)->H' b=some (.cod q)) (m:∀ b xs,H b=some (.tup xs)->H' b=some (.tup xs)):dF P w H' h' a o:=by
 induction o with
 | lst xs=>obtain⟨z,j,n,r⟩:=x;exact⟨z,j,n,r.1,k _ _ (.inl rfl) r.2⟩
 | tup xs=>obtain⟨z,j,r,g,e⟩:=x;exact⟨z,j,r,g,k _ _ (.inl rfl) e.1,e.2⟩
 | dK a0=>obtain⟨z,y,vs,r,g,es,i,e⟩:=x;exact⟨z,y,vs,r,g,es,i,k _ _ (.inl rfl) e.1,e.2⟩
 | dT a0=>
  obtain⟨z,y,xs,r,g,es,i,e⟩:=x
  exact⟨z,y,xs,Paired.mapP r λp q z=>⟨z.1,m _ _ z.2.1,z.2.2⟩,g,es,i,k _ _ (.inl rfl) e.1,e.2⟩
 | set S n=>obtain⟨g,es,i,t,e⟩:=x;exact⟨g,es,i,t,k _ _ (.inl rfl) e.1,e.2⟩
 | ins C dx fs=>
  obtain⟨d,z,s,e,mA,⟨od,es,i,e2,c⟩,r⟩:=x
  exact⟨A _ d,z,s,k _ _ (.inl rfl) e,mA,⟨od,es,i,k _ _ (.inr d) e2,c⟩,r⟩
 | own y=>obtain⟨g,e⟩:=x;exact⟨g,k _ _ (.inl rfl) e⟩
 | xd fs=>obtain⟨mA,⟨od,es,i,e,c⟩,r⟩:=x;exact⟨mA,⟨od,es,i,k _ _ (.inl rfl) e,c⟩,r⟩
 | rng lo hi=>obtain⟨t,u,v,e⟩:=x;exact⟨t,u,v,k _ _ (.inl rfl) e⟩
 | frz g u ih=>exact⟨k _ _ (.inl rfl) x.1,ih x.2⟩
 | tbl qs=>
  obtain⟨ps,e⟩:=x
  refine⟨ps,k _ _ (.inl rfl) e.1,e.2.1,λp B=>?_⟩
  rcases e.2.2 p B with z|⟨c,z,l⟩
  · exact .inl z
  · exact .inr ⟨c, z, D _ _ l⟩
 | cod q=>
  obtain⟨c,o,vs,t,e⟩:=x
  cases e.1
  exact⟨_,o,vs,t,rfl,k _ _ (.inl rfl) e.2.1,e.2.2⟩
 | met f y=>
  exact k a _ (.inl rfl) x
 | ext φ=>obtain⟨p,⟨o,e⟩,st⟩:=x;exact⟨st _ _ p λo q=>k _ _ (.inl rfl) q,⟨o,k _ _ (.inl rfl) e⟩,st⟩
theorem HOk.lt(x:HOk P w H h)(e:H a=some o):a < h.objs.size:=(x a o e).lt
theorem HOk.fresh(x:HOk P w H h)(e:h.objs.size<=a):H a=none:=by
 cases q:H a with
 | none=>rfl
 | some u=>exact absurd (A3 (x.lt q) e) (B0 _)
theorem HOk.kept(x:HOk P w H h)(k:∀ b u,h.get? b=some u->h'.get? b=some u):HOk P w H h':=λa o e=>
 (x a o e).stay (λb u _ q=>k b u q) (λ_ q=>q) (λ_ _ q=>q) λ_ _ q=>q
theorem HOk.laid(x:HOk P w H h)(k:∀ b u,h.get? b=some u->h'.get? b=some u)(d:h.objs.size<=a)(new:dF P w (upd H a o) h' a o):HOk P w (upd H a o) h':=λb u e=>by
 by_cases f:b=a
 .subst f;rw[aO]at e;ext
 .rw[aG f]at e
  exact(x b u e).stay (λc v _ q=>k c v q) (λc q=>by rw[aG (a9 q (x.fresh d))];ext) (λc xs q=>by rw[aG (a9 q (x.fresh d))];ext) λc xs q=>by rw[aG (a9 q (x.fresh d))];ext
end
def Rd(H:Hp)(a:Az)(u:HO):Prop:=H a=some u\/∃ o,H a=some (.frz o u)
theorem Rd.ok{w:W9}{h:Hz}{u:HO}(r:Rd H a u)(x:HOk P w H h):dF P w H h a u:=by
 rcases r with r|⟨o,r⟩
 .exact x a u r
 .obtain ⟨_,q⟩:=x a _ r
  ext
def Mut:O9 HO->Prop
 | some (.lst _)=>True
 | some (.dK _)=>True
 | some (.dT _)=>True
 | some (.set _ _)=>True
 | some (.ins _ _ _)=>True
 | some (.ext _)=>True
 | _=>False
section
variable{P:P9}{w:W9}{H:Hp}{h h':Hz}{x e:Az}{o':HO}
theorem HOk.write(ok:HOk P w H h)(a:Mut (H x))(l:e=x\/H e=some (.own x))(k:∀ b u,b≠e->h.get? b=some u->h'.get? b=some u)(g:∃ u,h'.get? e=some u)
  (new:dF P w (upd H x o') h' x o'):HOk P w (upd H x o') h':=λb u q=>by
 have f:∀ c y,H c=some (.own y)->c≠x:=λc y r z=>by subst z;rw[r]at a;exact a
 by_cases i:b=x
 .subst i;rw[aO]at q;simp_all
 .rw[aG i]at q
  by_cases d:b=e
  .have j:H b=some (.own x):=by
    rcases l with z|z
    · exact absurd (d.trans z) i
    · rw [d]; ext
   rw[q]at j;cases j
   obtain⟨v,m⟩:=g
   exact⟨v,by simp_all⟩
  .refine (ok b u q).stay (λc v n r=>k c v ?_ r) (λc r=>by rw[aG (f c b r)];ext) (λc xs r=>by rw[aG ((λc xs r z=>by subst z;rw[r]at a;exact a) c xs r)];ext) λc xs r=>by rw[aG ((λc xs r z=>by subst z;rw[r]at a;exact a) c xs r)];ext
   ext
end
structure Un(fs ex:List Az)(H H':Hp)(h h':Heap):Prop where
 keep:∀ b o,h.get? b=some o->H b=none->b∉fs->b∉ex->h'.get? b=some o
 slot:∀ b o,h.get? b=some o->H b=none->b∈fs->b∉ex->∃ sl,h'.get? b=some {o with slots:=sl}
 free:∀ b o,h.get? b=some o->H b=none->b∉ex->H' b=none
 there:∀ b o,h.get? b=some o->b∉ex->∃ o',h'.get? b=some o'
 tups:∀ b xs,H b=some (.tup xs)->H' b=some (.tup xs)
 frzs:∀ b o u,H b=some (.frz o u)->H' b=some (.frz o u)
 tbls:∀ b ps,H b=some (.tbl ps)->H' b=some (.tbl ps)
section
variable{fs fs' ex ex':L9 Az}{H H1 H2:Hp}{h h1 h2 h':Hz}{a x e:Az}{o:HO}
theorem Un.any(u:Un fs ex H H1 h h1){a:Obj}(q:h.get? b=some a)(n:H b=none)(hx:b∉ex):∃ sl,h1.get? b=some {a with slots:=sl}:=by
 by_cases c:b∈fs
 · exact u.slot b a q n c hx
 · exact⟨a.slots, u.keep b a q n c hx⟩
theorem Un.trans(a:Un fs ex H H1 h h1)(b:Un fs ex H1 H2 h1 h2):Un fs ex H H2 h h2 where
 keep:=λc d q n f e=>b.keep c d (a.keep c d q n f e) (a.free c d q n e) f e
 slot:=λc d q n f e=>by
  obtain⟨sl,e1⟩:=a.slot c d q n f e
  obtain⟨g,e2⟩:=b.slot c _ e1 (a.free c d q n e) f e
  exact⟨g,e2⟩
 free:=λc d q n e=>by
  obtain⟨o',e1⟩:=a.there c d q e
  exact b.free c o' e1 (a.free c d q n e) e
 there:=λc d q e=>by
  obtain⟨o',e1⟩:=a.there c d q e
  exact b.there c o' e1 e
 tups:=λc xs q=>b.tups c xs (a.tups c xs q)
 frzs:=λc d xs q=>b.frzs c d xs (a.frzs c d xs q)
 tbls:=λc ps q=>b.tbls c ps (a.tbls c ps q)
theorem Un.kept(k:∀ b u,h.get? b=some u->h'.get? b=some u):Un fs ex H H h h':=
 ⟨λb a q _ _ _=>k b a q,λb a q _ _ _=>⟨a.slots,k b a q⟩,λ_ _ _ n _=>n,λb a q _=>⟨a,k b a q⟩,λ_ _ q=>q,λ_ _ _ q=>q,λ_ _ q=>q⟩
theorem Un.refl:Un fs ex H H h h:=Un.kept λ_ _ q=>q
theorem Un.laid(k:∀ b u,h.get? b=some u->h'.get? b=some u)(d:h.objs.size<=a)(c:H a=none):Un fs ex H (upd H a o) h h' where
 keep:=λb u q _ _ _=>k b u q
 slot:=λb u q _ _ _=>⟨u.slots,k b u q⟩
 free:=λb u q n _=>by rw[aG (BG (A3 (AQ q) d))];exact n
 there:=λb u q _=>⟨u,k b u q⟩
 tups:=λb xs q=>by rw[aG (a9 q c)];exact q
 frzs:=λb u xs q=>by rw[aG (a9 q c)];exact q
 tbls:=λb ps q=>by rw[aG (a9 q c)];exact q
theorem Un.write(d:Mut (H x))(j:e=x\/H e=some (.own x))(k:∀ b u,b≠e->h.get? b=some u->h'.get? b=some u)(f:∃ u,h'.get? e=some u):Un fs ex H (upd H x o) h h':=by
 have i:∀ b,H b=none->b≠x:=λb n z=>by subst z;rw[n]at d;exact d
 have c:∀ b,H b=none->b≠e:=λb n z=>by
  simp_all
 have a:∀ b u,H b=some u->¬ Mut (some u)->b≠x:=λb u q nm z=>by simp_all
 refine⟨λb u q n _ _=>k b u (c b n) q,λb u q n _ _=>⟨u.slots,k b u (c b n) q⟩,λb u q n _=>by rw[aG (i b n)];ext,λb u q _=>?_,
  λb xs q=>by rw[aG (a b _ q λz=>z)];ext,λb u xs q=>by rw[aG (a b _ q λz=>z)];ext,λb ps q=>by rw[aG (a b _ q λz=>z)];ext⟩
 by_cases g:b=e<;>simp_all
end
noncomputable def trk(h:Hz)(H:Hp):L9 Az:=(range h.objs.size).filter λa=>(H a).isSome
def rX(h:Hz)(H:Hp):Hz:=PySem.W.hideAll h (trk h H)
theorem aJI(h:Hz)(H:Hp):(rX h H).objs.size=h.objs.size:=PySem.W.hideAll_size _ _
theorem aMP{h:Hz}(e:h.get? b=some o)(n:H b=none):(rX h H).get? b=some o:=
 PySem.W.hideAll_get _ e λa=>by
  have q:=(List.mem_filter.mp a).2
  simp_all
theorem aQG{h:Hz}(e:(rX h H).get? b=some o):h.get? b=some o/\H b=none:=by
 refine⟨(of_hideAll _ e),?_⟩
 cases q:H b with
 | none=>rfl
 | some x=>
  have z:(rX h H).get? b=none:=PySem.W.hideAll_none _ (List.mem_filter.mpr ⟨BI.mpr (AQ (of_hideAll _ e)),by simp[q]⟩)
  simp_all
structure Mod(K:Frag)(mg:Str->Option V9)(base:Heap):Prop where
 kin:K.In base
 glob:base.Ns mainGlobals mg
 blt:∃ mb,base.Ns builtinsNs mb/\∀ x:Str,x≠"__name__"->mb x=bootBuiltins x
 nolimit:base.NoLimit
structure Cx where
 prog:Program
 w:World
 K:Frag
 mg:Str->Option V9
 base:Heap
 A:Around
 N:List Str
 s₀:S9
 H₀:Hp
 env:Env
 outer:List Env
 stack:List Env
 ex:List Az
 fn:Str->Bool
 calm:Bool
 pn:List (Az×Obj)
 xe:V9->S9->Prop
noncomputable def frs(l:L9 Env):L9 Az:=l.filterMap (·.frame)
abbrev Cx.fs(X:Cx):L9 Az:=frs X.outer
def Vis(sc:Scope)(x:Str):Prop:=sc.names.lookup x=some .local\/sc.names.lookup x=some .cell\/sc.names.lookup x=some .free
def Loc(sc:Scope)(x:Str):Prop:=sc.names.lookup x=some .local\/sc.names.lookup x=some .cell
def aZD(env:Env)(h:Hz)(m:Str->O9 V9)(x:Str)(u:V9):Prop:=
 (env.kindOf x=some .local/\m x=some u)\/((env.kindOf x=some .cell\/env.kindOf x=some .free)/\∃ c,env.cells.lookup x=some c/\h.IsCell c (some u))
structure Cx.Ok(X:Cx):Prop where
 mod:Mod X.K X.mg X.base
 kind:X.env.scope.kind=.function
 glob:X.env.globals=mainGlobals
 blt:X.env.builtins=builtinsNs
 above:X.s₀.heap.objs.size<=X.env.locals
 inj:∀ x y c,X.env.cells.lookup x=some c->X.env.cells.lookup y=some c->x=y
 has:∀ x,(X.env.kindOf x=some .cell\/X.env.kindOf x=some .free)->∃ c,X.env.cells.lookup x=some c
 cab:∀ x c,X.fn x=true->X.env.cells.lookup x=some c->X.s₀.heap.objs.size<=c
 hd:X.calm=true->X.A.handled=none
 frames:X.A.frames=some X.stack
 stk:X.stack=X.outer\/(X.stack=X.env::X.outer/\X.env.frame=some X.env.locals)
 exf:∀ b∈X.ex,b≠X.env.locals/\∀ x c,X.env.cells.lookup x=some c->c≠b
 bs:∀ b o,X.base.get? b=some o->X.s₀.heap.get? b=some o/\X.H₀ b=none
 bsz:X.base.objs.size<=X.s₀.heap.objs.size
 noex:∀ b o,X.base.get? b=some o->b∉X.ex
 exfs:∀ b∈X.ex,b∉X.fs
 funs:X.s₀.heap.FunFrames X.base X.outer
 frf:∀ b∈X.fs,X.H₀ b=none
structure Inv(X:Cx)(ap:List (Az×Obj))(Z:List (Option V))(H:Hp)(s:S9):Prop where
 ok:X.Ok
 os:s.os=X.s₀.os
 bare:AllBare s.gens
 base:Un X.fs X.ex X.H₀ H X.s₀.heap s.heap
 loc:∃ m,s.heap.Ns X.env.locals m/\∀ (i:Nat) (x:Str) (v:V),X.N[i]? = some x->Z[i]? = some (some v)->Vis X.env.scope x->∃ u,aV v u/\aZD X.env s.heap m x u
 cell:∀ x c,X.env.cells.lookup x=some c->∃ v,s.heap.IsCell c v
 free:H X.env.locals=none
 freeC:∀ x c,X.env.cells.lookup x=some c->H c=none
 pin:∀ p∈X.pn++ap,s.heap.get? p.1=some p.2/\H p.1=none/\p.1≠X.env.locals/\p.1∉X.fs/\∀ v,p.2.data≠.cell v
 hok:HOk X.prog X.w H s.heap
 len:Z.length=X.N.length
section
variable{X:Cx}{ap:L9 (Az×Obj)}{Z:L9 (O9 V)}{H H':Hp}{s:S9}{h':Hz}
theorem Cx.Ok.nofr(ok:X.Ok)(e:X.base.get? b=some o):b∉X.fs:=λa=>by
 have:=(ok.funs.mem a).1
 simp_all
theorem Inv.bs(I:Inv X ap Z H s):∀ b o,X.base.get? b=some o->s.heap.get? b=some o/\H b=none:=λb o e=>
 ⟨I.base.keep b o (I.ok.bs b o e).1 (I.ok.bs b o e).2 (I.ok.nofr e) (I.ok.noex b o e),I.base.free b o (I.ok.bs b o e).1 (I.ok.bs b o e).2 (I.ok.noex b o e)⟩
theorem Inv.bk(I:Inv X ap Z H s):∀ b o,X.base.get? b=some o->s.heap.get? b=some o:=λb o e=>(I.bs b o e).1
theorem Inv.mod(I:Inv X ap Z H s):Mod X.K X.mg X.base:=I.ok.mod
theorem Inv.kIn(I:Inv X ap Z H s):X.K.In s.heap:=I.ok.mod.kin.keeps I.bk
theorem Inv.lt(I:Inv X ap Z H s):X.env.locals < s.heap.objs.size:=let ⟨_,hn,_⟩:=I.loc;hn.lt
theorem Inv.sz(I:Inv X ap Z H s):X.s₀.heap.objs.size<=s.heap.objs.size:=BB I.ok.above (BS I.lt)
theorem Inv.nofs(I:Inv X ap Z H s)(h:s.heap.objs.size<=a):a∉X.fs:=λc=>by
 obtain⟨_,o,b⟩:=I.ok.funs.mem c
 exact absurd (A3 (AQ b.1) (BB I.sz h)) (B0 _)
theorem Inv.cne(I:Inv X ap Z H s):∀ x c,X.env.cells.lookup x=some c->c≠X.env.locals:=λx c e z=>by
 obtain⟨v,o,d⟩:=I.cell x c e
 obtain⟨m,⟨o',es,f,b,a,_⟩,_⟩:=I.loc
 simp_all
theorem Inv.funs(I:Inv X ap Z H s):s.heap.FunFrames X.base X.outer:=by
 have all:∀ l,(∀ b∈frs l,b∈X.fs)->X.s₀.heap.FunFrames X.base l->s.heap.FunFrames X.base l:=by
  intro l
  induction l with
  | nil=>intro _ _;trivial
  | cons env r ih=>
   intro f j
   obtain⟨k,⟨L,o,d,h,i,g⟩,hr⟩:=j
   have a:=f L (by unfold frs;rw[DX,d];exact A4)
   obtain⟨sl,e⟩:=I.base.slot L o i (I.ok.frf L a) a λz=>I.ok.exfs L z a
   exact⟨k,⟨L,_,d,h,e,g⟩,ih (λb c=>f b (by unfold frs;rw[DX,d];exact AU _ c)) hr⟩
 exact all X.outer (λ_ c=>c) I.ok.funs
theorem Inv.stack(I:Inv X ap Z H s):s.heap.FunFrames X.base X.stack:=by
 rcases I.ok.stk with e|⟨e,a⟩
 .rw[e];exact I.funs
 .rw[e]
  obtain⟨m,b⟩:=I.loc
  refine .cons (by rw[I.ok.kind];decide) a b.1 ?_ I.funs
  exact Heap.get?_none_of_le (BB I.ok.bsz I.ok.above)
theorem Inv.stkSub(I:Inv X ap Z H s):∀ b∈frs X.stack,b∈X.env.locals::X.fs:=λb a=>by
 rcases I.ok.stk with e|⟨e,c⟩
 .simp_all
 .rw[e]at a
  unfold frs at a
  rw[DX,c]at a
  exact a
theorem Inv.stkFree(I:Inv X ap Z H s):∀ b∈frs X.stack,H b=none:=λb a=>by
 rcases AV.mp (I.stkSub b a)with e|a
 .rw[e];exact I.free
 .obtain ⟨_,o,c⟩:=I.ok.funs.mem a
  exact I.base.free b o c.1 (I.ok.frf b a) λz=>I.ok.exfs b z a
theorem Inv.step{g':Array GenState}{d':Drawn}{ch:L9 Az}(I:Inv X ap Z H s)
  (d:∀ b∈ch,(b∈X.ex\/X.s₀.heap.objs.size<=b)/\b≠X.env.locals/\(∀ x c,X.env.cells.lookup x=some c->c≠b)/\∀ p∈X.pn++ap,p.1≠b)
  (keep:∀ b o,b≠X.env.locals->b∉X.fs->b∉ch->s.heap.get? b=some o->H b=none->h'.get? b=some o)
  (slot:∀ b o,b≠X.env.locals->b∈X.fs->b∉ch->s.heap.get? b=some o->H b=none->∃ sl,h'.get? b=some {o with slots:=sl}) (free:∀ b o,b∉ch->s.heap.get? b=some o->H b=none->H' b=none)
  (there:∀ b o,b∉ch->s.heap.get? b=some o->∃ o',h'.get? b=some o')
  (tups:∀ b xs,H b=some (.tup xs)->H' b=some (.tup xs)) (frzs:∀ b o u,H b=some (.frz o u)->H' b=some (.frz o u)) (tbls:∀ b ps,H b=some (.tbl ps)->H' b=some (.tbl ps))
  (ns:∀ m,s.heap.Ns X.env.locals m->h'.Ns X.env.locals m) (hok:HOk X.prog X.w H' h') (hg:AllBare g') :
  Inv X ap Z H' {s with heap:=h',gens:=g',drawn:=d',toks:=t'}:=by
 have h:∀ b o,X.s₀.heap.get? b=some o->b∉X.ex->b∉ch:=λb o e a j=>by
  rcases(d b j).1 with z|z
  .exact a z
  .exact absurd (A3 (AQ e) z) (B0 _)
 have f:∀ x c,X.env.cells.lookup x=some c->∀ v,s.heap.IsCell c v->h'.IsCell c v:=λx c e v y=>by
  obtain⟨o,t,B⟩:=y
  have g:=λz=>(d c z).2.2.1 x c e rfl
  by_cases E:c∈X.fs
  .obtain ⟨sl,q⟩:=slot c o (I.cne x c e) E g t (I.freeC x c e)
   exact⟨_,q,B⟩
  .exact ⟨o,keep c o (I.cne x c e) E g t (I.freeC x c e),B⟩
 refine⟨I.ok,I.os,hg,⟨λb o e n j a=>?_,λb o e n j a=>?_,λb o e n a=>?_,λb o e a=>?_,λb xs e=>tups b xs (I.base.tups b xs e),λb o xs e=>frzs b o xs (I.base.frzs b o xs e),λb ps e=>?_⟩,?_,λx c e=>?_,?_,λx c e=>?_,λp D=>?_,hok,I.len⟩
 .exact keep b o ((λb o e=>BG (A3 (AQ e) I.ok.above)) b o e) j (h b o e a) (I.base.keep b o e n j a) (I.base.free b o e n a)
 .obtain ⟨sl,e1⟩:=I.base.slot b o e n j a
  obtain⟨A,e2⟩:=slot b _ ((λb o e=>BG (A3 (AQ e) I.ok.above)) b o e) j (h b o e a) e1 (I.base.free b o e n a)
  exact⟨A,e2⟩
 .obtain ⟨o',e1⟩:=I.base.there b o e a
  exact free b o' (h b o e a) e1 (I.base.free b o e n a)
 .obtain ⟨o',e1⟩:=I.base.there b o e a
  exact there b o' (h b o e a) e1
 .exact tbls b ps (I.base.tbls b ps e)
 .obtain ⟨m,C⟩:=I.loc
  refine⟨m,ns m C.1,λi x v e1 e2 F=>?_⟩
  obtain⟨u,r,l⟩:=C.2 i x v e1 e2 F
  refine⟨u,r,?_⟩
  rcases l with l|⟨k,c,e,z⟩
  .exact .inl l
  .exact .inr ⟨k,c,e,f x c e _ z⟩
 .obtain ⟨v,z⟩:=I.cell x c e
  exact⟨v,f x c e v z⟩
 .obtain ⟨m,⟨o,_,_,t,_⟩,_⟩:=I.loc
  exact free _ o (λz=>(d _ z).2.1 rfl) t I.free
 .obtain ⟨v,o,t⟩:=I.cell x c e
  exact free c o (λz=>(d c z).2.2.1 x c e rfl) t.1 (I.freeC x c e)
 .have e:=I.pin p D
  have g:=λz=>(d p.1 z).2.2.2 p D rfl
  exact⟨keep p.1 p.2 e.2.2.1 e.2.2.2.1 g e.1 e.2.1,free p.1 p.2 g e.1 e.2.1,e.2.2.1,e.2.2.2.1,e.2.2.2.2⟩
theorem Inv.un(I:Inv X ap Z H s)(u:Un X.fs [] H H' s.heap h')(hok:HOk X.prog X.w H' h'):Inv X ap Z H' {s with heap:=h',toks:=t'}:=by
 obtain⟨m,⟨o,es,l,g,r⟩,_⟩:=id I.loc
 obtain⟨sl,i⟩:=u.any g I.free (by simp)
 exact I.step (ch:=[]) (λ_ z=>nomatch z) (λb o _ c _ e n=>u.keep b o e n c (by simp)) (λb o _ c _ e n=>u.slot b o e n c (by simp)) (λb o _ e n=>u.free b o e n (by simp)) (λb o _ e=>u.there b o e (by simp)) u.tups u.frzs u.tbls (λk j=>by
  obtain⟨o',f,d,a,h⟩:=j
  rw[g]at a;cases a
  exact⟨_,f,d,i,h⟩) hok I.bare
theorem Inv.call{g':Array GenState}{d':Drawn}(I:Inv X ap Z H s)(u:Un (frs X.stack) ch H H' s.heap h')(hok:HOk X.prog X.w H' h')(k:AllBare g')
  (d:∀ b∈ch,(b∈X.ex\/X.s₀.heap.objs.size<=b)/\b≠X.env.locals/\(∀ x c,X.env.cells.lookup x=some c->c≠b)/\∀ p∈X.pn++ap,p.1≠b) :
  Inv X ap Z H' {s with heap:=h',gens:=g',drawn:=d',toks:=t'}:=by
 obtain⟨m,⟨o,es,y,j,r⟩,_⟩:=id I.loc
 obtain⟨sl,g⟩:=u.any j I.free λz=>(d _ z).2.1 rfl
 exact I.step d (λb o g l a e n=>u.keep b o e n (λz=>(AV.mp (I.stkSub b z)).elim g l) a) (λb o _ _ a e n=>u.any e n a) (λb o a e n=>u.free b o e n a) (λb o a e=>u.there b o e a) u.tups u.frzs u.tbls (λv q=>by
  obtain⟨o',i,h,f,t⟩:=q
  rw[j]at f;cases f
  exact⟨_,i,h,g,t⟩) hok k
theorem Inv.turned{t':Nat}{it:Az}(I:Inv X ap Z H s)(k:∀ b o,b≠it->s.heap.get? b=some o->h'.get? b=some o)(r:H it=none)(f:it≠X.env.locals)
  (h1:it∈X.ex\/X.s₀.heap.objs.size<=it) (h2:∀ x c,X.env.cells.lookup x=some c->c≠it) (h:∀ p∈X.pn++ap,p.1≠it):Inv X ap Z H {s with heap:=h',toks:=t'}:=by
 have d:∀ b u,H b=some u->b≠it:=λb u e z=>by ext
 refine I.step (ch:=[it]) (λb i=>?_) (λb o _ _ a e _=>k b o (λz=>a (by simp[z])) e) (λb o _ _ a e _=>⟨o.slots,k b o (λz=>a (by simp[z])) e⟩) (λ_ _ _ _ n=>n)
  (λb o a e=>⟨o,k b o (λz=>a (by simp[z])) e⟩) (λ_ _ e=>e) (λ_ _ _ e=>e) (λ_ _ e=>e) (λm j=>?_) (λb u e=>?_) I.bare
 .have e:=by simpa using i
  subst e
  exact⟨h1,f,h2,h⟩
 .obtain ⟨o,es,l,g⟩:=j
  exact⟨o,es,l,k _ o (BQ f) g.1,g.2⟩
 .refine (I.hok b u e).stay (λc v a q=>k c v ?_ q) (λ_ q=>q) (λ_ _ q=>q) λ_ _ q=>q
  rcases a with z|z
  · rw [z]; exact d b u e
  · exact d c _ z
theorem Inv.tok(I:Inv X ap Z H s)(t:Nat):Inv X ap Z H {s with toks:=t}:=I.un Un.refl I.hok
theorem Inv.kept{t':Nat}(I:Inv X ap Z H s)(k:∀ b u,s.heap.get? b=some u->h'.get? b=some u):Inv X ap Z H {s with heap:=h',toks:=t'}:=I.un (Un.kept k) (I.hok.kept k)
theorem Inv.laid{o:HO}{t':Nat}(I:Inv X ap Z H s)(k:∀ b u,s.heap.get? b=some u->h'.get? b=some u)(c:s.heap.objs.size<=a)(new:dF X.prog X.w (upd H a o) h' a o) :
 Inv X ap Z (upd H a o) {s with heap:=h',toks:=t'}:=I.un (Un.laid k c (I.hok.fresh c)) (I.hok.laid k c new)
theorem Inv.write{x e:Az}{o:HO}(I:Inv X ap Z H s)(c:Mut (H x))(d:e=x\/H e=some (.own x))(k:∀ b u,b≠e->s.heap.get? b=some u->h'.get? b=some u)(a:∃ u,h'.get? e=some u)
 (new:dF X.prog X.w (upd H x o) h' x o):Inv X ap Z (upd H x o) {s with heap:=h',toks:=t'}:=I.un (Un.write c d k a) (I.hok.write c d k a new)
theorem Inv.pins_of{pins':L9 (Az×Obj)}(I:Inv X ap Z H s)(h:∀ p∈pins',s.heap.get? p.1=some p.2/\H p.1=none/\p.1≠X.env.locals/\p.1∉X.fs/\∀ v,p.2.data≠.cell v):Inv X pins' Z H s:=
 ⟨I.ok,I.os,I.bare,I.base,I.loc,I.cell,I.free,I.freeC,λp a=>(BO.mp a).elim (λz=>I.pin p (CT _ z)) (h p),I.hok,I.len⟩
theorem aB9(c:N.Nodup)(a:N[i]? = some x)(b:N[j]? = some x):i=j:=by
 exact(List.getElem_inj c).mp ((AG.mp a).2.trans (AG.mp b).2.symm)
theorem aAV{A:U9}{v:V}{Q:Unit->S9->Prop}(I:Inv X ap Z H s)(hN:X.N.Nodup)(hi:X.N[i]? = some x)(hx:Loc X.env.scope x)(r:aV v u)
  (h:∀ s',Inv X ap (Z.set i (some v)) H s'->(∃ a,Heap.SameBut a s.heap s'.heap/\(a=X.env.locals\/X.env.cells.lookup x=some a))->Q () s') (hf:X.fn x=true\/X.env.scope.names.lookup x=some .local):wpAny M A (storeName X.env x u) Q E s:=by
 obtain⟨m,U,hl⟩:=id I.loc
 have t:i < Z.length:=by rw[I.len];exact(AG.mp hi).1
 have f:∀ {a:Az} {h':Hz},(∃ o,s.heap.get? a=some o/\H a=none)->Heap.SameBut a s.heap h'->HOk X.prog X.w H h':=λ{a h'} ha d b ob e=>by
  refine(I.hok b ob e).stay (λc O g q=>(d.2 c ?_).trans q) (λ_ q=>q) (λ_ _ q=>q) λ_ _ q=>q
  ext
 rcases hx with l|l
 .refine wpAny_storeName_local l U (λh' R d=>?_) (by rw[I.ok.kind];rfl)
  obtain⟨oL,_,_,S⟩:=id U
  refine h _ ⟨I.ok,I.os,I.bare,⟨λb o e n C hx=>?_,λb o e n C hx=>?_,I.base.free,λb o e hx=>?_,I.base.tups,I.base.frzs,I.base.tbls⟩,⟨_,R,λj y Y e1 e2 T=>?_⟩,λy c e=>?_,I.free,I.freeC,λp P=>?_,f ⟨oL,S.1,I.free⟩ d,by simpa using I.len⟩ ⟨_,d,.inl rfl⟩
  .exact (d.2 b (BG (A3 (AQ e) I.ok.above))).trans (I.base.keep b o e n C hx)
  .obtain ⟨sl,e1⟩:=I.base.slot b o e n C hx
   exact⟨sl,(d.2 b (BG (A3 (AQ e) I.ok.above))).trans e1⟩
  .obtain ⟨o',e1⟩:=I.base.there b o e hx
   exact⟨o',(d.2 b (BG (A3 (AQ e) I.ok.above))).trans e1⟩
  .by_cases B:j=i
   .subst B
    rw[hi]at e1;cases e1
    rw[B4 t]at e2
    cases e2
    exact⟨u,r,.inl ⟨l,by simp⟩⟩
   .rw[BK (BQ B)]at e2
    obtain⟨W,L⟩:=hl j y Y e1 e2 T
    refine⟨W,L.1,?_⟩
    rcases L.2 with ⟨k,e⟩|⟨k,c,e,z⟩
    .refine .inl ⟨k,?_⟩
     have:y≠x:=λe=>B (aB9 hN e1 (e▸hi))
     simp_all
    .exact .inr ⟨k,c,e,z.sameBut d (I.cne y c e)⟩
  .obtain ⟨O,z⟩:=I.cell y c e
   exact⟨O,z.sameBut d (I.cne y c e)⟩
  .have e:=I.pin p P
   exact⟨(d.2 p.1 e.2.2.1).trans e.1,e.2.1,e.2.2.1,e.2.2.2.1,e.2.2.2.2⟩
 .have F:X.fn x=true:=by
   rcases hf with z|z
   .exact z
   .rw[z]at l;cases l
  obtain⟨c,g⟩:=I.ok.has x (.inl l)
  obtain⟨O,z⟩:=I.cell x c g
  refine wpAny_storeName_cell I.ok.kind l g z (λh' G d=>?_)
  obtain⟨oc,D⟩:=id z
  refine h {s with heap:=h'} ⟨I.ok,I.os,I.bare,⟨λb o e n C hx=>?_,λb o e n C hx=>?_,I.base.free,λb o e hx=>?_,I.base.tups,I.base.frzs,I.base.tbls⟩,⟨m,U.sameBut d (BQ (I.cne x c g)),λj y Y e1 e2 T=>?_⟩,λy K e=>?_,I.free,I.freeC,λp P=>?_,f ⟨oc,D.1,I.freeC x c g⟩ d,by simpa using I.len⟩ ⟨c,d,.inr g⟩
  .exact (d.2 b (BG (A3 (AQ e) (I.ok.cab x c F g)))).trans (I.base.keep b o e n C hx)
  .obtain ⟨sl,e1⟩:=I.base.slot b o e n C hx
   exact⟨sl,(d.2 b (BG (A3 (AQ e) (I.ok.cab x c F g)))).trans e1⟩
  .obtain ⟨o',e1⟩:=I.base.there b o e hx
   exact⟨o',(d.2 b (BG (A3 (AQ e) (I.ok.cab x c F g)))).trans e1⟩
  .by_cases B:j=i
   .subst B
    rw[hi]at e1;cases e1
    rw[B4 t]at e2
    cases e2
    exact⟨u,r,.inr ⟨.inl l,c,g,G⟩⟩
   .rw[BK (BQ B)]at e2
    obtain⟨W,L,q⟩:=hl j y Y e1 e2 T
    refine⟨W,L,?_⟩
    rcases q with q|⟨k,K,e,z'⟩
    .exact .inl q
    .refine .inr ⟨k,K,e,z'.sameBut d ?_⟩
     rintro rfl
     exact B (aB9 hN e1 (I.ok.inj _ _ _ e g▸hi))
  .by_cases J:K=c
   .subst J;exact⟨_,G⟩
   .obtain ⟨w2,z2⟩:=I.cell y K e
    exact⟨w2,z2.sameBut d J⟩
  .obtain ⟨e,n⟩:=I.pin p P
   refine⟨(d.2 p.1 ?_).trans e,n.1,n.2.1,n.2.2.1,n.2.2.2⟩
   intro q
   rw[q,D.1]at e
   exact n.2.2.2 O (by rw[<-(BV e)];exact D.2)
theorem v6{A:U9}{v:V}{Q:Unit->S9->Prop}(I:Inv X ap Z H s)(c:X.N.Nodup)(hi:X.N[i]? = some x)(hx:Loc X.env.scope x)(r:aV v u)
  (h:∀ s',Inv X ap (Z.set i (some v)) H s'->Q () s') (a:X.fn x=true\/X.env.scope.names.lookup x=some .local):wpAny M A (storeName X.env x u) Q E s:=
 aAV I c hi hx r (λs' b _=>h s' b) a
theorem Inv.call'(I:Inv X ap Z H s)(d:s'.os=s.os)(u:Un (frs X.stack) ch H H' s.heap s'.heap)(hok:HOk X.prog X.w H' s'.heap)(e:AllBare s'.gens)
  (a:∀ b∈ch,(b∈X.ex\/X.s₀.heap.objs.size<=b)/\b≠X.env.locals/\(∀ x c,X.env.cells.lookup x=some c->c≠b)/\∀ p∈X.pn++ap,p.1≠b):Inv X ap Z H' s':=by
 obtain⟨h',f⟩:=s'
 subst d
 exact I.call u hok e a
end
abbrev XK:=V9->O9 Az->Hp->Prop
abbrev St:=L9 (O9 V)
abbrev VK:=V->Hp->Prop
abbrev TE:=St->Hp->VK->Prop
abbrev TT:=St->Hp->(Bool->Hp->Prop)->Prop
abbrev TA:=St->Hp->(L9 V->Hp->Prop)->Prop
structure kC where
 nx:St->Hp->Prop
 rt:VK
 bk:St->Hp->Prop:=λ_ _=>False
 ct:St->Hp->Prop:=λ_ _=>False
abbrev TS:=kC->St->Hp->Prop
def EP(X:Cx)(ap:L9 (Az×Obj))(Z:St)(Q:VK)(u:V9)(s':S9):Prop:=∃ v H',Inv X ap Z H' s'/\aV v u/\Q v H'
def TP(X:Cx)(ap:L9 (Az×Obj))(Z:St)(Q:Bool->Hp->Prop)(b:Bool)(s':S9):Prop:=∃ H',Inv X ap Z H' s'/\Q b H'
def AP(X:Cx)(ap:L9 (Az×Obj))(Z:St)(Q:L9 V->Hp->Prop)(us:L9 V9)(s':S9):Prop:=∃ vs H',Inv X ap Z H' s'/\a8 vs us/\Q vs H'
def SP(X:Cx)(ap:L9 (Az×Obj))(D:kC)(f:Flow)(s':S9):Prop:=
 match f with
 | .next=>∃ Z' H',Inv X ap Z' H' s'/\D.nx Z' H'
 | .brk=>∃ Z' H',Inv X ap Z' H' s'/\D.bk Z' H'
 | .cont=>∃ Z' H',Inv X ap Z' H' s'/\D.ct Z' H'
 | .ret u=>∃ v Z' H',Inv X ap Z' H' s'/\aV v u/\D.rt v H'
def PE(X:Cx)(e:Ez)(t:TE):Prop:=
 ∀ (ap:L9 (Az×Obj)) (s:S9) (Z:St) (H:Hp) (Q:VK),Inv X ap Z H s->t Z H Q->wpAny (model X.prog X.w) X.A (eval e X.env) (EP X ap Z Q) X.xe s
def PT(X:Cx)(e:Ez)(t:TT):Prop:=
 ∀ (ap:L9 (Az×Obj)) (s:S9) (Z:St) (H:Hp) (Q:Bool->Hp->Prop),Inv X ap Z H s->t Z H Q->wpAny (model X.prog X.w) X.A (isTrue e X.env (eval e X.env)) (TP X ap Z Q) X.xe s
def PW(X:Cx)(e:Ez)(t:TT):Prop:=
 ∀ (whole:Sem V9) (ap:L9 (Az×Obj)) (s:S9) (Z:St) (H:Hp) (Q:Bool->Hp->Prop),Inv X ap Z H s->t Z H Q->wpAny (model X.prog X.w) X.A (isTrue e X.env whole) (TP X ap Z Q) X.xe s
theorem PW.pt{X:Cx}{e:Ez}{t:TT}(h:PW X e t):PT X e t:=h _
def PA(X:Cx)(es:L9 Ez)(t:TA):Prop:=
 ∀ (pos:Pos) (ap:L9 (Az×Obj)) (s:S9) (Z:St) (H:Hp) (Q:L9 V->Hp->Prop),Inv X ap Z H s->t Z H Q->wpAny (model X.prog X.w) X.A (spliced (backTo pos (starEach es X.env))) (AP X ap Z Q) X.xe s
def PS(X:Cx)(st:Stmt)(t:TS):Prop:=
 ∀ (ap:L9 (Az×Obj)) (s:S9) (Z:St) (H:Hp) (D:kC),Inv X ap Z H s->t D Z H->wpAny (model X.prog X.w) X.A (exec st X.env) (SP X ap D) X.xe s
def PSs(X:Cx)(st:L9 Stmt)(t:TS):Prop:=
 ∀ (ap:L9 (Az×Obj)) (s:S9) (Z:St) (H:Hp) (D:kC),Inv X ap Z H s->t D Z H->wpAny (model X.prog X.w) X.A (execs st X.env) (SP X ap D) X.xe s
theorem thn{t:Sem α}{Q b:α->S9->Prop}{A:U9}(h:wpAny M A t Q E s)(c:∀ a s,Q a s->b a s):wpAny M A t b E s:=BW h c λ_ _ x=>x
section
variable{X:Cx}
def g7(i:Nat):TE:=λZ H Q=>∃ v,Z[i]? = some (some v)/\Q v H
def tC(v:V):TE:=λ_ H Q=>Q v H
theorem aUD{pos:Pos}(n:X.N[i]? = some x)(l:Vis X.env.scope x)(f:autoParam ((x == ("__debug__":Str))=false) z5)(hcd:autoParam ((x == ("__classdict__":Str))=false) z5):PE X (.Name x pos) (g7 i):=by
 intro ap s Z H Q I h
 obtain⟨v,e⟩:=h
 obtain⟨m,g⟩:=I.loc
 obtain⟨u,r⟩:=g.2 i x v n e.1 l
 have b:EP X ap Z Q u s:=⟨v,H,I,r.1,e.2⟩
 rcases r.2 with ⟨d,k⟩|⟨d,c,j,a⟩
 .exact wpAny_Name (wpAny_loadName_local I.ok.kind d g.1 k b) f
 .rcases d with d|d
  · exact wpAny_Name (wpAny_loadName_cell I.ok.kind d j a b) f
  · exact wpAny_Name (wpAny_loadName_free I.ok.kind d j a b hcd) f
theorem o6{i j pos}:PE X (.Constant (.int i) j pos) (tC (.int i)):=λ_ _ _ H _ I h=>wpAny_Constant_int ⟨.int i,H,I.tok _,⟨_,rfl⟩,h⟩
theorem aXW{b j pos}:PE X (.Constant (.bool b) j pos) (tC (.bl b)):=λ_ _ _ H _ I h=>Constant_bool ⟨.bl b,H,I,rfl,h⟩
theorem aUE{j pos}:PE X (.Constant .none j pos) (tC .non):=λ_ _ _ H _ I h=>Constant_none ⟨.non,H,I,rfl,h⟩
theorem aUF{x j pos}:PE X (.Constant (.str x) j pos) (tC (.str x)):=λ_ _ _ H _ I h=>Calls.Constant_str ⟨.str x,H,I.tok _,⟨_,rfl⟩,h⟩
def Gl(X:Cx)(x:Str):Prop:=X.env.kindOf x=some .globalImplicit
theorem uB{pos:Pos}(I:Inv X ap Z H s)(a:Gl X x)(b:X.mg x=some u)(h:Q u s)
  (c:autoParam ((x == ("__debug__":Str))=false) z5):wpAny (model X.prog X.w) X.A (eval (.Name x pos) X.env) Q E s:=
 FC I.ok.kind a (Calls.loadGlobal_global (by rw[I.ok.glob];exact I.mod.glob.keeps I.bk) b h) c
theorem mC{pos:Pos}(I:Inv X ap Z H s)(a:Gl X x)(c:X.mg x=none)(b:bootBuiltins x=some u)(h:Q u s)
  (d:autoParam (x≠"__name__") z5) (hd:autoParam ((x == ("__debug__":Str))=false) z5):wpAny (model X.prog X.w) X.A (eval (.Name x pos) X.env) Q E s:=by
 obtain⟨e,h1⟩:=I.mod.blt
 exact FC I.ok.kind a (Calls.loadGlobal_builtin (by rw[I.ok.glob];exact I.mod.glob.keeps I.bk) c (by rw[I.ok.blt];exact h1.1.keeps I.bk) ((h1.2 x d).trans b) h) hd
theorem jE{v:V}{pos:Pos}(a:Gl X x)(b:X.mg x=some u)(r:aV v u)(c:autoParam ((x == ("__debug__":Str))=false) z5):PE X (.Name x pos) (tC v):=
 λ_ _ _ H _ I h=>uB I a b ⟨v,H,I,r,h⟩ c
theorem aQH{v:V}{pos:Pos}(a:Gl X x)(b:X.mg x=none)(d:bootBuiltins x=some u)(r:aV v u)(c:autoParam (x≠"__name__") z5)(hd:autoParam ((x == ("__debug__":Str))=false) z5):PE X (.Name x pos) (tC v):=
 λ_ _ _ H _ I h=>mC I a b d ⟨v,H,I,r,h⟩ c hd
variable{a b:Ez}{ta tb:TE}{pos:Pos}
def PC(X:Cx)(op:CmpOp)(a b:Ez)(t:TE):Prop:=
 ∀ (ap:L9 (Az×Obj)) (s:S9) (Z:St) (H:Hp) (Q:VK),Inv X ap Z H s->t Z H Q->
  wpAny (model X.prog X.w) X.A (eval a X.env) (λv s₁=>wpAny (model X.prog X.w) X.A (eval b X.env) (λu s₂=>wpAny (model X.prog X.w) X.A (compareOp op v u) (EP X ap Z Q) X.xe s₂) X.xe s₁) X.xe s
theorem aMQ(b:Ez){a:CmpOp}(h:a≠.In)(h2:a≠.NotIn):behindInMarks a b=false:=by
 have e1:(a == CmpOp.In)=false:=by ext
 have e2:(a == CmpOp.NotIn)=false:=by ext
 cases b<;>simp[behindInMarks,e1,e2]
def tB(t:TE):TT:=λZ H Q=>t Z H λx H1=>∃ c,x=.bl c/\Q c H1
theorem iH{f:CmpOp}{t:TE}(h:PC X f a b t)(h1:behindInMarks f b=false:=by first|exact aMQ _ (by decide) (by decide)|rfl):PT X (.Compare a [f] [b] pos) (tB t):=by
 intro ap s Z H Q I j
 refine wpAny_isTrue_Compare1 (thn (h ap s Z H _ I j) λv s1 h1=>thn h1 λu l h2=>thn h2 λc k e=>?_) h1
 obtain⟨x,H1,g,r1,i⟩:=e
 obtain⟨d,rfl,q⟩:=i
 cases r1
 exact FK ⟨H1,g,q⟩
theorem rY{e:Ez}{t:TE}(h:PE X e t)(g:∀ whole,isTrue e X.env whole=(do let v <-whole;standAt e.pos;holding [v] (truthy v)):=by intro _;rfl):PT X e (tB t):=by
 intro ap s Z H Q I c
 refine isTrue_plain (thn (h ap s Z H _ I c) λv s1 a=>?_) (g _)
 obtain⟨x,H1,f,r1,b⟩:=a
 obtain⟨d,rfl,q⟩:=b
 cases r1
 exact FK ⟨H1,f,q⟩
variable{tA tB':TT}{rest:L9 Ez}
def aUG(t u:TT):TT:=λZ H Q=>t Z H λc H1=>if c=true then u Z H1 Q else Q false H1
def tOr(t u:TT):TT:=λZ H Q=>t Z H λc H1=>if c=true then Q true H1 else u Z H1 Q
def aZE(t:TT):TT:=λZ H Q=>t Z H λc H1=>Q (!c) H1
theorem uC(b:PT X a tA):PW X (.BoolOp .And [a] pos) tA:=by
 intro d ap s Z H Q I h
 refine isTrue_and (thn (b ap s Z H Q I h) λc s1 e=>?_)
 cases c with
 | true=>exact isTrue_and_nil e
 | false=>exact e
theorem aCA(b:PT X a tA):PW X (.BoolOp .Or [a] pos) tA:=by
 intro d ap s Z H Q I h
 refine isTrue_or (thn (b ap s Z H Q I h) λc s1 e=>?_)
 cases c with
 | false=>exact isTrue_or_nil e
 | true=>exact e
theorem xG(i:PT X a tA)(hb:PW X (.BoolOp .And (b::rest) pos) tB'):PW X (.BoolOp .And (a::b::rest) pos) (aUG tA tB'):=by
 intro g ap s Z H Q I h
 refine isTrue_and (thn (i ap s Z H _ I h) λc s1 d=>?_)
 obtain⟨H1,e,f⟩:=d
 cases c with
 | true=>exact hb g ap s1 Z H1 Q e f
 | false=>exact⟨H1,e,f⟩
theorem aHA(i:PT X a tA)(hb:PW X (.BoolOp .Or (b::rest) pos) tB'):PW X (.BoolOp .Or (a::b::rest) pos) (tOr tA tB'):=by
 intro g ap s Z H Q I h
 refine isTrue_or (thn (i ap s Z H _ I h) λc s1 d=>?_)
 obtain⟨H1,e,f⟩:=d
 cases c with
 | true=>exact⟨H1,e,f⟩
 | false=>exact hb g ap s1 Z H1 Q e f
theorem rZ(b:PT X a tA):PT X (.UnaryOp .Not a pos) (aZE tA):=by
 intro ap s Z H Q I h
 exact isTrue_not (b ap s Z H (λc H1=>Q (!c) H1) I h)
def tIf(t:TT)(ta tb:TE):TE:=λZ H Q=>t Z H λc H1=>if c=true then ta Z H1 Q else tb Z H1 Q
theorem aMR{c:Ez}(j:PT X c tA)(i:PE X a ta)(hb:PE X b tb):PE X (.IfExp c a b pos) (tIf tA ta tb):=by
 intro ap s Z H Q I h
 refine wpAny_IfExp (thn (j ap s Z H _ I h) λd s1 e=>?_)
 obtain⟨H1,g,f⟩:=e
 cases d with
 | true=>exact i ap s1 Z H1 Q g f
 | false=>exact hb ap s1 Z H1 Q g f
end
def SqL(K:Frag)(H:Hp)(a:Az)(xs:L9 V):Prop:=
 Rd H a (.lst xs) \/
  ∃ (o:Obj) (its:Array V9) (n:Nat),K.lookup a=some o/\o.cls=.type "list"/\o.dict=none/\o.data=.seq its n/\its.size<=sizeLine/\a8 xs its.toList
def SqT(K:Frag)(H:Hp)(a:Az)(xs:L9 V):Prop:=
 Rd H a (.tup xs) \/
  ∃ (o:Obj) (its:Array V9) (n:Nat),K.lookup a=some o/\(o.cls=.type "tuple"/\o.dict=none)/\o.data=.seq its n/\its.size<=sizeLine/\a8 xs its.toList
noncomputable def aZF:V9->O9 V
 | .none=>some .non
 | .bool b=>some (.bl b)
 | .int i _=>some (.int i)
 | .str x _=>some (.str x)
 | .bytes b _=>some (.byt b)
 | .float b _=>some (.flt b)
 | .ref a=>some (.ref a)
 | .type n=>some (.ty n)
 | _=>none
theorem aV.abs{x:V}(r:aV x u):aZF u=some x:=by
 cases x with
 | non=>cases r;rfl
 | bl _=>cases r;rfl
 | int _=>obtain⟨t,rfl⟩:=r;rfl
 | str _=>obtain⟨t,rfl⟩:=r;rfl
 | byt _=>obtain⟨t,rfl⟩:=r;rfl
 | flt _=>obtain⟨t,rfl⟩:=r;rfl
 | ref _=>cases r;rfl
 | ty _=>cases r;rfl
theorem aV.inj{x y:V}{u:V9}(r:aV x u)(q:aV y u):x=y:=BV (r.abs.symm.trans q.abs)
theorem a8.inj:∀ {xs ys:L9 V} {us:L9 V9},a8 xs us->a8 ys us->xs=ys
 | _,_,_,.nil,.nil=>rfl
 | _,_,_,.cons r t,.cons r' t'=>by rw[r.inj r',a8.inj t t']
section
variable{X:Cx}{ap:L9 (Az×Obj)}{Z:St}{H:Hp}{s:S9}{a:Az}{xs ys:L9 V}
theorem SqL.of(h:H a=some (.lst xs)):SqL K H a xs:=.inl (.inl h)
theorem SqT.of(h:H a=some (.tup xs)):SqT K H a xs:=.inl (.inl h)
theorem Inv.list(I:Inv X ap Z H s)(h:SqL X.K H a xs):∃ its:L9 V9,a8 xs its/\PlainL s.heap a its.toArray/\xs.length<=sizeLine:=by
 rcases h with h|⟨o,its,n,c,d,b,g,f,r⟩
 .obtain ⟨z,its,n,r⟩:=h.ok I.hok
  exact⟨its,r.1,⟨_,n,r.2,rfl,rfl,rfl⟩,z⟩
 .refine ⟨its.toList,r,⟨o,n,I.kIn a o c,d,b,by ext⟩,?_⟩
  have e:=r.length
  ext
theorem Inv.tuple(I:Inv X ap Z H s)(h:SqT X.K H a xs):∃ its:L9 V9,a8 xs its/\IsTup s.heap a its.toArray/\xs.length<=sizeLine:=by
 rcases h with h|⟨o,its,n,b,c,f,d,r⟩
 .obtain ⟨z,its,r⟩:=h.ok I.hok
  exact⟨its,r.1,r.2.t,z⟩
 .refine ⟨its.toList,r,⟨o,I.kIn a o b,c.1,n,by ext⟩,?_⟩
  have e:=r.length
  ext
theorem Inv.list_inj(I:Inv X ap Z H s)(h:SqL X.K H a xs)(h':SqL X.K H a ys):xs=ys:=by
 obtain⟨i,r,⟨o,n,e,_,_,d⟩,_⟩:=I.list h
 obtain⟨b,g,⟨o',j,f,_,_,c⟩,_⟩:=I.list h'
 rw[e]at f;cases f
 rw[d]at c
 injection c with d1 _
 have:=by simpa using congrArg Array.toList d1
 subst this
 exact r.inj g
theorem Inv.tuple_inj(I:Inv X ap Z H s)(h:SqT X.K H a xs)(h':SqT X.K H a ys):xs=ys:=by
 obtain⟨i,r,⟨o,e,_,n,d⟩,_⟩:=I.tuple h
 obtain⟨b,g,⟨o',f,_,j,c⟩,_⟩:=I.tuple h'
 rw[e]at f;cases f
 rw[d]at c
 injection c with d1 _
 have:=by simpa using congrArg Array.toList d1
 subst this
 exact r.inj g
end
abbrev Cx.wish(X:Cx)(E:V9->S9->Prop):Cx:={X with xe:=E}
abbrev Cx.nox(X:Cx):Cx:=X.wish λ_ _=>False
theorem Cx.Ok.wish{X:Cx}(ok:X.Ok)(E:V9->S9->Prop):(X.wish E).Ok:=
 ⟨ok.mod,ok.kind,ok.glob,ok.blt,ok.above,ok.inj,ok.has,ok.cab,ok.hd,ok.frames,ok.stk,ok.exf,ok.bs,ok.bsz,ok.noex,ok.exfs,ok.funs,ok.frf⟩
theorem Cx.Ok.unwish{X:Cx}(ok:(X.wish E).Ok):X.Ok:=
 ⟨ok.mod,ok.kind,ok.glob,ok.blt,ok.above,ok.inj,ok.has,ok.cab,ok.hd,ok.frames,ok.stk,ok.exf,ok.bs,ok.bsz,ok.noex,ok.exfs,ok.funs,ok.frf⟩
section
variable{X:Cx}{ap:L9 (Az×Obj)}{Z:St}{H:Hp}{s:S9}{E:V9->S9->Prop}
theorem Inv.wish(I:Inv X ap Z H s)(E:V9->S9->Prop):Inv (X.wish E) ap Z H s:=⟨I.ok.wish E,I.os,I.bare,I.base,I.loc,I.cell,I.free,I.freeC,I.pin,I.hok,I.len⟩
theorem Inv.unwish(I:Inv (X.wish E) ap Z H s):Inv X ap Z H s:=⟨I.ok.unwish,I.os,I.bare,I.base,I.loc,I.cell,I.free,I.freeC,I.pin,I.hok,I.len⟩
theorem SP.unwish{D:kC}{f:Flow}(h:SP (X.wish E) ap D f s'):SP X ap D f s':=by
 cases f with
 | next=>obtain⟨a,H',I,q⟩:=h;exact⟨a,H',I.unwish,q⟩
 | brk=>obtain⟨a,H',I,q⟩:=h;exact⟨a,H',I.unwish,q⟩
 | cont=>obtain⟨a,H',I,q⟩:=h;exact⟨a,H',I.unwish,q⟩
 | ret u=>obtain⟨v,a,H',I⟩:=h;exact⟨v,a,H',I.1.unwish,I.2.1,I.2.2⟩
theorem PE.nox{e:Ez}{t:TE}(h:PE X.nox e t):PE X e t:=λap s Z H Q I b=>
 BW (h ap s Z H Q (I.wish _) b) (λ_ _ v=>by obtain⟨v,H',a⟩:=v;exact⟨v,H',a.1.unwish,a.2.1,a.2.2⟩) λ_ _ z=>False.elim z
theorem PT.nox{e:Ez}{t:TT}(h:PT X.nox e t):PT X e t:=λap s Z H Q I b=>
 BW (h ap s Z H Q (I.wish _) b) (λ_ _ H'=>by obtain⟨H',a⟩:=H';exact⟨H',a.1.unwish,a.2⟩) λ_ _ z=>False.elim z
theorem PSs.nox{st:L9 Stmt}{t:TS}(h:PSs X.nox st t):PSs X st t:=λap s Z H D I a=>
 BW (h ap s Z H D (I.wish _) a) (λ_ _ q=>q.unwish) λ_ _ z=>False.elim z
end
section
variable{X:Cx}{st:Stmt}{rest:L9 Stmt}{t u:TS}{e:Ez}{te:TE}{pos:Pos}
def aXX:TS:=λD Z H=>D.nx Z H
def aZG(t u:TS):TS:=λD Z H=>t {D with nx:=u D} Z H
theorem o7:PSs X [] aXX:=λ_ _ Z H _ I h=>EU ⟨Z,H,I,h⟩
theorem aX(h1:PS X st t)(h2:PSs X rest u):PSs X (st::rest) (aZG t u):=by
 intro ap s Z H D I h
 refine EL (thn (h1 ap s Z H {D with nx:=u D} I h) λf s1 q=>?_)
 cases f with
 | next=>
  obtain⟨b,H',a⟩:=q
  exact h2 ap s1 b H' D a.1 a.2
 | ret v=>exact q
 | brk=>exact q
 | cont=>exact q
theorem dQ(h1:PS X st t):PSs X [st] t:=by
 intro ap s Z H D I h
 refine EL (thn (h1 ap s Z H D I h) λf s1 q=>?_)
 cases f with
 | next=>exact EU q
 | ret v=>ext
 | brk=>ext
 | cont=>ext
theorem Inv.quiet(I:Inv X ap Z H s):interactive X.env=false:=by simp[interactive,I.ok.kind]
def xH(te:TE):TS:=λD Z H=>te Z H λ_ H1=>D.nx Z H1
theorem jF(b:PE X e te)(c:autoParam (swapsWith e none pos.line X.env=pure false) z3):PS X (.Expr e pos) (xH te):=by
 intro ap s Z H D I h
 exact wpAny_Expr_any (thn (b ap s Z H _ I h) λv s1 x=>by obtain⟨x,H1,a⟩:=x;exact⟨Z,H1,a.1,a.2.2⟩) I.quiet c
def aZH(te:TE):TS:=λD Z H=>te Z H D.rt
theorem iU(b:PE X e te):PS X (.Return (some e) pos) (aZH te):=by
 intro ap s Z H D I h
 exact wpAny_Return_some (thn (b ap s Z H _ I h) λv s1 x=>by obtain⟨x,H1,a⟩:=x;exact⟨x,Z,H1,a.1,a.2.1,a.2.2⟩)
def aZI(c:TT)(t u:TS):TS:=λD Z H=>c Z H λb H1=>if b=true then t D Z H1 else u D Z H1
theorem xI{c:Ez}{a b:L9 Stmt}{tc:TT}(j:PT X c tc)(i:PSs X a t)(hb:PSs X b u):PS X (.If c a b pos) (aZI tc t u):=by
 intro ap s Z H D I h
 refine wpAny_If (thn (j ap s Z H _ I h) λd s1 e=>?_)
 obtain⟨H1,g,f⟩:=e
 cases d with
 | true=>exact i ap s1 Z H1 D g f
 | false=>exact hb ap s1 Z H1 D g f
end
abbrev TG:=V->St->Hp->(St->Hp->Prop)->Prop
abbrev TGs:=L9 V->St->Hp->(St->Hp->Prop)->Prop
def PG(X:Cx)(target:Ez)(t:TG):Prop:=
 ∀ (ap:L9 (Az×Obj)) (s:S9) (Z:St) (H:Hp) (v:V) (u:V9) (Q:St->Hp->Prop),Inv X ap Z H s->aV v u->t v Z H Q->
  wpAny (model X.prog X.w) X.A (assign target X.env u) (λ_ s'=>∃ Z' H',Inv X ap Z' H' s'/\Q Z' H') X.xe s
def PGs(X:Cx)(ts:L9 Ez)(t:TGs):Prop:=
 ∀ (ap:L9 (Az×Obj)) (s:S9) (Z:St) (H:Hp) (vs:L9 V) (us:L9 V9) (Q:St->Hp->Prop),Inv X ap Z H s->a8 vs us->t vs Z H Q->
  wpAny (model X.prog X.w) X.A (assignInOrder ((assignEach ts X.env).map (·.2)) us) (λ_ s'=>∃ Z' H',Inv X ap Z' H' s'/\Q Z' H') X.xe s
abbrev aHB:=V->V->V->Hp->(Hp->Prop)->Prop
def aUH(X:Cx)(t:aHB):Prop:=
 ∀ (ap:L9 (Az×Obj)) (s:S9) (Z:St) (H:Hp) (o i v:V) (ov iv u:V9) (Q:Hp->Prop),Inv X ap Z H s->aV o ov->aV i iv->aV v u->t o i v H Q->
  wpAny (model X.prog X.w) X.A (setItem ov iv u) (λ_ s'=>∃ H',Inv X ap Z H' s'/\Q H') X.xe s
section
variable{X:Cx}{pos:Pos}
def jG(i:Nat):TG:=λv Z H Q=>Q (Z.set i (some v)) H
theorem o8{i:Nat}(c:X.N.Nodup)(hi:X.N[i]? = some x)(hx:Loc X.env.scope x)(a:X.fn x=true\/X.env.scope.names.lookup x=some .local:=by first|exact .inl rfl|exact .inr rfl):PG X (.Name x pos) (jG i):=by
 intro ap s Z H v u Q I r h
 exact wpAny_assign_Name (v6 I c hi hx r (λs' b=>⟨_,H,b,h⟩) a)
def aMS:TGs:=λvs Z H Q=>vs=[]/\Q Z H
def aPG(t:TG)(u:TGs):TGs:=λvs Z H Q=>∃ v r,vs=v::r/\t v Z H λZ' H'=>u r Z' H' Q
theorem aE7:PGs X [] aMS:=by
 intro ap s Z H vs us Q I r h
 exact assignInOrder_nil ⟨Z,H,I,h.2⟩
theorem v7{e:Ez}{t:TG}{u:TGs}(h1:PG X e t)(h2:PGs X es u)
  (c:autoParam ((assignEach (e::es) X.env).map (·.2)=assign e X.env::(assignEach es X.env).map (·.2)) z3):PGs X (e::es) (aPG t u):=by
 intro ap s Z H vs us Q I r h
 obtain⟨v,g,e1,h⟩:=h
 subst e1
 cases r with
 | cons r rr=>
  rw[c]
  refine assignInOrder_cons (thn (h1 ap s Z H _ _ _ I r h) λ_ s1 a=>?_)
  obtain⟨b,H1,d,f⟩:=a
  exact h2 ap s1 b H1 _ _ Q d rr f
def aUI(K:Frag)(n:Nat)(t:TGs):TG:=λv Z H Q=>∃ a xs,v=.ref a/\SqT K H a xs/\xs.length=n/\t xs Z H Q
theorem aJJ{t:TGs}(m:X.calm=true)(h:PGs X es t)
  (i:autoParam ((assignEach es X.env).length=n) z3) (hst:autoParam ((assignEach es X.env).findIdx? (·.1)=none) z3):PG X (.Tuple es k pos) (aUI X.K n t):=by
 intro ap s Z H v u Q I r j
 obtain⟨a,xs,e1,c⟩:=j
 subst e1
 cases r
 obtain⟨d,g,f⟩:=I.tuple c.1
 refine assign_Tuple_tuple (I.ok.hd m) f.1 (by simp[i,<-c.2.1,g.length]) hst λh' l=>?_
 exact h ap _ Z H xs _ Q (I.kept (t':=s.toks) λb o e=>l b o (BG (AQ e)) e) (by ext) c.2.2
def aUJ(to ti:TE)(t:aHB):TG:=λv Z H Q=>to Z H λo H1=>ti Z H1 λi H2=>t o i v H2 λH3=>Q Z H3
theorem aUK{o i:Ez}{to b:TE}{t:aHB}(j:PE X o to)(hi:PE X i b)(f:aUH X t)
  (k:∀ v,assign (.Subscript o i pos) X.env v=(do
   let ov <-holding [v] (eval o X.env)
   let iv <-holding [v,ov] (eval i X.env)
   standAt pos
   holding [v,ov,iv] (setItem ov iv v)
   release [v,ov,iv] []):=by intro _;rfl):PG X (.Subscript o i pos) (aUJ to b t):=by
 intro ap s Z H v u Q I r h
 rw[k]
 refine AA (CL (thn (j ap s Z H _ I h) λov s1 a=>?_))
 obtain⟨x,H1,g,r1,l⟩:=a
 refine AA (CL (thn (hi ap s1 Z H1 _ g l) λiv m a=>?_))
 obtain⟨y,H2,c,r2,n⟩:=a
 refine AA (FD (AA (CL (thn (f ap m Z H2 x y v ov iv u _ c r1 r2 r n) λ_ p a=>?_))))
 obtain⟨H3,e,d⟩:=a
 exact wpAny_release ⟨Z,H3,e,d⟩
def lH(te:TE)(g:TG):TS:=λD Z H=>te Z H λx H1=>g x Z H1 D.nx
theorem aJK{e:Ez}{g:TG}(f:PE X e te)(b:PG X tg g)(c:autoParam (swapsWithSole [tg] e pos.line X.env=pure false) z3)(hw:autoParam (swappedStores [tg] e X.env=pure none) z3)
  (h1:autoParam ((assignEach [tg] X.env).map (·.2)=[assign tg X.env]) z3):PS X (.Assign [tg] e pos) (lH te g):=by
 intro ap s Z H D I h
 refine wpAny_Assign_stores (thn (f ap s Z H _ I h) λv s1 a=>?_) c hw
 obtain⟨x,H1,d,r1,i⟩:=a
 rw[h1]
 exact thn (b ap s1 Z H1 x v _ d r1 i) λ_ j q=>q
theorem eZ{i:Nat}{e:Ez}(j:X.N.Nodup)(hi:X.N[i]? = some x)(hx:Loc X.env.scope x)(f:PE X e te)(c:autoParam (swapsWith e (some (.Name x pos')) pos.line X.env=pure false) z3)(hf:X.fn x=true\/X.env.scope.names.lookup x=some .local:=by exact .inl rfl) :
  PS X (.Assign [.Name x pos'] e pos) (lH te (jG i)):=by
 intro ap s Z H D I h
 refine wpAny_Assign_Name (thn (f ap s Z H _ I h) λv s1 a=>?_) c
 obtain⟨y,H1,d,r1,g⟩:=a
 exact v6 d j hi hx r1 (λk b=>⟨_,H1,b,g⟩) hf
end
section
variable{X:Cx}{pos:Pos}
def aJL(c:TT)(tb:TS):TS:=λD Z H=>∃ W:Nat->St->Hp->Prop,(∃ m,W m Z H)/\∀ m Z H,W m Z H->
 c Z H λb H1=>if b=true then ∃ N:St->Hp->Prop,(∀ Z' H',N Z' H'->∃ m',m' < m/\W m' Z' H')/\tb {D with nx:=N,ct:=N,bk:=D.nx} Z H1 else D.nx Z H1
theorem nC{c:Ez}{tc:TT}{tb:TS}(r:PassesOwn (model X.prog X.w) X.A X.env X.xe)(y:PT X c tc)(hb:PSs X body tb):PS X (.While c body [] pos) (aJL tc tb):=by
 intro ap s Z H D I h
 obtain⟨W,⟨u,t⟩,d⟩:=h
 refine wpAny_While (codeAny_whileLoop (λn s'=>∃ Z' H',Inv X ap Z' H' s'/\W n Z' H') ?_ u ⟨Z,H,I,t⟩)
 rintro n s1 ⟨Z1,H1,I1,w1⟩
 refine C4 r (thn (y ap s1 Z1 H1 _ I1 (d n Z1 H1 w1)) λb x i=>?_)
 obtain⟨H2,p,q⟩:=i
 cases b with
 | true=>
  obtain⟨N,m⟩:=q
  refine C4 r (thn (hb ap x Z1 H2 _ p m.2) λf z e=>?_)
  cases f with
  | next=>
   obtain⟨a,H3,g,j⟩:=e
   obtain⟨l,k,o⟩:=m.1 a H3 j
   exact⟨l,k,a,H3,g,o⟩
  | cont=>
   obtain⟨a,H3,g,j⟩:=e
   obtain⟨l,k,o⟩:=m.1 a H3 j
   exact⟨l,k,a,H3,g,o⟩
  | brk=>exact e
  | ret v=>exact e
 | false=>
  exact EU ⟨Z1,H2,p,q⟩
end
structure It where
 go:Nat->Hp->Prop
 yld:Nat->Hp->V->Hp->Prop
 stop:Nat->Hp->Prop
def iV(X:Cx)(ap:L9 (Az×Obj))(H:Hp)(b:Az):Prop:=
 H b=none/\b≠X.env.locals/\b∉X.fs/\(b∈X.ex\/X.s₀.heap.objs.size<=b)/\(∀ x c,X.env.cells.lookup x=some c->c≠b)/\∀ p∈X.pn++ap,p.1≠b
theorem Inv.fpOk{X:Cx}{H':Hp}(I:Inv X ap Z H s)(hb:s.heap.objs.size<=b)(d:H' b=none):iV X ap H' b:=by
 refine⟨d,CJ (A3 I.lt hb),I.nofs hb,.inr (BB I.sz hb),λx c e z=>?_,λp a z=>?_⟩
 .obtain ⟨v,q⟩:=I.cell x c e
  exact absurd (A3 q.lt (by simp_all)) (B0 _)
 .exact absurd (A3 (AQ (I.pin p a).1) (by simp_all)) (B0 _)
structure Turn(P:Program)(w:World)(K:Frag)(tg:Expr)(J:It)(fp:List Az)(it:Az)(tn:Nat->Heap->Prop):Prop where
 mem:it∈fp
 obj:∀ i h,tn i h->∀ b∈fp,∃ o,h.get? b=some o/\∀ v,o.data≠.cell v
 keep:∀ i h h',tn i h->(∀ b∈fp,∀ o,h.get? b=some o->h'.get? b=some o)->tn i h'
 item:∀ (X:Cx),X.prog=P->X.w=w->X.K=K->X.calm=true->∀ (i:Nat) (ap:List (Az×Obj)) (s:S9) (Z:St) (H:Hp) (E:V9->S9->Prop),Inv X ap Z H s->(∀ b∈fp,iV X ap H b)->tn i s.heap->J.go i H->
  wpAny (model P w) X.A (pyNext (.ref it)) (λr s1=>∃ u,r=some u /\
   wpAny (model P w) X.A (letOwnedTupleGo tg (.ref it) u) (λ_ s2=>∃ x H',Inv X ap Z H' s2/\aV x u/\J.yld i H x H'/\tn (i+1) s2.heap/\∀ b∈fp,H' b=none) E s1) E s
 done:∀ (X:Cx),X.prog=P->X.w=w->X.K=K->X.calm=true->∀ (i:Nat) (ap:List (Az×Obj)) (s:S9) (Z:St) (H:Hp) (E:V9->S9->Prop),Inv X ap Z H s->(∀ b∈fp,iV X ap H b)->tn i s.heap->J.stop i H->
  wpAny (model P w) X.A (pyNext (.ref it)) (λr s1=>r=none/\Inv X ap Z H s1) E s
 self:∀ (A:Around) (i:Nat) (s:S9) (Q:V9->S9->Prop) (E:V9->S9->Prop),tn i s.heap->Q (.ref it) s->wpAny (model P w) A (pyIter (.ref it)) Q E s
abbrev TI:=St->Hp->(It->Hp->Prop)->Prop
def PIE(X:Cx)(ap:L9 (Az×Obj))(Z:St)(tg:Ez)(R:It->Hp->Prop)(itv:V9)(s2:S9):Prop:=
 ∃ (it:Az) (fp:L9 Az) (tn:Nat->Hz->Prop) (J:It) (H':Hp),itv=.ref it/\Inv X ap Z H' s2/\Turn X.prog X.w X.K tg J fp it tn/\tn 0 s2.heap/\(∀ b∈fp,iV X ap H' b)/\R J H'
def PI(X:Cx)(tg iter:Ez)(wi:TI):Prop:=
 ∀ (ap:L9 (Az×Obj)) (s:S9) (Z:St) (H:Hp) (R:It->Hp->Prop),Inv X ap Z H s->wi Z H R->
  wpAny (model X.prog X.w) X.A (eval iter X.env) (λv s1=>wpAny (model X.prog X.w) X.A (pyIter v) (PIE X ap Z tg R) X.xe s1) X.xe s
theorem aBV  {A : U9} {E : V9 -> S9 -> Prop} {s : S9}     {n : String}  {Q : Unit -> S9 -> Prop} (b : s.heap.get? it = some o) (d : o.cls = .type n) (c : o.data = .fields vs)
    (e : ["enumerate", "zip", "dict_itemiterator", "dict_reverseitemiterator", "odict_iterator", "itertools.zip_longest", "itertools.pairwise"].contains n = false) (a : Q () s) : wpAny M A (letOwnedTupleGo tg (.ref it) u) Q E s := by
  cases tg <;> first
    | exact AH a
    | (cases u <;> first
        | exact AH a
        | (refine AA (wpAny_load b ?_)
           rw [d, c]
           show wpAny M A (if (["enumerate", "zip", "dict_itemiterator", "dict_reverseitemiterator", "odict_iterator", "itertools.zip_longest", "itertools.pairwise"].contains n && vs[0]? == some _) = true then _ else _) Q E s
           rw [AL (by ext)]
           exact AH a))
def Itl(K:Frag)(a:Az):It:=
 ⟨λi H=>∃ xs x,SqL K H a xs/\xs[i]? = some x,λi H x H'=>H'=H/\∀ xs,SqL K H a xs->xs[i]? = some x,λi H=>∃ xs,SqL K H a xs/\xs.length<=i⟩
def Itt(K:Frag)(a:Az):It:=
 ⟨λi H=>∃ xs x,SqT K H a xs/\xs[i]? = some x,λi H x H'=>H'=H/\∀ xs,SqT K H a xs->xs[i]? = some x,λi H=>∃ xs,SqT K H a xs/\xs.length<=i⟩
noncomputable def Itr(lo:Int)(n:Nat):It:=⟨λi _=>i < n,λi H x H'=>H'=H/\x=.int (lo+i),λi _=>n<=i⟩
theorem aJM{w:W9}(a it:Az):Turn P w K tg (Itl K a) [it] it (λi h=>h.IsListIter it a i) where
 mem:=by simp
 obj:=λi h st b f=>by
  have e:b=it:=by simpa using f
  subst e
  obtain⟨o,e,c,d⟩:=st
  exact⟨o,e,λv z=>by rw[d]at z;cases z⟩
 keep:=λi h h' st k=>st.at λo e=>k it (by simp) o e
 item:=by
  intro X D F B J i ap s Z H E I l st A
  subst D F B
  obtain⟨xs,x,j,t⟩:=A
  obtain⟨C,m,p,L⟩:=I.list j
  obtain⟨u,O,M⟩:=m.get t
  obtain⟨q,G,T,y,r,n⟩:=l it (by simp)
  refine wpAny_pyNext_list_item st p.isList (x:=u) (by simpa using O) λh' g S=>?_
  have Q:Inv X ap Z H {s with heap:=h'}:=I.turned (t':=s.toks) (λb o f e=>(S.2 b f).trans e) q G y r n
  obtain⟨o,e,c,d⟩:=id g
  exact⟨u,rfl,aBV (s:={s with heap:=h'}) e c d (by decide) ⟨x,H,Q,M,⟨rfl,λys R=>by rw[I.list_inj R j];exact t⟩,g,λb f=>(l b f).1⟩⟩
 done:=by
  intro X D F B J i ap s Z H E I l st A
  subst D F B
  obtain⟨xs,j,t⟩:=A
  obtain⟨C,m,p,L⟩:=I.list j
  obtain⟨q,G,T,y,r,n⟩:=l it (by simp)
  have U:=m.length
  exact wpAny_pyNext_list_end (I.ok.hd J) st p.isList (by simp;ext) λh' N=>⟨rfl,I.turned (t':=s.toks) (λb o f e=>N b o f e) q G y r n⟩
 self:=λ_ _ _ _ _ st h=>wpAny_pyIter_listiter st h
theorem aHC{w:W9}(a it:Az):Turn P w K tg (Itt K a) [it] it (λi h=>h.IsTupleIter it a i) where
 mem:=by simp
 obj:=λi h st b f=>by
  have e:b=it:=by simpa using f
  subst e
  obtain⟨o,e,c,d⟩:=st
  exact⟨o,e,λv z=>by rw[d]at z;cases z⟩
 keep:=λi h h' st k=>st.at λo e=>k it (by simp) o e
 item:=by
  intro X D F C J i ap s Z H E I m st B
  subst D F C
  obtain⟨xs,x,l,y⟩:=B
  obtain⟨g,n,p,L⟩:=I.tuple l
  obtain⟨u,O,M⟩:=n.get y
  obtain⟨r,G,T,A,t,q⟩:=m it (by simp)
  refine wpAny_pyNext_tuple_item st (show s.heap.IsTuple a g.toArray from p) (x:=u) (by simpa using O) λh' j S=>?_
  have Q:Inv X ap Z H {s with heap:=h'}:=I.turned (t':=s.toks) (λb o f e=>(S.2 b f).trans e) r G A t q
  obtain⟨o,e,c,d⟩:=id j
  exact⟨u,rfl,aBV (s:={s with heap:=h'}) e c d (by decide) ⟨x,H,Q,M,⟨rfl,λys R=>by rw[I.tuple_inj R l];exact y⟩,j,λb f=>(m b f).1⟩⟩
 done:=by
  intro X D F C J i ap s Z H E I m st B
  subst D F C
  obtain⟨xs,l,y⟩:=B
  obtain⟨g,n,p,L⟩:=I.tuple l
  obtain⟨r,G,T,A,t,q⟩:=m it (by simp)
  have U:=n.length
  exact wpAny_pyNext_tuple_end (I.ok.hd J) st (show s.heap.IsTuple a g.toArray from p) (by simp;ext) λh' N=>⟨rfl,I.turned (t':=s.toks) (λb o f e=>N b o f e) r G A t q⟩
 self:=λ_ _ _ _ _ st h=>wpAny_pyIter_tupleiter st h
theorem aHD{w:W9}(it:Az)(lo:Int)(n:Nat):Turn P w K tg (Itr lo n) [it] it (λi h=>IsRangeIter h it (lo+(i:Nat) * 1) ((n:Int) - (i:Nat)) 1) where
 mem:=by simp
 obj:=λi h st b a=>by
  have e:b=it:=by simpa using a
  subst e
  exact⟨_,st,λv z=>by
   have D:Data.fields _=Data.cell v:=z
   cases D⟩
 keep:=λi h h' st k=>k it (by simp) _ st
 item:=by
  intro X p q j u i ap s Z H E I d st g
  subst p q j
  obtain⟨m,x,F,f,r,l⟩:=d it (by simp)
  have W:=Walks.range (prog:=X.prog) (w:=X.w) (I.ok.hd u) it lo 1 n
  refine W.item i s _ _ g st λv h' y B c A=>?_
  obtain⟨t,rfl⟩:=B
  have C:Inv X ap Z H {s with heap:=h',toks:=y}:=I.turned (λb o a e=>A b o (by simpa using a) e) m x f r l
  refine⟨_,rfl,aBV (s:={s with heap:=h',toks:=y}) (n:="range_iterator") c rfl rfl (by decide) ⟨.int (lo+i),H,C,⟨t,?_⟩,⟨rfl,rfl⟩,c,λb a=>(d b a).1⟩⟩
  rw[Int.mul_one]
 done:=by
  intro X p q j u i ap s Z H E I d st g
  subst p q j
  obtain⟨m,x,F,f,r,l⟩:=d it (by simp)
  exact wpAny_pyNext_range_end (I.ok.hd u) st (by have:n<=i:=g;ext) λh' G=>⟨rfl,I.turned (t':=s.toks) (λb o a e=>G b o a e) m x f r l⟩
 self:=λ_ _ _ _ _ st h=>wpAny_pyIter_rangeiter st h
section
variable{X:Cx}{tg:Ez}
theorem aCB{R:It->Hp->Prop}{lo hi:Int}{t u v:Tok}(I:Inv X ap Z H s)(h1 : -(2 ^ 62)<=lo)(h2:lo < 2 ^ 62)(d : -(2 ^ 62)<=hi)(f:hi < 2 ^ 62)
  (q:R (Itr lo (hi - lo).toNat) H):wpAny (model X.prog X.w) X.A (pyIter (.ref s.heap.objs.size)) (PIE X ap Z tg R) E {s with heap:=s.heap.push {cls:=.type "range",data:=.fields #[.int lo t,.int hi u,.int 1 v]},toks:=c}:=by
 refine wpAny_pyIter_range (IsRange.new ..) (small_one h1 h2 d f) ?_
 have a:Inv X ap Z H {s with heap:=s.heap.push {cls:=.type "range",data:=.fields #[.int lo t,.int hi u,.int 1 v]},toks:=c}:=I.kept λb o e=>AB _ e
 refine⟨(s.heap.push {cls:=.type "range",data:=.fields #[.int lo t,.int hi u,.int 1 v]}).objs.size,[(s.heap.push {cls:=.type "range",data:=.fields #[.int lo t,.int hi u,.int 1 v]}).objs.size],_,_,H,rfl,
  a.kept λb o e=>AB _ e,aHD _ lo _,?_,λb g=>?_,q⟩
 .have e1:lo+((0:Nat)) * 1=lo:=by simp
  have e2:(((hi - lo).toNat)) - ((0:Nat))=Builtin.Range.rangeSize lo hi 1:=by rw[rangeSize_one];ext
  rw[e1,e2]
  exact AY _ rfl
 .have e:b=(s.heap.push {cls:=.type "range",data:=.fields #[.int lo t,.int hi u,.int 1 v]}).objs.size:=by simpa using g
  subst e
  exact a.fpOk (AM _) (a.hok.fresh (AM _))
def aPH(ta:TA):TI:=λZ H R=>ta Z H λvs H1=>∃ j:Int,vs=[.int j] /\ -(2 ^ 62)<=j/\j < 2 ^ 62/\R (Itr 0 j.toNat) H1
def aPI(ta:TA):TI:=λZ H R=>ta Z H λvs H1=>∃ i j:Int,vs=[.int i,.int j]/\(-(2 ^ 62)<=i/\i < 2 ^ 62 /\ -(2 ^ 62)<=j/\j < 2 ^ 62)/\R (Itr i (j - i).toNat) H1
theorem aAW{a:Ez}{ta:TA}{p pos:Pos}(d:Gl X "range")(g:X.mg "range"=none)(k:PA X [a] ta)(f:autoParam (starEach [a] X.env=[(false,eval a X.env)]) z3):PI X tg (.Call (.Name "range" p) [a] [] pos) (aPH ta):=by
 intro ap s Z H R I h
 refine Call_ (mC I d g boot_range (CC (thn (k pos ap s Z H _ I h) λus s1 c=>?_) f rfl))
 obtain⟨vs,H1,i,r1,b⟩:=c
 obtain⟨j,e,b⟩:=b
 subst e
 cases r1 with
 | cons r rr=>
  cases rr
  obtain⟨t,rfl⟩:=r
  exact call_range_1 (aCB i (by simp) (by simp) b.1 b.2.1 (by simp_all))
theorem aAX{a b:Ez}{ta:TA}{p pos:Pos}(f:Gl X "range")(l:X.mg "range"=none)(n:PA X [a,b] ta)(v:autoParam (starEach [a,b] X.env=[(false,eval a X.env),(false,eval b X.env)]) z3)(hs2:autoParam (starEach [b] X.env=[(false,eval b X.env)]) z3) :
  PI X tg (.Call (.Name "range" p) [a,b] [] pos) (aPI ta):=by
 intro ap s Z H R I h
 refine Call_ (mC I f l boot_range (CC (thn (n pos ap s Z H _ I h) λus s1 c=>?_) (by simp_all) (by rw[hs2];rfl)))
 obtain⟨vs,H1,m,r1,d⟩:=c
 obtain⟨i,j,e,⟨d,o,g,k⟩,q⟩:=d
 subst e
 cases r1 with
 | cons r rr=>
  cases rr with
  | cons r' rr=>
   cases rr
   obtain⟨t,rfl⟩:=r
   obtain⟨u,rfl⟩:=r'
   exact call_range_2 (aCB m d o g k q)
def aMT(wi:TI)(g:TG)(tb:TS):TS:=λD Z H=>wi Z H λJ H1=>∃ W:Nat->Nat->St->Hp->Prop,(∃ m,W 0 m Z H1)/\∀ i m Z H,W i m Z H->
 (J.stop i H/\D.nx Z H)\/(J.go i H/\∃ N:St->Hp->Prop,(∀ Z' H',N Z' H'->∃ m',m' < m/\W (i+1) m' Z' H')/\∀ x H',J.yld i H x H'->g x Z H' λZ2 H2=>tb {D with nx:=N,ct:=N,bk:=D.nx} Z2 H2)
noncomputable def xJ(fp:L9 Az)(h:Hz):L9 (Az×Obj):=fp.filterMap λb=>(h.get? b).map λo=>(b,o)
theorem mT{a:L9 Az}{h:Hz}(hb:b∈a)(e:h.get? b=some o):(b,o)∈xJ a h:=CZ.mpr ⟨b,hb,by simp_all⟩
theorem aJN{a:L9 Az}{h:Hz}{p:Az×Obj}(f:p∈xJ a h):p.1∈a/\h.get? p.1=some p.2:=by
 obtain⟨b,d,e⟩:=CZ.mp f
 cases q:h.get? b with
 | none=>simp_all
 | some o=>
  rw[q]at e
  have c:=BV e
  subst c
  exact⟨d,q⟩
theorem Inv.pinned{a:L9 Az}(I:Inv X ap Z H s)(d:∀ b∈a,iV X ap H b)(e:∀ b∈a,∃ o,s.heap.get? b=some o/\∀ v,o.data≠.cell v):Inv X (ap++xJ a s.heap) Z H s:=
 I.pins_of λp f=>(BO.mp f).elim (λz=>I.pin p (BX _ z)) λz=>by
  have c:=aJN z
  obtain⟨g,h⟩:=d p.1 c.1
  have o:=e p.1 c.1
  simp_all
theorem Inv.unpinned{pl:L9 (Az×Obj)}(I:Inv X (ap++pl) Z H s):Inv X ap Z H s:=I.pins_of λp a=>I.pin p (BX _ (CT _ a))
theorem jR{k:Ez}{F:TI}{g:TG}{tb:TS}{pos:Pos}(t:PassesOwn (model X.prog X.w) X.A X.env X.xe)(O:X.calm=true)(hi:PI X tg k F)(S:PG X tg g)(hb:PSs X body tb)
  (hs:∀ x,foldedSetIterable k X.env x=pure x:=by intro _;rfl):PS X (.For tg k body [] pos) (aMT F g tb):=by
 intro ap s Z H D I h
 refine wpAny_For (thn (hi ap s Z H _ I h) λv s1 h1=>thn h1 λaa s2 h2=>?_) hs
 obtain⟨it,B,L,J,H2,e,I2,T,st2,M,W,⟨m0,w0⟩,y⟩:=h2
 subst e
 have j:∀ {H':Hp},(∀ b∈B,H' b=none)->∀ b∈B,iV X ap H' b:=λhn b hb=>⟨hn b hb,(M b hb).2⟩
 refine codeAny_forLoop_any (λn s'=>∃ i Z' H',Inv X ap Z' H' s'/\L i s'.heap/\(∀ b∈B,H' b=none)/\W i n Z' H') ?_ m0 ⟨0,Z,H2,I2,st2,λb hb=>(M b hb).1,w0⟩
 rintro n G ⟨i,Z3,H3,I3,st3,fr3,w3⟩
 rcases y i n Z3 H3 w3 with ⟨stop,qn⟩|⟨go,N,hN,step⟩
 .refine C4 t (thn (T.done X rfl rfl rfl O i ap G Z3 H3 X.xe I3 (j fr3) st3 stop) λr s4 c=>?_)
  obtain⟨hr,I4⟩:=c
  subst hr
  exact EU ⟨Z3,H3,I4,qn⟩
 .refine C4 t (thn (T.item X rfl rfl rfl O i ap G Z3 H3 X.xe I3 (j fr3) st3 go) λr s4 c=>?_)
  obtain⟨u,hr,h4⟩:=c
  subst hr
  refine C4 t (thn h4 λ_ V c=>?_)
  obtain⟨x,H5,P,Q,y5,q,C⟩:=c
  refine C4 t (thn (S _ V Z3 H5 x u _ (P.pinned (j C) (T.obj _ _ q)) Q (step x H5 y5)) λ_ Y c=>?_)
  obtain⟨U,H6,I6,R⟩:=c
  refine C4 t (thn (hb _ Y U H6 _ I6 R) λf E z=>?_)
  have l:∀ {p:St} {d:Hp},Inv X _ p d E->N p d->∃ m,m < n/\∃ i Z' H',Inv X ap Z' H' E/\L i E.heap/\(∀ b∈B,H' b=none)/\W i m Z' H':=λ{p d} a n7=>by
   obtain⟨m',K⟩:=hN p d n7
   refine⟨m',K.1,i+1,p,d,a.unpinned,T.keep _ _ _ q λb hb o e=>(a.pin _ (BX _ (BX _ (mT hb e)))).1,λb hb=>?_,K.2⟩
   obtain⟨o,e⟩:=T.obj _ _ q b hb
   exact(a.pin _ (BX _ (BX _ (mT hb e.1)))).2.1
  cases f with
  | next=>obtain⟨p,d,a⟩:=z;exact l a.1 a.2
  | cont=>obtain⟨p,d,a⟩:=z;exact l a.1 a.2
  | brk=>obtain⟨p,d,a⟩:=z;exact⟨p,d,a.1.unpinned,a.2⟩
  | ret v=>obtain⟨x7,p,d,a⟩:=z;exact⟨x7,p,d,a.1.unpinned,a.2.1,a.2.2⟩
end
abbrev R2:=V->V->Hp->VK->Prop
def OpR(X:Cx)(f:V9->V9->Sem V9)(r:R2):Prop:=
 ∀ (ap:L9 (Az×Obj)) (s:S9) (Z:St) (H:Hp) (x y:V) (v u:V9) (Q:VK),Inv X ap Z H s->aV x v->aV y u->r x y H Q->
  wpAny (model X.prog X.w) X.A (f v u) (EP X ap Z Q) X.xe s
def UnR(X:Cx)(f:V9->Sem V9)(r:V->Hp->VK->Prop):Prop:=
 ∀ (ap:L9 (Az×Obj)) (s:S9) (Z:St) (H:Hp) (x:V) (v:V9) (Q:VK),Inv X ap Z H s->aV x v->r x H Q->
  wpAny (model X.prog X.w) X.A (f v) (EP X ap Z Q) X.xe s
def jY(X:Cx)(f:V9)(r:L9 V->Hp->VK->Prop):Prop:=
 ∀ (ap:L9 (Az×Obj)) (s:S9) (Z:St) (H:Hp) (xs:L9 V) (us:L9 V9) (Q:VK),Inv X ap Z H s->a8 xs us->r xs H Q->
  wpAny (model X.prog X.w) X.A (call f us) (EP X ap Z Q) X.xe s
def tOp(r:R2)(ta tb:TE):TE:=λZ H Q=>ta Z H λx H1=>tb Z H1 λy H2=>r x y H2 Q
def tUn(r:V->Hp->VK->Prop)(ta:TE):TE:=λZ H Q=>ta Z H λx H1=>r x H1 Q
def rI(C:Int->Int->Prop)(g:Int->Int->V):R2:=λx y H Q=>∃ i j,x=.int i/\y=.int j/\C i j/\Q (g i j) H
def rI0(g:Int->Int->V):R2:=λx y H Q=>∃ i j,x=.int i/\y=.int j/\Q (g i j) H
def rU(g:Int->V):V->Hp->VK->Prop:=λx H Q=>∃ i,x=.int i/\Q (g i) H
section
variable{X:Cx}{a b c:Ez}{ta tb tc:TE}{pos:Pos}
theorem aMU(j:PE X a ta)(hb:PE X b tb){R:V->V->Hp->Prop}(I:Inv X ap Z H s)
  (h:ta Z H λx H1=>tb Z H1 λy H2=>R x y H2)  {f:V9->V9->Sem V9}
  (e:∀ v u s2 x y H2,Inv X ap Z H2 s2->aV x v->aV y u->R x y H2->wpAny (model X.prog X.w) X.A (f v u) Q X.xe s2) :
  wpAny (model X.prog X.w) X.A (eval a X.env) (λv s₁=>wpAny (model X.prog X.w) X.A (eval b X.env) (λu s₂=>wpAny (model X.prog X.w) X.A (f v u) Q X.xe s₂) X.xe s₁) X.xe s:=by
 refine thn (j ap s Z H _ I h) λv s1 c=>?_
 obtain⟨x,H1,g,r1,i⟩:=c
 refine thn (hb ap s1 Z H1 _ g i) λu s2 c=>?_
 obtain⟨y,H2,d,r2,k⟩:=c
 exact e v u s2 x y H2 d r1 r2 k
theorem aHE{c:Operator}(f:OpR X (binaryOp c) r)(j:PE X a ta)(hb:PE X b tb):PE X (.BinOp a c b pos) (tOp r ta tb):=by
 intro ap s Z H Q I h
 exact wpAny_BinOp (aMU j hb I h λv u g x y H2 d e i q=>f ap g Z H2 x y v u Q d e i q)
theorem aXY{c:UnaryOp}{r:V->Hp->VK->Prop}(d:UnR X (unaryOp c) r)(e:PE X a ta):PE X (.UnaryOp c a pos) (tUn r ta):=by
 intro ap s Z H Q I h
 exact UnaryOp_ (thn (e ap s Z H _ I h) λv s1 x=>by obtain⟨x,H1,b⟩:=x;exact d ap s1 Z H1 x v Q b.1 b.2.1 b.2.2)
theorem opI{f:V9->V9->Sem V9}{C:Int->Int->Prop}
  (a:∀ (i j:Int) (t u:Tok) (s:S9) (Q:V9->S9->Prop) (E:V9->S9->Prop),C i j->Q (.int (g i j) s.toks) {s with toks:=s.toks+1}->wpAny (model X.prog X.w) X.A (f (.int i t) (.int j u)) Q E s) :
  OpR X f (rI C λi j=>.int (g i j)):=by
 intro ap s Z H x y v u Q I d e h
 obtain⟨i,j,rfl,rfl,b⟩:=h
 obtain⟨t,rfl⟩:=d
 obtain⟨c,rfl⟩:=e
 exact a i j t c s _ _ b.1 ⟨.int _,H,I.tok _,⟨_,rfl⟩,b.2⟩
theorem aUL{f:V9->V9->Sem V9}
  (a:∀ (i j:Int) (t u:Tok) (s:S9) (Q:V9->S9->Prop) (E:V9->S9->Prop),Q (.int (g i j) s.toks) {s with toks:=s.toks+1}->wpAny (model X.prog X.w) X.A (f (.int i t) (.int j u)) Q E s) :
  OpR X f (rI0 λi j=>.int (g i j)):=by
 intro ap s Z H x y v u Q I c d h
 obtain⟨i,j,rfl,rfl,q⟩:=h
 obtain⟨t,rfl⟩:=c
 obtain⟨b,rfl⟩:=d
 exact a i j t b s _ _ ⟨.int _,H,I.tok _,⟨_,rfl⟩,q⟩
theorem aHF{f:V9->V9->Sem V9}{g:Int->Int->Bool}
  (a:∀ (i j:Int) (t u:Tok) (s:S9) (Q:V9->S9->Prop) (E:V9->S9->Prop),Q (.bool (g i j)) s->wpAny (model X.prog X.w) X.A (f (.int i t) (.int j u)) Q E s) :
  OpR X f (rI0 λi j=>.bl (g i j)):=by
 intro ap s Z H x y v u Q I c d h
 obtain⟨i,j,rfl,rfl,q⟩:=h
 obtain⟨t,rfl⟩:=c
 obtain⟨b,rfl⟩:=d
 exact a i j t b s _ _ ⟨.bl _,H,I,rfl,q⟩
def aMV(i j:Int):Prop:=(-(2 ^ 64) < i/\i < 2 ^ 64)\/(-(2 ^ 64) < j/\j < 2 ^ 64)
theorem aMV.ok{i j:Int}(h:aMV i j):IntMulOk i j:=by
 rcases h with ⟨h1,h2⟩|⟨h1,h2⟩
 · exact .of_left (intBits_le_64 h1 h2)
 · exact .of_right (intBits_le_64 h1 h2)
theorem aUM:OpR X (binaryOp .Add) (rI0 λi j=>.int (i+j)):=aUL λ_ _ _ _ _ _ _ q=>add_int q
theorem aUN:OpR X (binaryOp .Sub) (rI0 λi j=>.int (i - j)):=aUL λ_ _ _ _ _ _ _ q=>sub_int q
theorem aUO:OpR X (binaryOp .Mult) (rI aMV λi j=>.int (i * j)):=opI λ_ _ _ _ _ _ _ a q=>mul_int q a.ok
theorem aUP:OpR X (binaryOp .Mod) (rI (λ_ j=>0 < j) λi j=>.int (i % j)):=opI λi j _ _ _ _ _ a q=>mod_int' (by ext) (by rw[Int.fmod_eq_emod_of_nonneg i (by ext)];ext)
theorem unI{f:V9->Sem V9}{g:Int->Int}
  (a:∀ (i:Int) (t:Tok) (s:S9) (Q:V9->S9->Prop) (E:V9->S9->Prop),Q (.int (g i) s.toks) {s with toks:=s.toks+1}->wpAny (model X.prog X.w) X.A (f (.int i t)) Q E s) :
  UnR X f (rU λi=>.int (g i)):=by
 intro ap s Z H x v Q I b h
 obtain⟨i,rfl,q⟩:=h
 obtain⟨t,rfl⟩:=b
 exact a i t s _ _ ⟨.int _,H,I.tok _,⟨_,rfl⟩,q⟩
theorem aUQ:UnR X (unaryOp .USub) (rU λi=>.int (-i)):=unI λ_ _ _ _ _ q=>neg_int q
end
section
variable{X:Cx}{a b c:Ez}{ta tb tc:TE}{pos:Pos}
theorem xK{Q:VK}{k a:Bool}(I:Inv X ap Z H s)(q:Q (.bl k) H)(e:k=a):EP X ap Z Q (.bool a) s:=by
 subst e
 exact⟨.bl k,H,I,rfl,q⟩
theorem aXZ:OpR X (compareOp .Lt) (rI0 λi j=>.bl (decide (i < j))):=aHF λ_ _ _ _ _ _ _ q=>lt_int q
theorem aX0:OpR X (compareOp .LtE) (rI0 λi j=>.bl (decide (i<=j))):=aHF λ_ _ _ _ _ _ _ q=>le_int q
theorem aX1:OpR X (compareOp .Gt) (rI0 λi j=>.bl (decide (j < i))):=aHF λ_ _ _ _ _ _ _ q=>gt_int q
theorem aX2:OpR X (compareOp .GtE) (rI0 λi j=>.bl (decide (j<=i))):=aHF λ_ _ _ _ _ _ _ q=>ge_int q
theorem aJO:OpR X (compareOp .In) (λx y H Q=>∃ i j,x=.str i/\y=.str j/\Q (.bl (!(Builtin.Str.occurrences j i 0 j.length 1).isEmpty)) H):=by
 intro ap s Z H x y v u Q I a b h
 obtain⟨i,j,rfl,rfl,q⟩:=h
 obtain⟨t,rfl⟩:=a
 obtain⟨c,rfl⟩:=b
 exact in_str (xK I q rfl)
theorem aUR:OpR X (compareOp .Is) (λx y H Q=>y=.non/\Q (.bl (decide (x=.non))) H):=by
 intro ap s Z H x y v u Q I a b h
 obtain⟨rfl,q⟩:=h
 cases b
 refine is_none_gen (xK I q ?_)
 cases x<;>first
  | rfl
  | (obtain⟨t,rfl⟩:=a;rfl)
theorem aQI:OpR X (compareOp .IsNot) (λx y H Q=>y=.non/\Q (.bl (!decide (x=.non))) H):=by
 intro ap s Z H x y v u Q I a b h
 obtain⟨rfl,q⟩:=h
 cases b
 refine isnot_none_gen (xK I q ?_)
 cases x<;>first
  | rfl
  | (obtain⟨t,rfl⟩:=a;rfl)
theorem aCC:OpR X (compareOp .NotIn) (λx y H Q=>∃ i j,x=.str i/\y=.str j/\Q (.bl (!(!(Builtin.Str.occurrences j i 0 j.length 1).isEmpty))) H):=by
 intro ap s Z H x y v u Q I a b h
 obtain⟨i,j,rfl,rfl,q⟩:=h
 obtain⟨t,rfl⟩:=a
 obtain⟨c,rfl⟩:=b
 exact notIn_str (xK I q rfl)
theorem fS(b:Ez){a:CmpOp}(h:autoParam (a≠.In) z5)(h2:autoParam (a≠.NotIn) z5):behindInMarks a b=false:=by
 have e1:(a == CmpOp.In)=false:=by ext
 have e2:(a == CmpOp.NotIn)=false:=by ext
 cases b<;>simp[behindInMarks,e1,e2]
theorem aQJ{c:CmpOp}(g:OpR X (compareOp c) r)(k:PE X a ta)(hb:PE X b tb)(f:behindInMarks c b=false):PE X (.Compare a [c] [b] pos) (tOp r ta tb):=by
 intro ap s Z H Q I h
 exact wpAny_Compare1 (aMU k hb I h λv u i x y H2 d e j q=>g ap i Z H2 x y v u Q d e j q) f
def aPJ(t:TE):TT:=λZ H Q=>t Z H λx H'=>∃ k,x=.bl k/\Q k H'
theorem zB{d:CmpOp}(n:OpR X (compareOp d) r)(p:PE X a ta)(hb:PE X b tb)(j:behindInMarks d b=false):PT X (.Compare a [d] [b] pos) (aPJ (tOp r ta tb)):=by
 intro ap s Z H Q I h
 refine wpAny_isTrue_Compare1 (thn (p ap s Z H _ I h) λv s1 ⟨x,H1,l,r1,m⟩=>thn (hb ap s1 Z H1 _ l m) λu o ⟨y,H2,f,r2,q⟩=>
  thn (n ap o Z H2 x y v u _ f r1 r2 q) λc w ⟨z,H3,i,t,k,e,g⟩=>?_) j
 subst e
 cases t
 exact FK ⟨H3,i,g⟩
theorem aCD:(sizeLine:Nat) < 2 ^ 63:=by decide
theorem aHG:OpR X (binaryOp .Add) (λx y H Q=>∃ i j,x=.str i/\y=.str j/\i.length+j.length<=sizeLine/\Q (.str (i++j)) H):=by
 intro ap s Z H x y v u Q I c d h
 obtain⟨i,j,rfl,rfl,a⟩:=h
 obtain⟨t,rfl⟩:=c
 obtain⟨b,rfl⟩:=d
 exact add_str (λb e=>⟨.str _,H,I.tok _,⟨_,rfl⟩,a.2⟩) a.1
theorem qF{x:V}(r:a8 [x] us):∃ u,us=[u]/\aV x u:=by
 cases r with
 | cons r1 r2=>cases r2;exact⟨_,rfl,r1⟩
theorem xL{x y:V}(r:a8 [x,y] us):∃ u w',us=[u,w']/\aV x u/\aV y w':=by
 cases r with
 | cons r1 r2=>
  cases r2 with
  | cons r3 r4=>cases r4;exact⟨_,_,rfl,r1,r3⟩
theorem aMW:jY X (.builtin "abs") (λxs H Q=>∃ i,xs=[.int i]/\Q (.int (if i < 0 then -i else i)) H):=by
 intro ap s Z H xs us Q I r h
 obtain⟨i,rfl,q⟩:=h
 obtain⟨u,rfl,t,rfl⟩:=qF r
 exact call_abs_int λu a=>⟨.int _,H,I.tok _,⟨_,rfl⟩,q⟩
theorem aJP(b:X.calm=true):jY X (.builtin "max") (λxs H Q=>∃ i j,xs=[.int i,.int j]/\Q (.int (if j > i then j else i)) H):=by
 intro ap s Z H xs us Q I r h
 obtain⟨i,j,rfl,q⟩:=h
 obtain⟨u,e,rfl,⟨t,rfl⟩,⟨c,rfl⟩⟩:=xL r
 refine max_two_ints (I.ok.hd b) λh' d k=>⟨_,H,I.kept k,?_,q⟩
 by_cases a:j > i
 · rw [AJ a, AJ a]; exact⟨_, rfl⟩
 · rw [AL a, AL a]; exact⟨_, rfl⟩
theorem aAY(b:X.calm=true):jY X (.builtin "min") (λxs H Q=>∃ i j,xs=[.int i,.int j]/\Q (.int (if j < i then j else i)) H):=by
 intro ap s Z H xs us Q I r h
 obtain⟨i,j,rfl,q⟩:=h
 obtain⟨u,e,rfl,⟨t,rfl⟩,⟨c,rfl⟩⟩:=xL r
 refine min_two_ints (I.ok.hd b) λh' d k=>⟨_,H,I.kept k,?_,q⟩
 by_cases a:j < i
 · rw [AJ a, AJ a]; exact⟨_, rfl⟩
 · rw [AL a, AL a]; exact⟨_, rfl⟩
theorem aJQ:jY X (.type "int") (λxs H Q=>(∃ i,xs=[.int i]/\Q (.int i) H)\/∃ k,xs=[.bl k]/\Q (.int (if k then 1 else 0)) H):=by
 intro ap s Z H xs us Q I r h
 rcases h with ⟨i,rfl,q⟩|⟨k,rfl,q⟩
 .obtain ⟨u,rfl,t,rfl⟩:=qF r
  exact call_int_int ⟨.int i,H,I,⟨_,rfl⟩,q⟩
 .obtain ⟨u,rfl,r1⟩:=qF r
  cases r1
  exact call_int_bool ⟨.int _,H,I.tok _,⟨_,rfl⟩,q⟩
def aUS(K:Frag)(x:V)(H:Hp)(n:Nat):Prop:=
 match x with
 | .str y=>y.length<=sizeLine/\n=y.length
 | .byt y=>y.size<=sizeLine/\n=y.size
 | .ref p=>(∃ xs,SqL K H p xs/\n=xs.length)\/∃ xs,SqT K H p xs/\n=xs.length
 | _=>False
theorem aCE:jY X (.builtin "len") (λxs H Q=>∃ x n,xs=[x]/\aUS X.K x H n/\Q (.int n) H):=by
 intro ap s Z H xs us Q I r h
 obtain⟨x,n,rfl,e,q⟩:=h
 obtain⟨u,rfl,c⟩:=qF r
 have l:=sizeLine_eq
 cases x with
 | str y=>
  obtain⟨t,rfl⟩:=c
  obtain⟨j,b⟩:=e
  subst b
  exact len_str (by ext) ⟨.int _,H,I.tok _,⟨_,rfl⟩,q⟩
 | byt y=>
  obtain⟨t,rfl⟩:=c
  obtain⟨j,b⟩:=e
  subst b
  exact PySem.W.len_bytes (by ext) ⟨.int _,H,I.tok _,⟨_,rfl⟩,q⟩
 | ref p=>
  cases c
  have b:=e
  rcases b with ⟨xs,i,b⟩|⟨xs,i,b⟩
  .subst b
   obtain⟨f,d,g,k⟩:=I.list i
   have a:=d.length
   exact Calls.call_len_list g.isList (by simp only[CA];ext) ⟨.int xs.length,H,I.tok _,⟨_,by simp only[CA];rw[a]⟩,q⟩
  .subst b
   obtain⟨f,d,g,k⟩:=I.tuple i
   have a:=d.length
   exact len_tuple g (by simp only[CA];ext) ⟨.int xs.length,H,I.tok _,⟨_,by simp only[CA];rw[a]⟩,q⟩
 | _=>exact((e)).elim
end
structure ObjM(h:Heap)(x dx C:Az)(mA:Str->Option V9):Prop where
 obj:h.get? x=some (instObj C dx)
 ns:h.Ns1 dx mA
 ne:dx≠x
theorem aAZ{h:Hz}{dx:Az}(n:h.Ns1 dx mA):∃ od,h.get? dx=some od/\∀ name,lookIn name od=some (mA name):=by
 obtain⟨o,es,f,c⟩:=n
 refine⟨o,c.1,λname=>?_⟩
 have e:=c.2.2.2.2 name
 unfold nsFind findBy at e
 rw[<-Array.find?_toList]at e
 unfold lookIn
 rw[c.2.1]
 dsimp
 split
 .simp_all
 .rename_i q
  rw[q]at e
  have a:es.toList.any (·.refKey)=false:=by
   rw[List.any_eq_false]
   intro y d
   obtain⟨z,t,b⟩:=c.2.2.1 y (Array.mem_toList_iff.mp d)
   simp[DictEntry.refKey,b]
  ext
theorem ObjM.look{h:Hz}{x dx:Az}(I:ObjM h x dx C mA):∃ od,PySem.W.InstAt h x (instObj C dx) C (some od)/\∀ name,lookIn name od=some (mA name):=
 let ⟨od,ho,hl⟩:=aAZ I.ns
 ⟨od,⟨I.obj,rfl,rfl,ho⟩,hl⟩
section
variable{prog:P9}{w:W9}{A:U9}{E:V9->S9->Prop}{s:S9}{K:Frag}{x dx C f:Az}{mA:Str->O9 V9}{name:Str}{v:V9}
theorem aMX{Q:V9×L9 V9->S9->Prop}(X:K.In s.heap)(I:ObjM s.heap x dx C mA)(a:plainGet K C name=true)
  (b:findIn K (.ref C) name=some (some (.ref f))) (c:isFn K (.ref f)=true) (d:mA name=none) (h:Q (.ref f,[.ref x]) s) :
  wpAny (model prog w) A (getMethod (.ref x) name pl) Q E s:=by
 obtain⟨od,J⟩:=I.look
 exact PySem.W.method_fn X J.1 (plainGet_of a).1 (plainGet_of a).2 b (beq_iff_eq.mp c) (by show(lookIn name od).map _=some false;simp_all) h
theorem aQK{ns:L9 Str}{Q:Unit->S9->Prop}(X:K.In s.heap)(I:ObjM s.heap x dx C mA)
  (f:findIn K (.ref C) "__setattr__"=some (some (.builtin "object.__setattr__"))) (k:plainOver K C=true) (g:takerIn K C name=some none) (i:hasDictIn K C=true)
  (hw:PySem.Within mA ns) (hsz:ns.length<=sizeLine)
  (h:∀ h',ObjM h' x dx C (λy=>if y=name then some v else mA y)->Heap.SameBut dx s.heap h'->Q () {s with heap:=h',toks:=s.toks+2}) :
  wpAny (model prog w) A (setAttr (.ref x) name v) Q E s:=by
 obtain⟨od,J⟩:=I.look
 refine PySem.W.set_plain X J.1 f (PySem.W.osa_open X J.1 k g λb=>?_)
 obtain⟨cd,e⟩:=PySem.W.any_some i
 refine AA (AH (AA (AA (wpAny_loadPart I.obj (AA (PySem.W.Looks.here (PySem.W.looks_clsIn X e.1) ?_))))))
 rw[e.2]
 refine AH (AA (AH (AA ?_)))
 refine wpAny_nsSet1 I.ns λh' c d=>?_
 obtain⟨m,l,j,a⟩:=c.count (PySem.Within.cons name v hw)
 refine AA (wpAny_lookBehind a.1 (by rw[a.2.1];exact pastItsLine_dict (BB a.2.2 (by ext))) ?_)
 exact AH (h _ ⟨(d.2 _ (BQ I.ne)).trans I.obj,c,I.ne⟩ d)
theorem aMY{R:Result->S9->Prop}{vs:L9 V9}{b:L9 (Str×V9)}(X:K.In s.heap)(d:makesIn K C=true)
 (hi:findIn K (.ref C) "__init__"=some (some (.ref f))) (c:typeIn K (.ref f)=some (.type "function"))
 (h:codeAny (model prog w) (A.under (.builtin "type.__call__" ⟨.ref C::vs,b⟩)) (.call (.ref f) ⟨.ref (s.heap.objs.size+1)::vs,b⟩) (PySem.W.InitBack (s.heap.objs.size+1) R)
  {s with heap:=(s.heap.push emptyDict).push (instObj C s.heap.objs.size)}) :
 codeAny (model prog w) A (.call (.ref C) ⟨vs,b⟩) R s:=PySem.W.make_core (PySem.W.makes_of X d) (PySem.W.looks_findIn X hi) (λa=>PySem.W.bind_fn X a c) (.inl rfl) h
end
noncomputable def j4(f:Str)(v:V):L9 (Str×V)->L9 (Str×V)
 | []=>[(f,v)]
 | (g,x)::r=>if g=f then(g,v)::r else(g,x)::j4 f v r
theorem vL(f g:Str)(v:V):∀ fs:L9 (Str×V),(j4 f v fs).lookup g=if g=f then some v else fs.lookup g
 | []=>by
  show List.lookup g [(f,v)]=_
  ext
 | (k,x)::r=>by
  have ih:=vL f g v r
  rw[show j4 f v _=(if k=f then(k,v)::r else(k,x)::j4 f v r)from rfl]
  ext
theorem r6(f:Str)(v:V):∀ fs:L9 (Str×V),f∈(j4 f v fs).map (·.1)/\∀ g,g∈fs.map (·.1)->g∈(j4 f v fs).map (·.1)
 | []=>⟨by simp[j4],λg h=>by simp_all⟩
 | (k,x)::r=>by
  have i1:=r6 f v r
  rw[show j4 f v _=(if k=f then(k,v)::r else(k,x)::j4 f v r)from rfl]
  ext
theorem vM(f:Str)(v:V):∀ fs:L9 (Str×V),(j4 f v fs).length<=fs.length+1
 | []=>by simp[j4]
 | (k,x)::r=>by
  have ih:=vM f v r
  rw[show j4 f v _=(if k=f then(k,v)::r else(k,x)::j4 f v r)from rfl]
  ext
theorem lG.some_of{v:V}{o:O9 V9}(r:lG (some v) o):∃ u,o=some u/\aV v u:=by
 cases o with
 | none=>exact((r)).elim
 | some u=>exact⟨u,rfl,r⟩
theorem lG.none_of{o:O9 V9}(r:lG none o):o=none:=by
 cases o with
 | none=>rfl
 | some u=>exact((r)).elim
section
variable{P:P9}{w:W9}{H H':Hp}{h h':Hz}{a C dx:Az}{fs fs':L9 (Str×V)}
theorem zC(hok:HOk P w H h)(e:H a=some (.ins C dx fs)):∃ mA,ObjM h a dx C mA/\(∀ f,lG (fs.lookup f) (mA f))/\PySem.Within mA (fs.map (·.1))/\fs.length<=1000/\H dx=some (.own a):=by
 obtain⟨d,z,c,b,mA,n⟩:=((hok a _ e))
 exact⟨mA,⟨b,n.1,c⟩,n.2.1,n.2.2,z,d⟩
end
structure Cls(K:Frag)(C:Az):Prop where
 pg:plainGet K C Str.empty=true
 hd:hasDictIn K C=true
 po:plainOver K C=true
 sa:findIn K (.ref C) "__setattr__"=some (some (.builtin "object.__setattr__"))
theorem Cls.get{K:Frag}{C:Az}(c:Cls K C)(f:Str):plainGet K C f=true:=c.pg
def jS(K:Frag)(C:Az)(f:Str):Prop:=findIn K (.ref C) f=some none
theorem jS.taker{f:Str}(n:jS K C f):takerIn K C f=some none:=by
 unfold takerIn
 rw[(n)]
 rfl
structure Meth(K:Frag)(C:Az)(m:Str)(f:Az):Prop where
 at_:findIn K (.ref C) m=some (some (.ref f))
 fn:isFn K (.ref f)=true
 kp:keepIn K (.ref f)=true
section
variable{X:Cx}{ap:L9 (Az×Obj)}{Z:St}{H:Hp}{s:S9}{a C dx:Az}{fs:L9 (Str×V)}{f:Str}{v:V}{A:U9}{E:V9->S9->Prop}
theorem aHH{g:Az}{Q:V9×L9 V9->S9->Prop}(I:Inv X ap Z H s)(e:H a=some (.ins C dx fs))(c:Cls X.K C)(k:Meth X.K C m g)(l:fs.lookup m=none)
  (h:Q (.ref g,[.ref a]) s):wpAny (model X.prog X.w) A (getMethod (.ref a) m pl) Q E s:=by
 obtain⟨mA,O⟩:=zC I.hok e
 exact aMX I.kIn O.1 (c.get m) k.at_ k.fn (lG.none_of (by rw[<-l];exact O.2.1 m)) h
theorem aHI{y:V}{Q:Unit->S9->Prop}(I:Inv X ap Z H s)(e:H a=some (.ins C dx fs))(c:Cls X.K C)(n:jS X.K C f)(t:fs.length < 1000)(p:aV y u)
  (h:∀ s',Inv X ap Z (upd H a (.ins C dx (j4 f y fs))) s'->Q () s'):wpAny (model X.prog X.w) A (setAttr (.ref a) f u) Q E s:=by
 obtain⟨mA,O,r,i,_,m⟩:=zC I.hok e
 refine aQK I.kIn O c.sa c.po n.taker c.hd i (by rw[AC,sizeLine_eq];ext) λh' d l=>h _ ?_
 refine I.write (by rw[e];exact True.intro) (.inr m) (λb q k z=>(l.2 b k).trans z) (let ⟨o,_,_,e',_⟩:=d.ns;⟨o,e'⟩) ?_
 refine⟨by rw[aG O.ne];ext,?_,O.ne,d.obj,_,d.ns,λg=>?_,λg j=>?_⟩
 .have:=vM f y fs;ext
 .rw[vL]
  by_cases q:g=f
  .rw[AJ q,AJ q];exact p
  simp_all
 .by_cases q:g=f
  .rw[q];exact(r6 f y fs).1
  .refine (r6 f y fs).2 g (i g λz=>j ?_)
   simp_all
theorem Inv.made(I:Inv X ap Z H s):Inv X ap Z (upd (upd H s.heap.objs.size (.own (s.heap.objs.size+1))) (s.heap.objs.size+1) (.ins C s.heap.objs.size []))
  {s with heap:=(s.heap.push emptyDict).push (instObj C s.heap.objs.size)}:=by
 have e2:=by
  have:=AY (s.heap.push emptyDict) (o:=instObj C s.heap.objs.size) rfl
  rwa [BP]at this
 refine(I.laid (o:=.own (s.heap.objs.size+1)) (t':=s.toks) (λb u q=>AB _ q) (AM _) ⟨_,(AY s.heap rfl)⟩).laid (λb u q=>AB _ q) (D8 (BP _ _)) ?_
 refine⟨by rw[aG (BG (DC _)),aO],B5 _,(BG (DC _)),e2,λ_=>none,(Heap.Ns1.of_empty (⟨emptyDict,#[],_,(AY s.heap rfl),rfl,(λe c=>absurd c (by simp)),λ_=>rfl⟩)).at λo q=>AB _ q,λ_=>True.intro,λy a=>absurd rfl a⟩
end
def aZJ(K:Frag)(ta tv:TE)(f:Str):TS:=λD Z H=>tv Z H λy H1=>ta Z H1 λx H2=>∃ a C dx fs,x=.ref a/\H2 a=some (.ins C dx fs)/\Cls K C/\jS K C f/\fs.length < 1000 /\
 D.nx Z (upd H2 a (.ins C dx (j4 f y fs)))
section
variable{X:Cx}{o e value:Ez}{f:Str}{pos pos' tpos:Pos}{ta tv:TE}
theorem o9(m:PE X o ta)(j:PE X value tv)(g:swapsWith value (some (.Attribute o f pos')) pos.line X.env=pure false):PS X (.Assign [.Attribute o f pos'] value pos) (aZJ X.K ta tv f):=by
 intro ap s Z H D I h
 refine plainObj_wpAny_Assign_Attribute (thn (j ap s Z H _ I h) λu s1 ⟨y,H1,k,r,q⟩=>thn (m ap s1 Z H1 _ k q) λv z b=>?_) g
 obtain⟨x,H2,d,i,a,C,dx,fs,ex,p,c,n,l,t⟩:=b
 subst ex
 obtain rfl:=i
 exact aHI d p c n l r λw e=>⟨Z,_,e,t⟩
theorem aE1{args:L9 Ez}(o:PE X e te)(I:Inv X ap Z H s)
  (h:te Z H λx H1=>∃ a C dx fs g,x=.ref a/\H1 a=some (.ins C dx fs)/\Cls X.K C/\Meth X.K C m g/\fs.lookup m=none /\
   ∀ s1,Inv X ap Z H1 s1->wpAny (model X.prog X.w) X.A (callWith pos (.ref g) [.ref a] (backTo pos (starEach args X.env)) (backToKw pos (keywordEach [] X.env))) Q X.xe s1)
  (n:eval (.Call (.Attribute e m apos) args [] pos) X.env=(do
   let ov <-eval e X.env
   standAt apos.atName
   let (f,first) <-holding [ov] (getMethod ov m pl)
   callWith pos f first (backTo pos (starEach args X.env)) (backToKw pos (keywordEach [] X.env)))) :
  wpAny (model X.prog X.w) X.A (eval (.Call (.Attribute e m apos) args [] pos) X.env) Q X.xe s:=by
 refine GU (thn (o ap s Z H _ I h) λu s1 b=>?_) n
 obtain⟨x,H1,d,j,a,C,dx,fs,g,ex,i,c,k,l,q⟩:=b
 subst ex
 obtain rfl:=j
 exact aHH d i c k l (q s1 d)
end
section
variable{X:Cx}{ap:L9 (Az×Obj)}{Z:St}{H:Hp}{s:S9}{A:U9}{E:V9->S9->Prop}{Q:V9->S9->Prop}{c:V9}{b:Bool}
inductive TyOf(K:Frag)(H:Hp):V->V9->Prop where
 | non:TyOf K H .non (.type "NoneType")
 | bl (x:Bool):TyOf K H (.bl x) (.type "bool")
 | int (i:Int):TyOf K H (.int i) (.type "int")
 | str (x:Str):TyOf K H (.str x) (.type "str")
 | flt (x:UInt64):TyOf K H (.flt x) (.type "float")
 | lst {a:Az} {xs:List V} (e:H a=some (.lst xs)):TyOf K H (.ref a) (.type "list")
 | frz {a:Az} {o:Obj} {xs:List V} (e:H a=some (.frz o (.lst xs))):TyOf K H (.ref a) (.type "list")
 | tup {a:Az} {xs:List V} (e:H a=some (.tup xs)):TyOf K H (.ref a) (.type "tuple")
 | dK {a:Az} {a0:List (Key×V)} (e:H a=some (.dK a0)):TyOf K H (.ref a) (.type "dict")
 | dT {a:Az} {a0:List (List Key×V)} (e:H a=some (.dT a0)):TyOf K H (.ref a) (.type "dict")
 | ins {a C dx:Az} {fs:List (Str×V)} (e:H a=some (.ins C dx fs)) (cl:Cls K C) (ha:findIn K (.ref C) "__class__"=some (some (.builtin "object.__class__")))
  (hn:specialIn K (.builtin "object.__class__") "__get__"=some (some (.builtin "getset_descriptor.__get__"))) (htk:takesIn K (.builtin "object.__class__")=some true)
  (hm:PySem.W.mroIn K C (.type "object")=some true):TyOf K H (.ref a) (.ref C)
theorem aJR{x:V}{t:V9}(I:Inv X ap Z H s)(d:aV x u)(ty:TyOf X.K H x t)(e:kitOne X.K t c=some b)(h:∀ tk,Q (.bool b) {s with toks:=tk}) :
  wpAny (model X.prog X.w) A (call (.builtin "isinstance") [u,c]) Q E s:=by
 cases ty with
 | non=>cases((d));exact B1 PySem.W.kitx_none I.kIn True.intro e (λz=>nomatch z) h
 | bl y=>cases((d));exact B1 PySem.W.kitx_bool I.kIn True.intro e (λz=>nomatch z) h
 | int i=>obtain⟨t,q⟩:=((d));cases q;exact B1 PySem.W.kitx_int I.kIn True.intro e (λz=>nomatch z) h
 | str y=>obtain⟨t,q⟩:=((d));cases q;exact B1 PySem.W.kitx_str I.kIn True.intro e (λz=>nomatch z) h
 | flt y=>obtain⟨t,q⟩:=((d));cases q;exact B1 PySem.W.kitx_float I.kIn True.intro e (λz=>nomatch z) h
 | @lst a xs ea=>
  cases((d))
  obtain⟨_,_,n,h1⟩:=((I.hok a _ ea))
  exact B1 FM I.kIn ⟨_,h1.2,rfl⟩ e (λz=>nomatch z) h
 | @frz a ob xs ea=>
  cases((d))
  obtain⟨_,_,_,n,h1⟩:=((I.hok a _ ea))
  exact B1 FM I.kIn ⟨_,h1.2,rfl⟩ e (λz=>nomatch z) h
 | @tup a xs ea=>
  cases((d))
  obtain⟨_,_,p⟩:=((I.hok a _ ea))
  obtain⟨o,h1⟩:=p.2
  exact B1 kitx_tuple I.kIn ⟨o,h1.1,h1.2.1.1⟩ e (λz=>nomatch z) h
 | @dK a a0 ea=>
  cases(show u=Value.ref a from d)
  obtain⟨_,_,vs,_,p⟩:=((I.hok a _ ea))
  obtain⟨o,es,f,h1⟩:=p
  exact B1 kitx_dict I.kIn ⟨o,h1.1,h1.2.1.1⟩ e (λz=>nomatch z) h
 | @dT a a0 ea=>
  cases(show u=Value.ref a from d)
  obtain⟨_,_,xs,_,o,es,f,h1⟩:=((I.hok a _ ea))
  exact B1 kitx_dict I.kIn ⟨o,h1.1,h1.2.1.1⟩ e (λz=>nomatch z) h
 | @ins a C dx fs ea cl ha hn htk hm=>
  cases((d))
  obtain⟨mA,O⟩:=zC I.hok ea
  obtain⟨od,J⟩:=O.1.look
  exact B1 (PySem.W.kitx_own (cl.get _) cl.hd ha hn htk hm) I.kIn J.1 e (λz=>nomatch z) h
end
structure Room(k:Nat)(A:Around):Prop where
 hd:A.handled=none
 dp:A.depth+3 * k+5 < recursionLimit
 un:A.units+16 * k+200 < cLine
theorem Room.mono{A:U9}(r:Room k A)(h:j<=k):Room j A:=⟨r.hd,by have:=r.dp;ext,by have:=r.un;ext⟩
theorem Room.deeper{A:U9}(r:Room (k+1) A)(env:Env):Room k (A.deeper env):=
 ⟨r.hd,by have:=r.dp;show A.depth+1+3 * k+5 < _;ext,by have:=r.un;show A.units+3+16 * k+200 < _;ext⟩
theorem aHJ{A:U9}{a:L9 (Str×V9)}:(A.under (.builtin "type.__call__" ⟨.ref C::us,a⟩)).depth=A.depth+1:=by
 rfl
theorem aHK{A:U9}{a:L9 (Str×V9)}:(A.under (.builtin "type.__call__" ⟨.ref C::us,a⟩)).units=A.units+1:=by
 rfl
theorem Room.make{A:U9}(r:Room (k+1) A)(C:Az)(us:L9 V9)(a:L9 (Str×V9)):Room k (A.under (.builtin "type.__call__" ⟨.ref C::us,a⟩)):=
 ⟨r.hd,by have:=r.dp;rw[aHJ];ext,by have:=r.un;rw[aHK];ext⟩
theorem Room.depth{A:U9}(r:Room k A):A.depth < recursionLimit:=by have:=r.dp;ext
theorem Room.units{A:U9}(r:Room k A):A.units+64 < cLine:=by have:=r.un;ext
def gK:TA:=λ_ H Q=>Q [] H
def c6(ta:TE)(tr:TA):TA:=λZ H Q=>ta Z H λx H1=>tr Z H1 λxs H2=>Q (x::xs) H2
section
variable{X:Cx}{e:Ez}{es:L9 Ez}{te:TE}{t:TA}{pos:Pos}
theorem bI:PA X [] gK:=λ_ _ _ _ H Q I h=>Calls.spliced_nil ⟨[],H,I,.nil,h⟩
theorem aT(g:PE X e te)(hr:PA X es t)(c:autoParam (starEach (e::es) X.env=(false,eval e X.env)::starEach es X.env) z3):PA X (e::es) (c6 te t):=by
 intro pos ap s Z H Q I h
 rw[c]
 refine Calls.spliced_cons (thn (g ap s Z H _ I h) λu s1 b=>?_)
 obtain⟨x,H1,d,r1,f⟩:=b
 exact thn (hr pos ap s1 Z H1 _ d f) λus i xs=>by obtain⟨xs,H2,a⟩:=xs;exact⟨x::xs,H2,a.1,.cons r1 a.2.1,a.2.2⟩
def aZK(t:TA):TE:=λZ H Q=>t Z H λxs H1=>xs.length<=sizeLine/\∀ p,H1 p=none->Q (.ref p) (upd H1 p (.tup xs))
def aUT(t:TA):TE:=λZ H Q=>t Z H λxs H1=>xs.length<=sizeLine/\∀ p,H1 p=none->Q (.ref p) (upd H1 p (.lst xs))
theorem aUU{x1}(h:PA X es t):PE X (.Tuple es x1 pos) (aZK t):=by
 intro ap s Z H Q I c
 refine wpAny_Tuple_spliced (thn (h pos ap s Z H _ I c) λus s1 ⟨xs,H1,a,r,z,q⟩=>⟨by rw[<-r.length];ext,?_⟩)
 refine⟨.ref s1.heap.objs.size,upd H1 s1.heap.objs.size _,a.laid (λb u e=>AB _ e) (AM _) ?_,rfl,q _ (a.hok.fresh (AM _))⟩
 exact⟨z,us,r,⟨_,AY _ rfl,⟨rfl,rfl⟩,_,rfl⟩⟩
theorem aCF(h:PA X es t):PE X (.List es pos) (aUT t):=by
 intro ap s Z H Q I c
 refine wpAny_List_spliced (thn (h pos ap s Z H _ I c) λus s1 ⟨xs,H1,a,r,z,q⟩=>⟨by rw[<-r.length];ext,?_⟩)
 refine⟨.ref s1.heap.objs.size,upd H1 s1.heap.objs.size _,a.laid (λb u e=>AB _ e) (AM _) ?_,rfl,q _ (a.hok.fresh (AM _))⟩
 exact⟨z,us,0,r,AY _ rfl⟩
end
abbrev Sp:=L9 V->Hp->VK->XK->Prop
abbrev CXT:=L9 Env->Hp->S9->XK->V9->S9->Prop
structure Env0(P:Program)(w:World)(K:Frag)(mg:Str->Option V9)(base:Heap)(A:Around)(outer:List Env)(s:S9)(H:Hp):Prop where
 frames:A.frames=some outer
 mod:Mod K mg base
 bs:∀ b o,base.get? b=some o->s.heap.get? b=some o/\H b=none
 bsz:base.objs.size<=s.heap.objs.size
 funs:s.heap.FunFrames base outer
 frf:∀ b∈frs outer,H b=none
 hok:HOk P w H s.heap
 bare:AllBare s.gens
def CE(outer:L9 Env)(P:P9)(w:W9)(H:Hp)(s:S9)(Q:VK)(u:V9)(s':S9):Prop:=
 ∃ v H',s'.os=s.os/\AllBare s'.gens/\Un (frs outer) [] H H' s.heap s'.heap/\HOk P w H' s'.heap/\aV v u/\Q v H'
def CR(CX:CXT)(outer:L9 Env)(P:P9)(w:W9)(H:Hp)(s:S9)(Q:VK)(E:XK)(r:Result)(s':S9):Prop:=
 match r with
 | .ok (.ret u)=>CE outer P w H s Q u s'
 | .ok _=>False
 | .error e=>CX outer H s E e s'
structure FnOk(P:Program)(w:World)(K:Frag)(mg:Str->Option V9)(base:Heap)(CX:CXT)(k:Nat)(f:Az)(fd:FuncData)(ps:List Str)(sp:Sp):Prop where
 len:∀ vs H Q E,sp vs H Q E->vs.length=ps.length
 run:∀ (A:Around) (outer:List Env) (s:S9) (H:Hp) (args:Args) (us:List V9) (vs:List V) (Q:VK) (E:XK),Room k A->Env0 P w K mg base A outer s H->BindsTo s fd args (ps.zip us)->a8 vs us->sp vs H Q E->
  codeAny (model P w) A (.call (.ref f) args) (CR CX outer P w H s Q E) s
theorem FnOk.imp{w:W9}{fd:FuncData}{sp a:Sp}(F:FnOk P w K mg base CX k f fd ps sp)
  (h:∀ vs H Q E,a vs H Q E->sp vs H Q E):FnOk P w K mg base CX k f fd ps a:=
 ⟨λvs H Q E q=>F.len vs H Q E (h _ _ _ _ q),λA outer s H args us vs Q E hr e b d c=>F.run A outer s H args us vs Q E hr e b d (h _ _ _ _ c)⟩
theorem Env0.make{w:W9}{A:U9}(e:Env0 P w K mg base A outer s H)(C:Az)(us:L9 V9)(a:L9 (Str×V9)) :
 Env0 P w K mg base (A.under (.builtin "type.__call__" ⟨.ref C::us,a⟩)) outer s H:=⟨by first|exact e.frames|rfl,e.mod,e.bs,e.bsz,e.funs,e.frf,e.hok,e.bare⟩
section
variable{X:Cx}{ap:L9 (Az×Obj)}{Z:St}{H:Hp}{s s':S9}
theorem Inv.env0(I:Inv X ap Z H s):Env0 X.prog X.w X.K X.mg X.base X.A X.stack s H:=
 ⟨I.ok.frames,I.ok.mod,I.bs,BB I.ok.bsz I.sz,I.stack,I.stkFree,I.hok,I.bare⟩
theorem Inv.after{Q:VK}(I:Inv X ap Z H s)(h:CE X.stack X.prog X.w H s Q u s'):EP X ap Z Q u s':=by
 obtain⟨v,H',os⟩:=h
 obtain⟨a,g⟩:=s'
 obtain rfl:=os.1
 exact⟨v,H',I.call os.2.2.1 os.2.2.2.1 os.2.1 (λb z=>absurd z (by simp)),os.2.2.2.2.1,os.2.2.2.2.2⟩
end
def aHL(sp:Sp)(dvs:L9 V)(E:XK)(t:TA):TE:=λZ H Q=>t Z H λvs H1=>sp (vs++dvs) H1 Q E
def aPK(C:Az)(sp:Sp)(dvs:L9 V)(E:XK)(t:TA):TE:=λZ H Q=>t Z H λvs H1=>∀ x dx,H1 x=none->H1 dx=none->dx≠x->
 sp (.ref x::(vs++dvs)) (upd (upd H1 dx (.own x)) x (.ins C dx [])) (λv H2=>v=.non/\Q (.ref x) H2) E
def cO(K:Frag)(fd:FuncData)(ps:L9 Str)(ds:L9 V9):Prop:=
 ∀ (s:S9) (us:L9 V9),K.In s.heap->(us++ds).length=ps.length->BindsTo s fd ⟨us,[]⟩ (ps.zip (us++ds))
theorem cO.all{fd:FuncData}(h:∀ us:L9 V9,us.length=ps.length->bindArgs fd ⟨us,[]⟩=pure (ps.zip us)):cO K fd ps []:=λs us _ a=>by
 rw[C5]at a ⊢
 exact .of_eq (h us a)
def fU(CX:CXT)(X:Cx)(E:XK):Prop:=∀ (ap:L9 (Az×Obj)) (Z:St) (H:Hp) (s:S9) (e:V9) (s':S9),Inv X ap Z H s->CX X.stack H s E e s'->X.xe e s'
section
variable{X:Cx}{CX:CXT}{k:Nat}{f C:Az}{fd:FuncData}{ps:L9 Str}{sp:Sp}{dvs:L9 V}{ds:L9 V9}{E:XK}{x m:Str}{p pos apos:Pos}{e o:Ez}{es:L9 Ez}{ta:TE}{t:TA}
theorem r7{Q:VK}{vs:L9 V}(F:FnOk X.prog X.w X.K X.mg X.base CX k f fd ps sp)(hr:Room k X.A)(hb:cO X.K fd ps ds)(b:a8 dvs ds)(hx:fU CX X E)
  (I:Inv X ap Z H s) (r:a8 vs us) (h:sp (vs++dvs) H Q E):wpAny (model X.prog X.w) X.A (call (.ref f) us) (EP X ap Z Q) X.xe s:=by
 refine FS (D9 (F.run X.A X.stack s H _ _ _ Q E hr I.env0 (hb s us I.kIn (by rw[<-(r.append b).length];exact F.len _ _ _ _ h)) (r.append b) h) λr s' a=>?_)
 cases r with
 | error e=>exact hx ap Z H s e s' I a
 | ok fl=>
  cases fl with
  | ret u=>exact I.after a
  | next=>assumption
  | brk=>assumption
  | cont=>assumption
theorem aQL(F:FnOk X.prog X.w X.K X.mg X.base CX k f fd ps sp)(hr:Room k X.A)(c:Gl X x)(j:X.mg x=some (.ref f))(i:keepIn X.K (.ref f)=true)(hb:cO X.K fd ps ds)(g:a8 dvs ds)(hx:fU CX X E)
  (d:PA X (e::es) t) (a:autoParam ((x == ("__debug__":Str))=false) z5) (he:autoParam (starEach (e::es) X.env=(false,eval e X.env)::starEach es X.env) z3) (hpl:autoParam ((backTo pos (starEach es X.env)).any (·.1)=false) z3) :
  PE X (.Call (.Name x p) (e::es) [] pos) (aHL sp dvs E t):=by
 intro ap s Z H Q I h
 refine C0 (uB I c j ?_ a)
 refine C3 I.ok.mod.kin i (thn (d pos ap s Z H _ I h) λus s1 ⟨vs,H1,b,r,q⟩=>⟨b.kIn,?_⟩) he hpl
 exact r7 F hr hb g hx b r q
structure Mk(K:Frag)(C f:Az):Prop where
 makes:makesIn K C=true
 init:findIn K (.ref C) "__init__"=some (some (.ref f))
 fn:isFn K (.ref f)=true
 kp:keepIn K (.ref C)=true
theorem aMZ{Q:VK}{vs:L9 V}(M:Mk X.K C f)(F:FnOk X.prog X.w X.K X.mg X.base CX k f fd ps sp)(hr:Room (k+1) X.A)(hb:cO X.K fd ps ds)(i:a8 dvs ds)
  (hx:fU CX X E) (I:Inv X ap Z H s) (r:a8 vs us)
  (h:∀ x dx,H x=none->H dx=none->dx≠x->sp (.ref x::(vs++dvs)) (upd (upd H dx (.own x)) x (.ins C dx [])) (λv H2=>v=.non/\Q (.ref x) H2) E) :
  wpAny (model X.prog X.w) X.A (call (.ref C) us) (EP X ap Z Q) X.xe s:=by
 have c:=h _ s.heap.objs.size (I.hok.fresh (E8 _)) (I.hok.fresh (AM _)) (BG (DC _))
 have b:=Inv.made (C:=C) I
 have r2:a8 (V.ref _::(vs++dvs)) (Value.ref (s.heap.objs.size+1)::(us++ds)):=.cons rfl (r.append i)
 have m:=by
  have e:=r2.length
  rw[F.len _ _ _ _ c]at e
  exact e.symm
 refine FS (aMY I.kIn M.makes M.init (beq_iff_eq.mp M.fn) (D9 (F.run _ X.stack _ _ _ _ _ _ E (hr.make C us [])
  (b.env0.make C us []) (hb _ _ b.kIn m) r2 c) λr s' a=>?_))
 cases r with
 | error e=>exact hx ap Z _ _ e s' b a
 | ok fl=>
  cases fl with
  | ret u=>
   obtain⟨v,H',g,j,l,d⟩:=b.after a
   subst l
   exact⟨j,⟨V.ref _,H',g,rfl,d⟩⟩
  | next=>assumption
  | brk=>assumption
  | cont=>assumption
theorem aQM(M:Mk X.K C f)(F:FnOk X.prog X.w X.K X.mg X.base CX k f fd ps sp)(hr:Room (k+1) X.A)(c:Gl X x)(i:X.mg x=some (.ref C))(hb:cO X.K fd ps ds)(g:a8 dvs ds)(hx:fU CX X E)
  (d:PA X (e::es) t) (a:autoParam ((x == ("__debug__":Str))=false) z5) (he:autoParam (starEach (e::es) X.env=(false,eval e X.env)::starEach es X.env) z3) (hpl:autoParam ((backTo pos (starEach es X.env)).any (·.1)=false) z3) :
  PE X (.Call (.Name x p) (e::es) [] pos) (aPK C sp dvs E t):=by
 intro ap s Z H Q I h
 refine C0 (uB I c i ?_ a)
 refine C3 I.ok.mod.kin M.kp (thn (d pos ap s Z H _ I h) λus s1 ⟨vs,H1,b,r,q⟩=>⟨b.kIn,?_⟩) he hpl
 exact aMZ M F hr hb g hx b r q
end
structure FnScope(N P:List Str)(sc:Scope):Prop where
 kind:sc.kind=.function
 co:sc.isCoroutine=false
 gen:sc.isGenerator=false
 nd:N.Nodup
 pre:N.take P.length=P
 par:∀ x∈P,sc.names.lookup x=some .local\/sc.names.lookup x=some .cell
 nofree:∀ y∈sc.names,y.2≠.free
theorem aA0{a:Str->O9 NameKind}:∀ {binds:L9 (Str×V9)} {m:Str->O9 V9},(∀ v,(x,v)∉binds)->bindL a binds m x=m x
 | [],_,_=>rfl
 | (n,v)::r,m,h=>by
  unfold bindL
  rw[aA0 λw hw=>h w (AU _ hw)]
  split
  .have:x≠n:=by rintro rfl;exact h v A4
   simp[this]
  rfl
theorem aA1:∀ {binds:L9 (Str×V9)} {m:Str->O9 V9},(∀ v,(x,v)∉binds)->bindC kindOf binds m x=m x
 | [],_,_=>rfl
 | (n,v)::r,m,h=>by
  unfold bindC
  rw[aA1 λw a=>h w (AU _ a)]
  split
  · rfl
  ext
theorem sA:∀ {P:L9 Str} {vs:L9 V9} {i:Nat} {m:Str->O9 V9},P.Nodup->P[i]? = some x->vs[i]? = some v->kindOf x=some .local->
  bindL kindOf (P.zip vs) m x=some v
 | [],_,_,_,_,h,_,_=>by simp_all
 | _::_,[],_,_,_,_,h,_=>by simp_all
 | p::P,w::vs,0,m,nd,h1,h2,hk=>by
  simp at h1 h2;subst h1;subst h2
  show bindL kindOf ((p,w)::P.zip vs) m p=_
  unfold bindL
  rw[aA0 λv a=>(CO.mp nd).1 (DZ a).1,AJ hk]
  simp
 | p::P,w::vs,i+1,m,nd,h1,h2,hk=>by
  unfold bindL
  exact sA (CO.mp nd).2 (by assumption) (by assumption) hk
theorem sB:∀ {P:L9 Str} {vs:L9 V9} {i:Nat} {m:Str->O9 V9},P.Nodup->P[i]? = some x->vs[i]? = some v->kindOf x≠some .local->
  bindC kindOf (P.zip vs) m x=some v
 | [],_,_,_,_,h,_,_=>by simp_all
 | _::_,[],_,_,_,_,h,_=>by simp_all
 | p::P,w::vs,0,m,nd,h1,h2,hk=>by
  simp at h1 h2;subst h1;subst h2
  show bindC kindOf ((p,w)::P.zip vs) m p=_
  unfold bindC
  rw[aA1 λv a=>(CO.mp nd).1 (DZ a).1,AL hk]
  simp
 | p::P,w::vs,i+1,m,nd,h1,h2,hk=>by
  unfold bindC
  exact sB (CO.mp nd).2 (by assumption) (by assumption) hk
noncomputable def start(N:L9 Str)(vs:L9 V):St:=vs.map some++replicate (N.length - vs.length) none
noncomputable def fO(CX:CXT)(P:P9)(w:W9)(K:Frag)(mg:Str->O9 V9)(base:Hz)(N:L9 Str)(qual:Str)(scope:Scope)(f:Az)(cd:V9)(A:U9)(outer:L9 Env)(s:S9)(H:Hp)(E:XK):Cx where
 prog:=P
 w:=w
 K:=K
 mg:=mg
 base:=base
 A:=A.deeper (envOfC qual scope s.heap.objs.size f cd)
 N:=N
 s₀:=s
 H₀:=H
 env:=envOfC qual scope s.heap.objs.size f cd
 outer:=outer
 stack:=envOfC qual scope s.heap.objs.size f cd::outer
 ex:=[]
 calm:=true
 fn:=λ_=>true
 pn:=[]
 xe:=λe s'=>wpAny (model P w) (A.deeper (envOfC qual scope s.heap.objs.size f cd)) (leaving (envOfC qual scope s.heap.objs.size f cd) e) (λ_ s''=>CX outer H s E e s'') (λe' s''=>CX outer H s E e' s'') s'
theorem nE{a:Scope}{n:Nat}(h:a.names.lookup x=some .cell):∃ c,(cellsFrom n a.names []).lookup x=some c:=by
 exact FY.mp (EK a.names n [] (.inl h))
theorem aA2{w:W9}{A:U9}{s1:S9}{E:XK}{vs:L9 V}
  (S:FnScope N ps scope) (o:A.handled=none) (a:Env0 P w K mg base A outer s H) (F:vs.length=ps.length) (r:a8 vs us)
  (x:InCallC s s.heap.objs.size (bindL (envOfC qual scope s.heap.objs.size f cd).kindOf (ps.zip us) λ_=>none) (cellsFrom (s.heap.objs.size+1) scope.names []) (bindC (envOfC qual scope s.heap.objs.size f cd).kindOf (ps.zip us) λ_=>none) s1) :
  Inv (fO CX P w K mg base N qual scope f cd A outer s H E) [] (start N vs) H s1:=by
 have t:ps.length<=N.length:=by have:=DD length S.pre;ext
 obtain⟨h1,D,rfl,n⟩:=x.done
 have d:∀ b:Az,b∉(fO CX P w K mg base N qual scope f cd A outer s H E).ex:=λb z=>absurd (show b∈([])from z) (by simp)
 refine⟨⟨a.mod,S.kind,rfl,rfl,AM _,λy z c h1 h2=>?_,λy g=>?_,λy c _ h=>?_,λ_=>o,Around.frames_deeper a.frames,.inr ⟨rfl,rfl⟩,λb z=>absurd z (d b),a.bs,a.bsz,λb _ _=>d b,λb z=>absurd z (d b),a.funs,a.frf⟩,
  rfl,a.bare,Un.kept n,⟨_,x.toInCall.ns,λi y v h1 h2 C=>?_⟩,λy c h=>⟨_,x.cell y c h⟩,a.hok.fresh (AM _),λy c h=>?_,λp l=>absurd (show p∈([])from l) (by simp),a.hok.kept n,?_⟩
 .exact name_of_addr x.apart (BH h1) (BH h2)
 .rcases g with g|g
  .exact nE g
  .exact absurd rfl (S.nofree _ (BH g))
 .exact BS (x.above y c (BH h))
 .have hi:i < vs.length:=by
   unfold start at h2
   by_cases hi:i < vs.length
   .omega
   .rw[CD (by simpa using hi)]at h2
    rw[CV]at h2
    simp_all
  have B:vs[i]? = some v:=by
   unfold start at h2
   rw[BF (by simpa using hi),AE]at h2
   simp_all
  obtain⟨u,m⟩:=r.get B
  have l:ps[i]? = some y:=by
   rw[<-S.pre,EA (by ext)];exact h1
  have j:ps.Nodup:=by rw[<-S.pre];exact S.nd.sublist (List.take_sublist _ _)
  refine⟨u,m.2,?_⟩
  rcases S.par y (AD l)with k|k
  .exact .inl ⟨k,sA j l m.1 k⟩
  .obtain ⟨c,e⟩:=nE k
   refine .inr ⟨.inl k,c,e,?_⟩
   have q:=x.cell y c e
   rw[sB j l m.1 (by show scope.names.lookup y≠_;simp_all)]at q
   ext
 .exact a.hok.fresh (BS (x.above y c (BH h)))
 .unfold start
  show _=N.length
  ext
theorem aHM{w:W9}{params:Arguments}{z kV a L:V9}{C:O9 Az}
  {m:Array (O9 V9)}  {sp:Sp} (F:K.lookup f=some ⟨L,od,.func (fnOf name qual params body scope z kV doc pm C a ct),m⟩) (p:codeIn K a qual=true) (S:FnScope N ps scope)
  (len:∀ vs H Q E,sp vs H Q E->vs.length=ps.length)
  (d:∀ (A:U9) (outer:L9 Env) (s:S9) (H:Hp) (vs:L9 V) (Q:VK) (E:XK),Room k (A.deeper (envOfC qual scope s.heap.objs.size f a))->sp vs H Q E->
   ∃ t,PSs (fO CX P w K mg base N qual scope f a A outer s H E) body t/\t {nx:=λ_ H'=>Q .non H',rt:=Q} (start N vs) H) :
  FnOk P w K mg base CX (k+1) f (fnOf name qual params body scope z kV doc pm C a ct) ps sp:=by
 refine⟨len,λA outer s H args us vs Q E hr j D r h=>?_⟩
 have KX:=j.mod.kin.keeps λb o e=>(j.bs b o e).1
 have c:∀ y∈ps.zip us,scope.names.lookup y.1=some .local\/(scope.names.lookup y.1=some .cell/\((cellsFrom (s.heap.objs.size+1) scope.names []).lookup y.1).isSome=true):=λn I=>by
  rcases S.par n.1 (DZ I).1 with q|q
  .exact .inl q
  .exact .inr ⟨q,EK _ _ _ (.inl q)⟩
 refine EQ hr.depth (KX _ _ F) rfl S.co S.gen rfl (codeRec_of KX p) (D _ _ _ _ ?_)
 refine FF S.kind c λenv G s1 x=>?_
 subst G
 refine⟨(j.mod.nolimit.keeps λb o e=>(j.bs b o e).1).keeps x.toInCall.keep,codeAny_func ?_⟩
 obtain⟨t,B⟩:=d A outer s H vs Q E (hr.deeper _) h
 refine BW (B.1 [] s1 _ H _ (aA2 S hr.hd j (len _ _ _ _ h) r x) B.2) (λM s' g=>?_) λe s' g=>g
 have i:∀ {l:St} {H':Hp} {v:V} {u:V9},Inv (fO CX P w K mg base N qual scope f a A outer s H E) [] l H' s'->aV v u->Q v H'->CE outer P w H s Q u s':=
  λ{l H' v u} J rv q=>⟨v,H',J.os,J.bare,J.base,J.hok,rv,q⟩
 cases M with
 | ret u=>
  obtain⟨v,l,H',J⟩:=g
  exact i J.1 J.2.1 J.2.2
 | next=>
  obtain⟨l,H',J⟩:=g
  exact i (v:=V.non) J.1 rfl J.2
 | brk=>
  obtain⟨_,_,q⟩:=g
  simp_all
 | cont=>
  obtain⟨_,_,q⟩:=g
  simp_all
section
variable{X:Cx}{x:Str}{p pos:Pos}{e:Ez}{es:L9 Ez}{t:TA}{id T:String}{r:L9 V->Hp->VK->Prop}
def tCB(r:L9 V->Hp->VK->Prop)(t:TA):TE:=λZ H Q=>t Z H λvs H1=>r vs H1 Q
theorem j5(g:jY X (.builtin id) r)(b:Gl X x)(c:X.mg x=none)(f:bootBuiltins x=some (.builtin id))(d:PA X (e::es) t)(i:autoParam (x≠"__name__") z5)(hdb:autoParam ((x == ("__debug__":Str))=false) z5)
  (he:autoParam (starEach (e::es) X.env=(false,eval e X.env)::starEach es X.env) z3) (hpl:autoParam ((backTo pos (starEach es X.env)).any (·.1)=false) z3):PE X (.Call (.Name x p) (e::es) [] pos) (tCB r t):=by
 intro ap s Z H Q I h
 refine C0 (mC I b c f ?_ i hdb)
 exact PyProof.Rows.callWith_builtin1 (thn (d pos ap s Z H _ I h) λus s1 vs=>by obtain⟨vs,H1,a⟩:=vs;exact g ap s1 Z H1 vs us Q a.1 a.2.1 a.2.2) he hpl
theorem oA(j:jY X (.type T) r)(a:Gl X x)(c:X.mg x=none)(b:bootBuiltins x=some (.type T))(i:PA X (e::es) t)(f:autoParam (x≠"__name__") z5)(hdb:autoParam ((x == ("__debug__":Str))=false) z5)
  (he:autoParam (starEach (e::es) X.env=(false,eval e X.env)::starEach es X.env) z3) (hpl:autoParam ((backTo pos (starEach es X.env)).any (·.1)=false) z3):PE X (.Call (.Name x p) (e::es) [] pos) (tCB r t):=by
 intro ap s Z H Q I h
 refine C0 (mC I a c b ?_ f hdb)
 exact CC (thn (i pos ap s Z H _ I h) λus s1 ⟨vs,H1,d,r1,g⟩=>j ap s1 Z H1 vs us Q d r1 g) he hpl
end
end _a
open _a
variable{g:V9}{m:Nat}{items:Array V9}
namespace _b
variable{lo hi:O9 Int}
section
open PySem.SeqAt
open PySem.AutoSeq1 (wpAny_loadPart')
open PySem.MeetsSeq PySem.MeetsSeq2 PySem.MeetsSeq3
end
section
variable{prog:P9}{w:W9}{A:U9}{E:V9->S9->Prop}{s:S9}
theorem aQN{t:Az}{vs ws:L9 V9}(p:IsTup s.heap t vs.toArray)(hb:IsTup s.heap b ws.toArray)(k:vs≠[])
  (h1:ws=[]->Q (.ref t) s) (h2:ws≠[]->Q (.ref s.heap.objs.size) {s with heap:=s.heap.push {cls:=.type "tuple",data:=.seq (vs++ws).toArray}})
  (hsz:vs.length+ws.length<=sizeLine):wpAny (model prog w) A (binaryOp .Add (.ref t) (.ref b)) Q E s:=by
 obtain⟨⟨cls,dd,data,sl⟩,f,q,n,o⟩:=id p
 obtain⟨⟨l,d,j,c⟩,a,h,m,g⟩:=id hb
 subst q o h g
 have e:vs.toArray++ws.toArray=(vs++ws).toArray:=by simp
 by_cases i:ws=[]
 .exact concat_meets ⟨_,f,rfl⟩ ⟨_,a,rfl⟩ noFill_tuple_add seq_tuple_add GP GF (FZ _ _)
   (tuple_addW1 t b vs.toArray ws.toArray n m dd d sl c (by simpa using k) (by simp[i])) ⟨f,a,h1 i⟩
 .refine concat_meets ⟨_,f,rfl⟩ ⟨_,a,rfl⟩ noFill_tuple_add seq_tuple_add GP GF (FZ _ _)
   (tuple_addW2 t b vs.toArray ws.toArray n m dd d sl c (by simpa using k) (by simp_all) (by ext)) ⟨f,a,?_⟩
  rw[e]
  exact h2 i
noncomputable def sIx(n d:Nat):O9 Int->Nat
 | none=>d
 | some v=>if v < 0 then(v+(n:Int)).toNat else min v.toNat n
theorem aM0(n d:Nat):sIx n d none=d:=rfl
theorem aQO(n d k:Nat):sIx n d (some (k:Int))=min k n:=by
 rfl
theorem aE8(v:Int)(n d:Nat):(if v < 0 then max (v+(n:Int)) 0 else min v (n:Int))=((sIx n d (some v):Nat):Int):=by
 show(if v < 0 then max _ 0 else min v n)=(((if v < 0 then(v+n).toNat else min v.toNat n)))
 ext
theorem aHN(lo hi:O9 Int)(n:Nat):Builtin.Slice.sliceAdjust lo hi 1 (n:Int)=(((sIx n 0 lo:Nat):Int),((sIx n n hi:Nat):Int)):=by
 refine Prod.ext ?_ ?_
 .cases lo with
  | none=>rfl
  | some v=>exact aE8 v n 0
 .cases hi with
  | none=>rfl
  | some v=>exact aE8 v n n
theorem aHO(i j:Nat):Builtin.Slice.slicePlaces (i:Int) (j:Int) 1=j - i:=by
 unfold Builtin.Slice.slicePlaces
 ext
theorem xM{o:O9 Int}{Q:O9 Int->S9->Prop}(p:IsPart v o)(h:Q o s):wpAny (model prog w) A (Builtin.Slice.slicePartIndex v) Q E s:=by
 cases p with
 | none=>exact slicePart_none h
 | int i t=>exact slicePart_int h
theorem v8{sl:Az}{c b:V9}{Q:Int×Int×Nat->S9->Prop}(e:s.heap.IsSliceOf sl c b .none)(pl:IsPart c lo)(d:IsPart b hi)
  (h:Q (((sIx n 0 lo:Nat):Int),1,sIx n n hi - sIx n 0 lo) s):wpAny (model prog w) A (Builtin.Slice.sliceApplied (.ref sl) (pure (n:Int))) Q E s:=by
 obtain⟨os,a⟩:=id e
 refine AA (AA (BY a.1 a.2.2 (x:=c) rfl (AA (BY a.1 a.2.2 (x:=b) rfl (AA (BY a.1 a.2.2 rfl (AH ?_)))))))
 refine AA (slicePart_none ?_)
 refine AA (xM pl (AA (xM d (AA (AH ?_)))))
 show wpAny _ _ (match Builtin.Slice.sliceAdjust lo hi 1 n with|(lo,hi)=>pure (lo,(1:Int),Builtin.Slice.slicePlaces lo hi 1)) _ _ s
 rw[aHN lo hi n]
 show wpAny _ _ (pure _) _ _ s
 rw[aHO]
 exact AH h
theorem aM1(xs:Array V9)(i k:Nat):((range k).filterMap λ(m:Nat)=>xs[((i:Int)+(m:Int) * 1).toNat]?).toArray=((xs.toList.drop i).take k).toArray:=by
 have e:(λ(m:Nat)=>xs[(i+(m:Int) * 1).toNat]?)=λm=>xs[i+m]?:=by
  ext
 rw[e]
 have:=pick_run xs i k
 have e2:((λx=>xs[x]?)∘λx=>i+x)=λm=>xs[i+m]?:=rfl
 simp_all
theorem vB{t sl:Az}{f:V9}(c:IsTup s.heap t items)(e:s.heap.IsSliceOf sl f g .none)(pl:IsPart f lo)(i:IsPart g hi)
  (hw:¬ (sIx items.size 0 lo=0/\sIx items.size items.size hi=items.size))
  (h:Q (.ref s.heap.objs.size) {s with heap:=s.heap.push {cls:=.type "tuple",data:=.seq ((items.toList.drop (sIx items.size 0 lo)).take (sIx items.size items.size hi - sIx items.size 0 lo)).toArray}})
  (hsz:items.size<=sizeLine):wpAny (model prog w) A (getItem (.ref t) (.ref sl)) Q E s:=by
 have a:sizeOk (.seq ((items.toList.drop (sIx items.size 0 lo)).take (sIx items.size items.size hi - sIx items.size 0 lo)).toArray):=by
  show((items.toList.drop _).take _).toArray.size<=sizeLine
  rw[CA,B6,EM,DY]
  ext
 obtain⟨os,b⟩:=id e
 unfold getItem
 try with_reducible refine CL ?_
 refine AA (wpAny_sequenceKey c.typeIs (by rfl) ?_)
 refine AA (DI c.typeIs DH
  (DR DH c.typeIs entry_tuple_getitem ?_ (args_tuple_getitem _ _)))
 show wpAny _ _ (Builtin.Tuple.tupleItemsOf _ >>= _) _ _ s
 refine AA (tupleItemsOf_ c ?_)
 refine AA (wpAny_typeOf (⟨os,b.1,b.2.1⟩) ?_)
 refine AA (v8 e pl i ?_)
 have d:¬ ((((sIx items.size 0 lo):Int) == 0 && (1:Int) == 1 && (sIx items.size items.size hi - sIx items.size 0 lo) == items.size)=true):=by
  simp_all
 show wpAny _ _ (if (((sIx items.size 0 lo):Int) == 0 && 1 == 1 && (sIx items.size items.size hi - sIx items.size 0 lo) == items.size)=true then _ else _) _ _ s
 rw[AL d,aM1]
 first
  | rfl
  | exact AA (EH (AA (AH (AH ⟨_,rfl,AH h⟩))) a)
  | rfl
  | rfl
end
end _b
variable{i:Int}
namespace _a
abbrev TO:=St->Hp->(O9 Int->Hp->Prop)->Prop
def PO(X:Cx)(e:O9 Ez)(t:TO):Prop:=
 ∀ (ap:L9 (Az×Obj)) (s:S9) (Z:St) (H:Hp) (Q:O9 Int->Hp->Prop),Inv X ap Z H s->t Z H Q->
  wpAny (model X.prog X.w) X.A (evalPart e X.env) (λu s'=>∃ o H',Inv X ap Z H' s'/\IsPart u o/\Q o H') X.xe s
def aQP:TO:=λ_ H Q=>Q none H
def aX3(t:TE):TO:=λZ H Q=>t Z H λx H1=>∃ i,x=.int i/\Q (some i) H1
section
variable{X:Cx}{e:Ez}{te:TE}{lo hi:O9 Ez}{tl th:TO}{pos p2:Pos}
theorem aQQ:PO X none aQP:=by
 intro ap s Z H Q I h
 exact AH ⟨none,H,I,.none,h⟩
theorem aQR(h:PE X e te):PO X (some e) (aX3 te):=by
 intro ap s Z H Q I b
 refine thn (h ap s Z H _ I b) λu s1 a=>?_
 obtain⟨x,H1,c,r1,d⟩:=a
 obtain⟨i,rfl,q⟩:=d
 obtain⟨t,rfl⟩:=r1
 exact⟨some i,H1,c,.int i t,q⟩
def SlR(X:Cx)(r:V->O9 Int->O9 Int->Hp->VK->Prop):Prop:=
 ∀ (ap:L9 (Az×Obj)) (s:S9) (Z:St) (H:Hp) (x:V) (v vl vu:V9) (lo hi:O9 Int) (sl:Az) (Q:VK),Inv X ap Z H s->aV x v->s.heap.IsSliceOf sl vl vu .none->IsPart vl lo->IsPart vu hi->r x lo hi H Q->
  ∃ T id,typeLookup (.type T) "__getitem__"=pure (some (.builtin id))/\s.TypeIs v T/\wpAny (model X.prog X.w) X.A (getItem v (.ref sl)) (EP X ap Z Q) X.xe s
def tSl(r:V->O9 Int->O9 Int->Hp->VK->Prop)(te:TE)(tl th:TO):TE:=λZ H Q=>te Z H λx H1=>tl Z H1 λl H2=>th Z H2 λu H3=>r x l u H3 Q
theorem aCG{r:V->O9 Int->O9 Int->Hp->VK->Prop}(hr:SlR X r)(p:PE X e te)(t:PO X lo tl)(n:PO X hi th):PE X (.Subscript e (.Slice lo hi none p2) pos) (tSl r te tl th):=by
 intro ap s Z H Q I h
 refine Subscript_ (thn (p ap s Z H _ I h) λv s1 a=>?_)
 obtain⟨x,H1,o,r1,y⟩:=a
 refine wpAny_Slice (thn (t ap s1 Z H1 _ o y) λf z ⟨l,H2,j,w,A⟩=>thn (n ap z Z H2 _ j A) λg c a=>?_)
 obtain⟨u,H3,m,i,k⟩:=a
 refine AH ?_
 obtain⟨T,id,d⟩:=hr ap {c with heap:=c.heap.push {cls:=.type "slice",data:=.fields #[f,g,.none]}} Z H3 x v f g l u c.heap.objs.size Q (m.kept λb B q=>AB _ q) r1 (Heap.IsSliceOf.new ..) w i k
 exact tail_any d.2.1 d.1 d.2.2 (by rfl)
noncomputable def zD(xs:L9 V)(lo hi:O9 Int):L9 V:=(xs.drop (_b.sIx xs.length 0 lo)).take (_b.sIx xs.length xs.length hi - _b.sIx xs.length 0 lo)
theorem vN(xs:L9 V)(lo hi:O9 Int):(zD xs lo hi).length<=xs.length:=by
 unfold zD
 rw[B6,EM]
 ext
def aZL(K:Frag):V->O9 Int->O9 Int->Hp->VK->Prop:=λx lo hi H Q=>∃ a xs,x=.ref a/\SqT K H a xs /\
 ¬ (_b.sIx xs.length 0 lo=0/\_b.sIx xs.length xs.length hi=xs.length)/\∀ p,H p=none->Q (.ref p) (upd H p (.tup (zD xs lo hi)))
theorem aUV:SlR X (aZL X.K):=by
 intro ap s Z H x v m n lo hi sl Q I i g k f h
 obtain⟨a,xs,rfl,l,p,q⟩:=h
 cases i
 obtain⟨d,r,e,j⟩:=I.tuple l
 have c:d.toArray.size=xs.length:=r.length.symm
 refine⟨"tuple",_,DH.lookup,e.typeIs,?_⟩
 refine _b.vB e g k f (by rw[c];ext) ?_ (by rw[c];ext)
 rw[c]
 refine⟨.ref s.heap.objs.size,_,I.laid (λb o q=>AB _ q) (AM _) ?_,rfl,q _ (I.hok.fresh (AM _))⟩
 exact⟨BB (vN xs lo hi) j,_,(r.drop _).take _,kR.new _ _⟩
def aX4(K:Frag):R2:=λx y H Q=>∃ a b xs ys,x=.ref a/\y=.ref b/\SqT K H a xs/\SqT K H b ys/\xs≠[]/\xs.length+ys.length<=sizeLine /\
 (ys=[]->Q (.ref a) H)/\(ys≠[]->∀ p,H p=none->Q (.ref p) (upd H p (.tup (xs++ys))))
theorem a8.nil_iff{xs:L9 V}(r:a8 xs us):us=[]↔xs=[]:=by
 cases r with
 | nil=>simp
 | cons _ _=>simp
theorem aQS:OpR X (binaryOp .Add) (aX4 X.K):=by
 intro ap s Z H x y v u Q I f j h
 obtain⟨a,b,xs,ys,rfl,rfl,g,e,k,l,c⟩:=h
 cases f
 cases j
 obtain⟨i,r1⟩:=I.tuple g
 obtain⟨d,r2⟩:=I.tuple e
 refine _b.aQN r1.2.1 r2.2.1 (λz=>k (r1.1.nil_iff.mp z)) (λz=>⟨.ref a,H,I,rfl,c.1 (r2.1.nil_iff.mp z)⟩) (λz=>?_) (by rw[<-r1.1.length,<-r2.1.length];ext)
 refine⟨.ref s.heap.objs.size,_,I.laid (λb m q=>AB _ q) (AM _) ?_,rfl,c.2 (λw=>z (r2.1.nil_iff.mpr w)) _ (I.hok.fresh (AM _))⟩
 exact⟨by simp_all,_,r1.1.append r2.1,kR.new _ _⟩
end
noncomputable def ixN(n:Nat)(i:Int):O9 Nat:=if 0<=i then(if i < n then some i.toNat else none)else if -(n:Int)<=i then some (i+n).toNat else none
noncomputable def atI(xs:L9 α)(i:Int):O9 α:=(ixN xs.length i).bind λj=>xs[j]?
theorem aE9(h:ixN n i=some j):seqIndex? i n=some j/\j < n /\ -(n:Int)<=i/\i < n:=by
 unfold ixN at h
 by_cases a:0<=i
 .rw[AJ a]at h
  by_cases h1:i < n
  .rw[AJ h1]at h
   have e:=BV h
   exact⟨by rw[seqIndex_of a h1,e],by ext,by ext,h1⟩
  simp_all
 .rw[AL a]at h
  by_cases h1 : -n<=i
  .rw[AJ h1]at h
   have e:=BV h
   exact⟨by rw[seqIndex_neg (by ext) h1,e],by ext,h1,by ext⟩
  simp_all
theorem zE{xs:L9 α}{v:α}(h:atI xs i=some v):∃ j,seqIndex? i xs.length=some j/\xs[j]? = some v/\j < xs.length /\ -(xs.length:Int)<=i/\i < xs.length:=by
 unfold atI at h
 cases e:ixN xs.length i with
 | none=>simp_all
 | some j=>
  rw[e]at h
  have h1:=aE9 e
  exact⟨j,h1.1,h,h1.2.1,h1.2.2.1,h1.2.2.2⟩
theorem cP{xs:L9 α}{j:Nat}{v:α}(h:xs[j]? = some v):atI xs (j:Int)=some v:=by
 have a:=(AG.mp h).1
 have e:ixN xs.length j=some j:=by
  unfold ixN
  simp_all
 unfold atI;rw[e];exact h
theorem aM2(xs:L9 α)(v:α):atI (xs++[v]) (-1)=some v:=by
 have a:(xs++[v]).length=xs.length+1:=by simp
 have e:ixN (xs++[v]).length (-1)=some xs.length:=by
  unfold ixN
  ext
 unfold atI
 simp_all
def uD(b:Ez):Prop:=∀ o i,subscripted b false o i=operate [o,i] (getItem o i)
def IxR(X:Cx)(r:R2):Prop:=
 ∀ (value slice:Ez) (ap:L9 (Az×Obj)) (s:S9) (Z:St) (H:Hp) (x y:V) (v u:V9) (Q:VK),Inv X ap Z H s->aV x v->aV y u->r x y H Q->
  subscripted slice false v u=operate [v,u] (getItem v u)->wpAny (model X.prog X.w) X.A (subscriptTail value slice v u) (EP X ap Z Q) X.xe s
def MtR(X:Cx)(id:String)(r:V->L9 V->Hp->VK->Prop):Prop:=
 ∀ (ap:L9 (Az×Obj)) (s:S9) (Z:St) (H:Hp) (x:V) (xs:L9 V) (v:V9) (us:L9 V9) (Q:VK),Inv X ap Z H s->aV x v->a8 xs us->r x xs H Q->
  wpAny (model X.prog X.w) X.A (call (.builtin id) (v::us)) (EP X ap Z Q) X.xe s
section
variable{X:Cx}{a b:Ez}{ta tb:TE}{pos:Pos}
theorem IxR.or{r b:R2}(h:IxR X r)(h':IxR X b):IxR X (λx y H Q=>r x y H Q\/b x y H Q):=by
 intro value a ap s Z H x y v u Q I d e q c
 rcases q with q|q
 · exact h value a ap s Z H x y v u Q I d e q c
 · exact h' value a ap s Z H x y v u Q I d e q c
theorem aBW{r:R2}(hr:IxR X r)(i:PE X a ta)(hb:PE X b tb)(d:uD b):PE X (.Subscript a b pos) (tOp r ta tb):=by
 intro ap s Z H Q I h
 exact Subscript_ (aMU i hb I h λv u f x y H2 c e g q=>hr a b ap f Z H2 x y v u Q c e g q (d _ _))
def aUW(K:Frag):R2:=λx y H Q=>∃ p xs i v,x=.ref p/\y=.int i/\SqL K H p xs/\atI xs i=some v/\Q v H
def aUX(K:Frag):R2:=λx y H Q=>∃ p xs i v,x=.ref p/\y=.int i/\SqT K H p xs/\atI xs i=some v/\Q v H
def aUY:R2:=λx y H Q=>∃ z i c,x=.str z/\y=.int i/\z.length<=sizeLine/\atI z.cps.toList i=some c/\Q (.str ⟨#[c]⟩) H
theorem uE:IxR X (aUW X.K):=by
 intro value e ap s Z H x y v u Q I l q h g
 obtain⟨p,xs,i,z,rfl,rfl,b⟩:=h
 cases l
 obtain⟨t,rfl⟩:=q
 obtain⟨d,r,f,C⟩:=I.list b.1
 obtain⟨j,h1,h2,A,o,n⟩:=zE b.2.1
 obtain⟨w,a⟩:=r.get h2
 have m:=r.length
 have B:=aCD
 by_cases k:0<=i
 .have c:=by
   rw[seqIndex_of k n]at h1
   exact BV h1
  exact item_listR f.isList k (by ext) (by rw[c];simpa using a.1) (⟨z,H,I,a.2,b.2.2⟩) g
 .have c:(i+d.toArray.size).toNat=j:=by
   rw[seqIndex_neg (by ext) o]at h1
   rw[CA,<-m]
   exact BV h1
  exact subscriptTail_builtinR f.isList.typeIs slot_list_getitem.lookup
   (wpAny_getItem_list_neg f.isList (by ext) (by simp_all) (by ext) (by rw[c];simpa using a.1) ⟨rfl,(⟨z,H,I,a.2,b.2.2⟩)⟩) g
theorem aJS:IxR X (aUX X.K):=by
 intro value b ap s Z H x y v u Q I f k h e
 obtain⟨p,xs,i,z,rfl,rfl,a⟩:=h
 cases f
 obtain⟨t,rfl⟩:=k
 obtain⟨g,r,d,n⟩:=I.tuple a.1
 obtain⟨j,h1,h2,l⟩:=zE a.2.1
 obtain⟨w,c⟩:=r.get h2
 have m:=aCD
 exact subscriptTail_builtinR d.typeIs slot_tuple_getitem.lookup
  (getItem_tuple d (by ext) (by ext) (by rw[CA,<-r.length];ext) (by simpa using c.1) ⟨rfl,(⟨z,H,I,c.2,a.2.2⟩)⟩) e
theorem aJT:IxR X aUY:=by
 intro value a ap s Z H x y v u Q I e l h d
 obtain⟨z,i,c,rfl,rfl,p,b⟩:=h
 obtain⟨t,rfl⟩:=e
 obtain⟨o,rfl⟩:=l
 obtain⟨j,h1,h2,m,k,g⟩:=zE b.1
 have f:z.cps.toList.length=z.length:=by rfl
 rw[f]at h1 k g
 have n:=aCD
 exact tail_any (typeIs_str s z t) slot_str_getitem.lookup (getItem_str (by
  ext) (by rw[h1];simpa using h2) ⟨.str _,H,I.tok _,⟨_,rfl⟩,b.2⟩) d
def rIx(K:Frag):R2:=λx y H Q=>aUW K x y H Q\/aUX K x y H Q\/aUY x y H Q
theorem aUZ:IxR X (rIx X.K):=uE.or (aJS.or aJT)
theorem Inv.lst{ap:L9 (Az×Obj)}{Z:St}{H:Hp}{s:S9}{p:Az}{xs:L9 V}(I:Inv X ap Z H s)(h:H p=some (.lst xs)) :
  ∃ (its:L9 V9) (n:Nat),a8 xs its/\s.heap.get? p=some {cls:=.type "list",data:=.seq its.toArray n}/\xs.length<=sizeLine:=by
 obtain⟨z,its,n,r⟩:=I.hok p _ h
 exact⟨its,n,r.1,r.2,z⟩
theorem aCH(lo hi:O9 Int)(n:Nat):(sliceBounds lo hi none n).1=((_b.sIx n 0 lo:Nat):Int)/\(sliceBounds lo hi none n).2.1=((_b.sIx n n hi:Nat):Int)/\(sliceBounds lo hi none n).2.2=1:=by
 refine⟨?_,?_,rfl⟩
 .cases lo with
  | none=>rfl
  | some i=>
   simp[sliceBounds,_b.sIx]
   by_cases h:i < 0
   · simp only [h, BR] <;> ext
   · simp only [h, C8] <;> ext
 .cases hi with
  | none=>rfl
  | some i=>
   simp[sliceBounds,_b.sIx]
   by_cases h:i < 0
   · simp only [h, BR] <;> ext
   · simp only [h, C8] <;> ext
theorem aBO(a:L9 V9)(lo hi:O9 Int):slicePick a.toArray lo hi none=((a.drop (_b.sIx a.length 0 lo)).take (_b.sIx a.length a.length hi - _b.sIx a.length 0 lo)).toArray:=by
 have h1:=aCH lo hi a.toArray.size
 unfold slicePick
 rw[h1.1,h1.2.1,h1.2.2]
 simp only[sliceRange_one,pick_run]<;>rfl
def aZM(K:Frag):V->O9 Int->O9 Int->Hp->VK->Prop:=λx lo hi H Q=>∃ a xs,x=.ref a/\SqL K H a xs/\∀ p,H p=none->Q (.ref p) (upd H p (.lst (zD xs lo hi)))
theorem aQT:SlR X (aZM X.K):=by
 intro ap s Z H x v k l lo hi sl Q I g f i d h
 obtain⟨a,xs,rfl,j,q⟩:=h
 cases g
 obtain⟨e,r⟩:=I.list j
 have c:=r.1.length
 refine⟨"list",_,slot_list_getitem.lookup,r.2.1.isList.typeIs,?_⟩
 refine wpAny_getItem_list_slice r.2.1.isList f i d .none (by simp) ?_ (by simp_all)
 rw[aBO,<-c]
 refine⟨.ref s.heap.objs.size,_,I.laid (λb m q=>AB _ q) (AM _) ?_,rfl,q _ (I.hok.fresh (AM _))⟩
 exact⟨BB (vN xs lo hi) r.2.2,_,0,(r.1.drop _).take _,AY _ rfl⟩
theorem mP:jY X (.type "tuple") (λxs H Q=>∃ p ys,xs=[.ref p]/\((SqL X.K H p ys/\∀ l,H l=none->Q (.ref l) (upd H l (.tup ys)))\/(SqT X.K H p ys/\Q (.ref p) H))):=by
 intro ap s Z H xs us Q I r h
 obtain⟨p,ys,rfl,h⟩:=h
 obtain⟨u,rfl,i⟩:=qF r
 cases i
 rcases h with ⟨d,q⟩|⟨d,q⟩
 .obtain ⟨c,a⟩:=I.list d
  have f:=a.1.length
  refine call_tuple_list a.2.1.isList (λh' j=>?_) (by simp_all)
  have g:=I.kept (t':=s.toks) j
  exact⟨.ref h'.objs.size,_,(g.laid (t':=s.toks) (λb o e=>AB _ e) (AM _) (show dF X.prog X.w _ _ _ (.tup ys)from⟨a.2.2,c,a.1,kR.new _ _⟩)),rfl,q _ (g.hok.fresh (AM _))⟩
 .obtain ⟨c,a⟩:=I.tuple d
  exact call_tuple_same a.2.1 ⟨.ref p,H,I,rfl,q⟩
def tyV(K:Frag)(T:String)(x:V)(H:Hp):Prop:=match x with
 | .str _=>T="str"
 | .int _=>T="int"
 | .ref p=>(T="list"/\∃ xs,SqL K H p xs)\/(T="tuple"/\∃ o,K.lookup p=some o/\o.cls=.type "tuple"/\o.dict=none) \/
  (T="dict"/\((∃ a0,H p=some (.dK a0))\/∃ a0,H p=some (.dT a0)))\/(T="set"/\∃ S n,H p=some (.set S n))
 | _=>False
theorem aJU{Z:St}{H:Hp}{T:String}{x:V}(I:Inv X ap Z H s)(r:aV x v)(ty:tyV X.K T x H) :
  s.TypeIs v T/\∀ a,v=.ref a->∃ ob,s.heap.get? a=some ob/\ob.dict=none:=by
 cases x with
 | str z=>
  obtain⟨t,rfl⟩:=r
  cases((ty))
  exact⟨typeIs_str s z t,λ_ e=>nomatch e⟩
 | int i=>
  obtain⟨t,rfl⟩:=r
  cases((ty))
  exact⟨FT s i t,λ_ e=>nomatch e⟩
 | ref p=>
  cases r
  rcases ty with ⟨rfl,xs,h⟩|⟨rfl,o,b,j,g⟩|⟨rfl,b⟩|⟨rfl,S,n,b⟩
  .obtain ⟨f,d⟩:=I.list h
   refine⟨d.2.1.isList.typeIs,λa e=>?_⟩
   cases e
   obtain⟨o,n,e⟩:=d.2.1
   exact⟨o,e.1,e.2.2.1⟩
  .refine ⟨⟨o,I.kIn p o b,j⟩,λa e=>?_⟩
   cases e
   exact⟨o,I.kIn _ o b,g⟩
  .have z:∃ o,s.heap.get? p=some o/\o.ExactDict:=by
    rcases b with ⟨c,b⟩|⟨c,b⟩
    .obtain ⟨_,_,_,_,o,_,_,e⟩:=I.hok p _ b
     exact⟨o,e.1,e.2.1⟩
    .obtain ⟨_,_,_,_,o,_,_,e⟩:=I.hok p _ b
     exact⟨o,e.1,e.2.1⟩
   obtain⟨o,e,ex⟩:=z
   refine⟨⟨o,e,ex.1⟩,λa e2=>?_⟩
   cases e2
   exact⟨o,e,ex.2.1⟩
  .obtain ⟨o,_,_,_,e⟩:=I.hok p _ b
   refine⟨⟨o,e.1,e.2.1.1⟩,λa e2=>?_⟩
   cases e2
   exact⟨o,e.1,e.2.1.2.1⟩
 | _=>exact False.elim ty
def tBM(K:Frag)(T:String)(r:V->L9 V->Hp->VK->Prop)(to:TE)(t:TA):TE:=λZ H Q=>to Z H λx H1=>tyV K T x H1/\t Z H1 λxs H2=>r x xs H2 Q
variable{o e:Ez}{es:L9 Ez}{to:TE}{t:TA}{name:Str}{apos cpos:Pos}{T id:String}{r:V->L9 V->Hp->VK->Prop}
theorem xN(j:PlainAttrs T)(slot:Slot T name id)(c:typeOf (.builtin id)=pure (.type "method_descriptor"))(k:MtR X id r)(m:PE X o to)(p:PA X (e::es) t)
  (a:autoParam (attributeBase o name X.env (eval o X.env)=eval o X.env) z3)
  (hfew:autoParam (((backTo cpos (starEach (e::es) X.env)).all (λx=>!x.1) && (backToKw cpos (keywordEach [] X.env)).all (λx=>x.1.isSome)
   && decide ((e::es).length+([]:L9 Keyword).length+(if ([]:L9 Keyword).isEmpty then 0 else 1) < 30))=true) z3)
  (hline:autoParam ((apos.endLine == cpos.line)=true) z3) (hs:autoParam (starEach (e::es) X.env=(false,eval e X.env)::starEach es X.env) z3) (hplain:autoParam ((backTo cpos (starEach es X.env)).any (·.1)=false) z3) :
  PE X (.Call (.Attribute o name apos) (e::es) [] cpos) (tBM X.K T r to t):=by
 intro ap s Z H Q I h
 refine GQ a hfew hline rfl (thn (m ap s Z H _ I h) λv s1 d=>?_)
 obtain⟨x,H1,f,r1,i,l⟩:=d
 refine⟨T,id,j,slot,c,(aJU f r1 i).1,(aJU f r1 i).2,?_⟩
 have g:=p cpos ap s1 Z H1 _ f l
 rw[hs]at g ⊢
 refine GR (by assumption) (Calls.evalArgs_plain ?_)
 exact thn g λus n vs=>by obtain⟨vs,H2,b⟩:=vs;exact k ap n Z H2 x vs v us Q b.1 r1 b.2.1 b.2.2
end
def MtM(X:Cx)(id:String)(r:V->L9 V->Hp->VK->Prop):Prop:=
 ∀ (ap:L9 (Az×Obj)) (s:S9) (Z:St) (H:Hp) (x:V) (xs:L9 V) (v:V9) (us:L9 V9) (Q:VK),Inv X ap Z H s->aV x v->a8 xs us->r x xs H Q->
  wpAny (model X.prog X.w) X.A (call (.builtin id) (v::us)) (EP X ap Z Q) X.xe s
theorem a8.one:∀ {x:V} {us:L9 V9},a8 [x] us->∃ u,us=[u]/\aV x u
 | _,_,.cons r .nil=>⟨_,rfl,r⟩
section
variable{X:Cx}{ap:L9 (Az×Obj)}{Z:St}{H:Hp}{s:S9}{l b:Az}{xs ys zs:L9 V}
theorem Inv.lset{b a:L9 V9}{f:Array V9->Array V9}(I:Inv X ap Z H s)(d:H l=some (.lst xs))
  (e:s.heap.get? l=some {cls:=.type "list",data:=.seq b.toArray n}) (hf:f b.toArray=a.toArray) (hv:a8 ys a) (hz:ys.length<=sizeLine) :
  Inv X ap Z (upd H l (.lst ys)) {s with heap:=s.heap.update l (Obj.mapSeq f),toks:=t'}:=by
 have q:=PySem.IsL.update e f
 rw[hf]at q
 refine I.write (by rw[d];exact trivial) (.inl rfl) (λh u c g=>(CP s.heap _ (BQ c)).trans g) ⟨_,q⟩ ?_
 exact⟨hz,a,_,hv,q⟩
theorem Inv.lnew{a:L9 V9}(I:Inv X ap Z H s)(b:a8 ys a)(hz:ys.length<=sizeLine) :
  Inv X ap Z (upd H s.heap.objs.size (.lst ys)) {s with heap:=s.heap.push {cls:=.type "list",data:=.seq a.toArray},toks:=t'}:=
 I.laid (λ_ _ q=>AB _ q) (AM _) ⟨hz,a,0,b,AY _ rfl⟩
theorem Inv.fresh(I:Inv X ap Z H s):H s.heap.objs.size=none:=I.hok.fresh (AM _)
theorem Inv.lstM(I:Inv X ap Z H s)(a:H l=some (.lst xs)):xs.length<=sizeLine/\∃ (its:L9 V9) (n:Nat),a8 xs its/\xs.length=its.length/\s.heap.get? l=some {cls:=.type "list",data:=.seq its.toArray n}:=by
 obtain⟨z,its,n,r⟩:=I.hok l _ a
 exact⟨z,its,n,r.1,r.1.length,r.2⟩
end
section
variable{X:Cx}
def zF:V->L9 V->Hp->VK->Prop:=λx vs H Q=>∃ l xs y,x=.ref l/\vs=[y]/\H l=some (.lst xs)/\xs.length < sizeLine/\Q .non (upd H l (.lst (xs++[y])))
theorem aA3:MtM X "list.append" zF:=by
 intro ap s Z H x vs v us Q I c e h
 obtain⟨l,xs,y,rfl,rfl,b,f,q⟩:=h
 cases c
 obtain⟨u,rfl,d⟩:=e.one
 obtain⟨z,a,n,r⟩:=I.lstM b
 refine DS F.slot_list_append ⟨_,r.2.2,rfl⟩ F.entry_list_append (F.args_list_append_2 _ _) (PySem.list_append l a.toArray n u (by simp_all)) ⟨r.2.2,?_⟩
 refine⟨.non,_,I.lset b r.2.2 (by simp) (r.1.append (.cons d .nil)) ?_,rfl,q⟩
 ext
theorem aFA(xs:L9 α)(k:Nat):(replicate k xs).flatten.length=k * xs.length:=by
 simp
end
end _a
variable{q:P9}
namespace _c
open PySem.W PySem.Calls
theorem xO{P:Params}{h:Hz}:∀ (ns:L9 Int) (vs:L9 V9),WellAll P h vs (ns.map WData.int)->IntsAre vs ns:=by
 intro ns
 induction ns with
 | nil=>
  intro vs w
  cases w
  exact .nil
 | cons n ns ih=>
  intro vs w
  cases w with
  | cons a b=>
   cases a
   exact .cons _ _ (ih _ b)
theorem aJV{l:OpenLaw}(j:l.most=some n){P:Params}{h:Hz}{args:L9 WData}{c:L9 V9}
  (b:l.row.toRowW.claim.pre args=true) (f:WellAll P h c args) :
  ∃ a vs ns,c=[Value.ref a]/\args=[WData.list (ns.map WData.int)]/\h.get? a=some {cls:=.type "list",data:=.seq vs.toArray}/\IntsAre vs ns/\ns.length<=n:=by
 obtain⟨d,r,rfl,h1,h2⟩:=hasAllW_cons ((pre_splitW b).1)
 obtain rfl:=hasAllW_nil h2
 obtain⟨xs,rfl,i⟩:=hasW_list h1
 obtain⟨ns,rfl⟩:=items_int i
 have e:ns.length<=n:=by
  have g:=by
   have g:=(holds_andW ((pre_splitW b).2)).1
   rw[j]at g
   ext
  have k:=condW_of g (w_not (w_lt w_lit (w_len_list (w_arg rfl))))
  simp_all
 cases f with
 | cons w1 w2=>
  cases w2
  cases w1 with
  | list ho hall=>exact⟨_,_,ns,rfl,rfl,ho,xO ns _ hall,e⟩
theorem aJW(l:OpenLaw)(args:L9 WData):l.row.toRowW.claim.post args (.bool true) args=true:=
 postW_of
  (by rfl)
  ((w_eq_bool (w_res rfl) w_lit)) rfl
theorem attach_call{l:OpenLaw}{b:L9 Str}{k:(Str->O9 V9)->Hz->Prop}{p:W9->Hz->Prop}{d:DefRec}
  (B:l.most=some n) (j:d.params.defaults=[])
  (call:∀ (w:W9) (s₀ s₁:S9) (mg mb:Str->O9 V9) (fa:Az) (o:Obj) (pm cd doc:V9) (a:Az) (vs:L9 V9) (ns:L9 Int),
   Ground q b [] k w s₀ mg mb s₁.heap->p w s₁.heap->
   s₁.heap.get? fa=some o->o.data=.func (docDef d.name d.params d.body d.scope pm cd doc)->s₁.heap.CodeRec cd d.name->mg d.name=some (.ref fa)->
   s₁.heap.get? a=some {cls:=.type "list",data:=.seq vs.toArray}->IntsAre vs ns->ns.length<=n->s₁.gens = #[]->
   codeAny (model l.prog w) callerA (.call (.ref fa) ⟨[.ref a],[]⟩) (λr s'=>r=.ok (.ret (.bool true))/\OldK s₁.heap s'.heap/\s'.os=s₁.os/\AllBare s'.gens) s₁) :
  WalkO q b k p l.row.toRowW d [] (λf vs=>PySem.call f vs):=by
 intro w s₀ s₁ mg mb G Yq fa o pm cd doc D kV C z i t h y args m E e s v g x
 obtain rfl:=Dflts.none t j
 obtain rfl:=Dflts.noKw t
 obtain⟨a,vs,ns,rfl,rfl,c⟩:=aJV B e g
 refine enter_call (D9 (call w s₀ s₁ mg mb fa o pm cd doc a vs ns G Yq C (fd_plain z) i h c.1 c.2.1 c.2.2 y) λr s' u=>?_)
 obtain⟨rfl,h2⟩:=u
 exact⟨.inl ⟨.bool true,.bool true,[],rfl,λ_=>rfl,.bool true,aJW l _,λ_=>⟨List.Pairwise.nil,λ_ A=>(nomatch A)⟩⟩,h2.1,h2.2.1,h2.2.2⟩
section
variable{prog:P9}{w:W9}{A:U9}{E:V9->S9->Prop}{s:S9}{K:Frag}
end
end _c
variable{e:V9}{st:Stmt}{outer:Str->O9 NameKind}{l:Az}{env:Env}{js:L9 (O9 Nat)}{prog:P9}{cl:L9 (Str×Az)}
namespace _a
variable{H:Hp}{elt tg:Ez}{ifs:L9 Ez}
theorem sC:∀ {vs:L9 V9} {ns:L9 Int},IntsAre vs ns->a8 (ns.map V.int) vs
 | _,_,.nil=>.nil
 | _,_,.cons n t h=>.cons ⟨t,rfl⟩ (sC h)
abbrev KOf{h:Hz}(_:K.In h):Frag:=K
noncomputable def a5(s:Stmt)(j:Nat):Stmt:=match s with
 | .ClassDef _ _ _ body _ _ _ _ _ _ _=>body.getD j (.Pass ⟨0,0,0,0⟩)
 | _=>.Pass ⟨0,0,0,0⟩
noncomputable def dC(s:Stmt):Arguments:=match s with
 | .FunctionDef _ a _ _ _ _ _ _ _ _=>a
 | _=>{posonlyargs:=[],args:=[],vararg:=none,kwonlyargs:=[],kw_defaults:=[],kwarg:=none,defaults:=[]}
noncomputable def bB(s:Stmt):L9 Stmt:=match s with
 | .FunctionDef _ _ b _ _ _ _ _ _ _=>b
 | _=>[]
noncomputable def aF(s:Stmt):Scope:=match s with
 | .FunctionDef _ _ _ _ _ _ sc _ _ _=>sc
 | _=>{kind:=.function,names:=[],isGenerator:=false,isCoroutine:=false}
abbrev CX0:CXT:=λ_ _ _ _ _ _=>False
abbrev E0:XK:=λ_ _ _=>False
theorem aBX{X:Cx}:fU CX0 X E0:=λ_ _ _ _ _ _ _ h=>h.elim
structure Fun(K:Frag)(x qual:Str)(st:Stmt)(f:Az)(fd:FuncData):Prop where
 ex:∃ (oc:V9) (od:Option Az) (kV doc pm:V9) (an:Option Az) (cdv ct:V9) (osl:Array (Option V9)),
  fd=fnOf x qual (dC st) (bB st) (aF st) .none kV doc pm an cdv ct/\K.lookup f=some ⟨oc,od,.func fd,osl⟩/\codeIn K cdv qual=true
 kp:keepIn K (.ref f)=true
section
variable{P:P9}{w:W9}{K:Frag}{mg:Str->O9 V9}{base:Hz}
theorem Fun.ok{fd:FuncData}{sp:Sp}(F:Fun K x qual st f fd)(S:FnScope N ps (aF st))(len:∀ vs H Q E,sp vs H Q E->vs.length=ps.length)
  (a:∀ (cdv:V9) (A:U9) (outer:L9 Env) (s:S9) (H:Hp) (vs:L9 V) (Q:VK) (E:XK),Room k (A.deeper (envOfC qual (aF st) s.heap.objs.size f cdv))->sp vs H Q E->
   ∃ t,PSs (fO CX0 P w K mg base N qual (aF st) f cdv A outer s H E).nox (bB st) t/\t {nx:=λ_ H'=>Q .non H',rt:=Q} (start N vs) H):FnOk P w K mg base CX0 (k+1) f fd ps sp:=by
 obtain⟨g,od,kV,doc,pm,e,cdv,ct,d,rfl,c⟩:=F.ex
 refine aHM c.1 c.2 S len λA outer s H vs Q E hr b=>?_
 obtain⟨t,h⟩:=a cdv A outer s H vs Q E hr b
 exact⟨t,h.1.nox,h.2⟩
theorem Fun.binds{fd:FuncData}{ps:L9 Str}(F:Fun K x qual st f fd)
  (h:∀ (kV doc pm:V9) (an:O9 Az) (cdv ct:V9) (us:L9 V9),us.length=ps.length->bindArgs (fnOf x qual (dC st) (bB st) (aF st) .none kV doc pm an cdv ct) ⟨us,[]⟩=pure (ps.zip us)):cO K fd ps []:=by
 obtain⟨c,od,kV,doc,pm,an,cdv,ct,a,rfl,b⟩:=F.ex
 exact .all (h kV doc pm an cdv ct)
theorem mD{st:Stmt}{d:O9 Az}{b:Array (O9 V9)}{kV a:V9}(l:K.lookup f=some ⟨e,od,.func (fnOf x qual (dC st) (bB st) (aF st) .none kV doc pm d a ct),b⟩)
 (c:codeIn K a qual=true) (k:keepIn K (.ref f)=true):Fun K x qual st f (fnOf x qual (dC st) (bB st) (aF st) .none kV doc pm d a ct):=⟨⟨e,od,kV,doc,pm,d,a,ct,b,rfl,l,c⟩,k⟩
end
section
variable{X:Cx}
theorem pv(i:Nat){pos:Pos}(a:autoParam (X.N[i]? = some x) z3)(hv:Vis X.env.scope x:=by first|exact Or.inl rfl|exact Or.inr (Or.inl rfl)|exact Or.inr (Or.inr rfl))(hd:autoParam ((x == ("__debug__":Str))=false) z5)
 (hcd:autoParam ((x == ("__classdict__":Str))=false) z5):PE X (.Name x pos) (g7 i):=aUD a hv hd hcd
end
theorem aHP{A B:Prop}(h:B):if false=true then A else B:=by
 assumption
theorem aHQ{A B:Prop}(h:A):if true=true then A else B:=by
 assumption
def aD(H H':Hp):Prop:=∀ b o,H b=some o->H' b=some o
theorem aD.trans{H1 H2:Hp}(a:aD H H1)(b:aD H1 H2):aD H H2:=λc o h=>b c o (a c o h)
theorem aD.free{H':Hp}(e:aD H H')(h:H' l=Option.none):H l=Option.none:=by
 cases q:H l with
 | none=>rfl
 | some o=>
  rw[e l o q]at h
  ext
theorem aD.seq{H':Hp}{xs:L9 V}(e:aD H H')(h:SqL K H a xs):SqL K H' a xs:=by
 rcases h with (h|⟨o,h⟩)|h
 · exact .inl (.inl (e _ _ h))
 · exact .inl (.inr ⟨o, e _ _ h⟩)
 · exact .inr h
theorem aHR:∀ (names:L9 (Str×NameKind)) (bx:L9 (Str×Az)),(∀ x∈names,x.2=.free->∃ c,env.cells.lookup x.1=some c)->
  (∀ x c,bx.lookup x=some c->env.cells.lookup x=some c)->
  ∃ cl,(forIn names bx λx r=>(if (x.2 == NameKind.free)=true then(do let a <-cellOf env x.1;pure (ForInStep.yield ((x.1,a)::r)))else pure (ForInStep.yield r)):Sem (L9 (Str×Az)))=pure cl /\
   (∀ x c,cl.lookup x=some c->env.cells.lookup x=some c)/\(∀ x∈names,x.2=.free->∃ c,cl.lookup x.1=some c)/\∀ x c,bx.lookup x=some c->∃ c',cl.lookup x=some c':=by
 intro names
 induction names with
 | nil=>intro bx _ h;exact⟨bx,rfl,h,λx g=>absurd g (by simp),λx c e=>⟨c,e⟩⟩
 | cons x r ih=>
  intro bx f h
  obtain⟨n,k⟩:=x
  by_cases m:k=.free
  .subst m
   obtain⟨c,l⟩:=f _ A4 rfl
   obtain⟨cl,e1,e2,o,j⟩:=ih _ (λy b=>f y (AU _ b)) (λy d e=>by
    rw[B7]at e
    cases q:y == n with
    | true=>rw[q]at e;cases e;have:=eq_of_beq q;subst this;ext
    | false=>rw[q]at e;exact h y d e)
   refine⟨cl,?_,e2,λy b i=>?_,λy d e=>?_⟩
   .rw[DJ]
    simp only[DT,BR]
    unfold cellOf
    simp only[l,pure_bind]
    exact e1
   .rcases AV.mp b with z|z
    · simp_all
    · ext
   .by_cases q:y=n
    · simp_all
    · exact j y d (by rw [B7, C6 q]; exact e)
  .simp_all
theorem xP(a:∀ x∈scope.names,x.2=.free->∃ c,env.cells.lookup x.1=some c) :
  ∃ cl,closureFor scope env=pure cl/\(∀ x c,cl.lookup x=some c->env.cells.lookup x=some c)/\∀ x∈scope.names,x.2=.free->∃ c,cl.lookup x.1=some c:=by
 obtain⟨cl,e1,e2⟩:=aHR scope.names [] a (λx c e=>by simp_all)
 refine⟨cl,?_,e2.1,e2.2.1⟩
 unfold closureFor
 ext
theorem gL{env:Env}:∀ {names:L9 (Str×NameKind)} {x:Str} {k:NameKind},
  (names.map λ(n,k)=>if (k == NameKind.free && env.scope.kind == .function && env.kindOf n == some .cell)then(n,NameKind.cell)else(n,k)).lookup x=some k->
  k=.cell\/k=.free->(∀ y∈names,y.2≠.cell)->(x,NameKind.free)∈names
 | [],_,_,h,_,_=>by simp_all
 | (n,k0)::r,x,k,h,hk,hc=>by
  have ih:=@gL env r x k
  ext
noncomputable def dZ(X:Cx)(N:L9 Str)(scope:Scope)(cl:L9 (Str×Az))(C:Az)(s:S9)(H:Hp)(fp:L9 Az):Cx where
 prog:=X.prog
 w:=X.w
 K:=X.K
 mg:=X.mg
 base:=X.base
 A:=X.A
 N:=N
 s₀:=s
 H₀:=H
 env:=compEnvC scope cl C X.env
 outer:=X.stack
 stack:=X.stack
 ex:=fp
 calm:=X.calm
 fn:=λ_=>false
 pn:=[]
 xe:=λ_ _=>False
inductive Caps(X:Cx)(scope:Scope):List Str->List (Option Nat)->Prop
 | nil:Caps X scope [] []
 | own {x:Str} {N:List Str} {js:List (Option Nat)} (t:Caps X scope N js):Caps X scope (x::N) (none::js)
 | cap {x:Str} {j:Nat} {N:List Str} {js:List (Option Nat)} (h1:X.N[j]? = some x) (h2:X.env.kindOf x=some .cell\/X.env.kindOf x=some .free)
  (h3:(relabel scope X.env).names.lookup x=some .cell\/(relabel scope X.env).names.lookup x=some .free) (t:Caps X scope N js):Caps X scope (x::N) (some j::js)
theorem Caps.len{X:Cx}(c:Caps X scope N js):js.length=N.length:=by
 induction c with
 | nil=>rfl
 | own _ ih=>simp[ih]
 | cap _ _ _ _ ih=>simp[ih]
theorem Caps.get{X:Cx}{scope:Scope}{N:L9 Str}{js:L9 (O9 Nat)}(c:Caps X scope N js):∀ {i j:Nat} {x:Str},js[i]? = some (some j)->N[i]? = some x->
  X.N[j]? = some x/\(X.env.kindOf x=some .cell\/X.env.kindOf x=some .free)/\((relabel scope X.env).names.lookup x=some .cell\/(relabel scope X.env).names.lookup x=some .free):=by
 induction c with
 | nil=>intro i j x h;simp_all
 | own _ ih=>
  intro i j x h1 h2
  cases i with
  | zero=>simp_all
  | succ i=>exact ih (by assumption) (by assumption)
 | cap a b d _ ih=>
  intro i j x h1 h2
  cases i with
  | zero=>
   simp at h1 h2
   subst h1 h2
   exact⟨a,b,d⟩
  | succ i=>exact ih (by assumption) (by assumption)
noncomputable def lI(js:L9 (O9 Nat))(Z:St):St:=js.map λo=>o.bind λj=>(Z[j]?).join
def eQ(Z Z':St):Prop:=Z'.length=Z.length/\∀ (i:Nat) v,Z[i]? = some (some v)->Z'[i]? = some (some v)
theorem eQ.refl(Z:St):eQ Z Z:=⟨rfl,λ_ _ h=>h⟩
theorem eQ.trans{a b c:St}(h:eQ a b)(k:eQ b c):eQ a c:=⟨k.1.trans h.1,λi v e=>k.2 i v (h.2 i v e)⟩
section
variable{X:Cx}
def PIf(X:Cx)(ifs:L9 Ez)(t:TT):Prop:=
 ∀ (ap:L9 (Az×Obj)) (s:S9) (Z:St) (H:Hp) (Q:Bool->Hp->Prop),Inv X ap Z H s->t Z H Q->
  wpAny (model X.prog X.w) X.A (forIn ifs true λc r=>if r=true then do let ok <-isTrue c X.env (eval c X.env);pure (ForInStep.yield ok)else pure (ForInStep.yield r)) (TP X ap Z Q) X.xe s
def aU0:TT:=λ_ H Q=>Q true H
theorem pA:PIf X [] aU0:=by
 intro ap s Z H Q I h
 exact AH ⟨H,I,h⟩
end
def zG(X:Cx)(N:L9 Str)(scope:Scope)(js:L9 (O9 Nat))(tg elt:Ez)(ifs:L9 Ez)(Z:St)(x:V)(H:Hp)(R:O9 V->Hp->Prop):Prop:=
 ∀ (cl:L9 (Str×Az)) (C:Az) (s:S9) (H0:Hp) (fp:L9 Az),∃ (g:TG) (tt:TT) (te:TE),PG (dZ X N scope cl C s H0 fp) tg g/\PIf (dZ X N scope cl C s H0 fp) ifs tt/\PE (dZ X N scope cl C s H0 fp) elt te /\
  ∀ Z0,eQ (lI js Z) Z0->g x Z0 H λZ2 H2=>eQ (lI js Z) Z2/\tt Z2 H2 λb H3=>if b=true then te Z2 H3 λy H4=>R (some y) H4 else R none H3
def compK(X:Cx)(N:L9 Str)(scope:Scope)(js:L9 (O9 Nat))(tg elt:Ez)(ifs:L9 Ez)(Z:St)(Q:VK)(J:It)(H1:Hp):Prop:=∃ (n:Nat) (W:Nat->L9 V->Hp->Prop),n<=sizeLine/\W 0 [] H1 /\
 ∀ i ys H,W i ys H->ys.length<=i/\((J.stop i H/\∀ p,H p=none->Q (.ref p) (upd H p (.lst ys)))\/(J.go i H/\i < n/\∃ R:O9 V->Hp->Prop,(∀ y H2,R (some y) H2->W (i+1) (ys++[y]) H2)/\(∀ H2,R none H2->W (i+1) ys H2) /\
  ∀ x H',J.yld i H x H'->zG X N scope js tg elt ifs Z x H' R))
def uF(X:Cx)(N:L9 Str)(scope:Scope)(js:L9 (O9 Nat))(tg elt:Ez)(ifs:L9 Ez)(wi:TI):TE:=λZ H Q=>wi Z H (compK X N scope js tg elt ifs Z Q)
section
variable{prog:P9}{w:W9}{A:U9}{R:Result->S9->Prop}{s:S9}
theorem aCI{a i:Ez}{pos:Pos}{it:V9}(I:Nat->S9->Prop)
  (l:∀ n s,I n s->wpAny (model prog w) A (pyNext it) (λr s1=>match r with
   | none=>R (.ok .next) s1
   | some v=>wpAny (model prog w) A (letOwnedTupleGo a it v) (λ_ s1'=>wpAny (model prog w) A (assign a env v) (λ_ s2=>
    wpAny (model prog w) A (forIn ifs true λc r=>if r=true then do let ok <-isTrue c env (eval c env);pure (ForInStep.yield ok)else pure (ForInStep.yield r)) (λok s3=>
     if ok=true then wpAny (model prog w) A (eval elt env) (λx s4=>
      wpAny (model prog w) A (call (.builtin "list.append") [e,x]) (λ_ s5=>∃ m,m < n/\I m s5) (λ_ _=>False) s4) (λ_ _=>False) s3
     else ∃ m,m < n/\I m s3) (λ_ _=>False) s2) (λ_ _=>False) s1') (λ_ _=>False) s1) (λ_ _=>False) s)
  (n:Nat) (h:I n s) :
  codeAny (model prog w) A (.compLoop (.ListComp elt [⟨a,i,ifs,0⟩] scope pos) 0 it e env) R s:=by
 refine codeAny_loop rfl I (λn s z=>?_) n h
 refine wpAny_noted ?_
 rw[compTurn_list]
 refine AA (FD (AA (BW (l n s z) (λr p b=>?_) λ_ _ h'=>h'.elim)))
 cases r with
 | none=>exact AH b
 | some v=>
  refine AA (BW b (λ_ s1' o=>?_) λ_ _ f=>f.elim)
  refine AA (BW o (λ_ y j=>AA (BW j (λok t d=>?_) λ_ _ h'=>h'.elim)) λ_ _ h'=>h'.elim)
  cases ok with
  | false=>exact AH ⟨rfl,d⟩
  | true=>
   exact AA (AA (BW d (λx q k=>AA (BW k (λ_ u g=>AH (AH ⟨rfl,g⟩)) λ_ _ h'=>h'.elim)) λ_ _ h'=>h'.elim))
end
theorem HOk.track{w:W9}{h:Hz}{o:HO}(x:HOk P w H h)(d:H a=none)(new:dF P w (upd H a o) h a o):HOk P w (upd H a o) h:=λb u e=>by
 by_cases f:b=a
 .subst f;rw[aO]at e;simp_all
 .rw[aG f]at e
  exact(x b u e).stay (λc v _ q=>q) (λc q=>by rw[aG (a9 q d)];ext) (λc xs q=>by rw[aG (a9 q d)];ext) λc xs q=>by rw[aG (a9 q d)];ext
section
variable{X:Cx}{ap:L9 (Az×Obj)}{Z:St}
structure CompEnd(X:Cx)(ap:List (Az×Obj))(Z:St)(D C:Az)(ys:List V)(H':Hp)(s':S9):Prop where
 inv:Inv X ap Z (upd H' D (.lst ys)) s'
 ns:∃ m,s'.heap.Ns C m
 fp:iV X ap (upd H' D (.lst ys)) C
 nD:H' D=none
theorem CompEnd.gone{D:Az}{ys:L9 V}{H':Hp}{c:Hz}{d:St}(I:Inv X ap d H s')(a:iV X ap H C)(g:Heap.SameBut C s'.heap c):Inv X ap d H {s' with heap:=c}:=
 I.turned (λb o f e=>(g.2 b f).trans e) a.1 a.2.1 a.2.2.2.1 a.2.2.2.2.1 a.2.2.2.2.2
theorem aCJ{w:W9}{A:U9}{a:Nat}{x:V9}(e:s.heap.get? l=some {cls:=.type "list",dict:=none,data:=.seq items a})(hz:items.size<=sizeLine)
  (hQ:∀ nn' h',h'.get? l=some {cls:=.type "list",dict:=none,data:=.seq (items.push x) nn'}->Heap.SameBut l s.heap h'->Q .none {s with heap:=h'}) :
  wpAny (model prog w) A (call (.builtin "list.append") [.ref l,x]) Q E s:=by
 refine DS F.slot_list_append ⟨_,e,rfl⟩ F.entry_list_append (F.args_list_append_2 _ _) (PySem.list_append l items a x (by ext)) ⟨e,?_⟩
 exact hQ _ _ (CH _ e rfl) (B9 ..)
theorem xQ{ag:Ez}{pos:Pos}{L:L9 Az}{tn:Nat->Hz->Prop}{J:It}{t:S9}{H2:Hp}
  {RR:V9->Az->Result->S9->Prop} {Q:VK} (hc:X.calm=true) (ae:Caps X scope N js) (S:scope.kind=.function) (l:∀ y∈scope.names,y.2≠.cell)
  (f:∀ x c,cl.lookup x=some c->X.env.cells.lookup x=some c) (aj:∀ x∈scope.names,x.2=.free->∃ c,cl.lookup x.1=some c)
  (I:Inv X ap Z H2 t) (T:Turn X.prog X.w X.K tg J L it tn) (st2:tn 0 t.heap) (Y:∀ b∈L,iV X ap H2 b) (n:Nat) (W:Nat->L9 V->Hp->Prop) (hn:n<=sizeLine) (w0:W 0 [] H2)
  (U:∀ i ys H,W i ys H->ys.length<=i/\((J.stop i H/\∀ p,H p=none->Q (.ref p) (upd H p (.lst ys)))\/(J.go i H/\i < n/\∃ R:O9 V->Hp->Prop,(∀ y H2,R (some y) H2->W (i+1) (ys++[y]) H2)/\(∀ H2,R none H2->W (i+1) ys H2) /\
   ∀ x H',J.yld i H x H'->zG X N scope js tg elt ifs Z x H' R)))
  (br:∀ D C ys H' s',CompEnd X ap Z D C ys H' s'->Q (.ref D) (upd H' D (.lst ys))->RR (.ref D) C (.ok .next) s') :
  wpAny (model X.prog X.w) X.A (newList []) (λbx s3=>wpAny (model X.prog X.w) X.A (newFunctionEnv scope X.env.globals cl [] X.env.qual none .none (some X.env)) (λcenv s4=>
   codeAny (model X.prog X.w) X.A (.compStart (.ListComp elt [⟨tg,ag,ifs,0⟩] scope pos) 0 (.ref it) bx {cenv with scope:=relabel scope X.env}) (RR bx cenv.locals) s4) E s3) E t:=by
 refine EH (wpAny_newFunctionEnv l (by simp) (λO F s=>?_) S)
 generalize al:t.heap.push {cls:=.type "list",dict:=none,data:=.seq _}=Hh at F s ⊢
 have hC:Hh.objs.size=t.heap.objs.size+1:=by rw[<-al,BP]
 have ac:t.heap.objs.size≠Hh.objs.size:=by simp_all
 have G:t.heap.objs.size<=Hh.objs.size:=by simp_all
 have P:=λb o e=>s.extBut b o (by rw[hC];exact BG (Nat.lt_succ_of_lt (AQ e))) (AB _ (al▸AB _ e))
 have ao:=s.extBut _ _ ac (AB _ (al▸AY _ rfl))
 have au:tn 0 O:=T.keep _ _ _ st2 λb a o e=>P b o e
 have ai:∀ b∈L,b < t.heap.objs.size:=λb a=>by
  obtain⟨o,e⟩:=T.obj _ _ st2 b a
  exact AQ e.1
 have bd:∀ b∈frs X.stack,b < t.heap.objs.size:=λb a=>by
  rcases AV.mp (I.stkSub b a)with z|z
  .rw[z];exact I.lt
  .refine Nat.lt_of_not_le λbq=>I.nofs bq z
 have av:∀ b∈L,b≠Hh.objs.size:=λb a z=>B0 _ (A3 (ai b a) (z▸G))
 generalize hD:t.heap.objs.size=D at *
 generalize bz:Hh.objs.size=C at *
 let X':=dZ X N scope cl C t H2 L
 have ay:X'.Ok:=by
  refine⟨I.ok.mod,S,I.ok.glob,I.ok.blt,by show t.heap.objs.size<=C;rw[hD];exact G,λx y c e1 e2=>I.ok.inj x y c (f x c e1) (f y c e2),λx hx=>?_,λx c z=>absurd (show false=true from z) EB,I.ok.hd,I.ok.frames,.inl rfl,λb a=>?_,
   I.bs,BB I.ok.bsz I.sz,λb o e a=>?_,λb a z=>?_,I.stack,I.stkFree⟩
  .have hm:(x,NameKind.free)∈scope.names:=by
    rcases hx with z|z
    .exact gL (env:=X.env) z (.inl rfl) l
    .exact gL (env:=X.env) z (.inr rfl) l
   exact aj _ hm rfl
  .exact ⟨av b a,λx c e=>(Y b a).2.2.2.2.1 x c (f x c e)⟩
  .rcases (Y b a).2.2.2.1 with z|z
   .exact I.ok.noex b o e z
   .exact absurd (AQ (I.ok.bs b o e).1) (FU.mpr z)
  .rcases AV.mp (I.stkSub b z)with q|q
   .exact (Y b a).2.1 q
   .exact (Y b a).2.2.1 q
 have az:(lI js Z).length=N.length:=by unfold lI;rw[AC,ae.len]
 have M:H2 D=none:=I.hok.fresh (by rw[hD];exact AM _)
 have DnotFp:D∉L:=λz=>B0 _ (ai D z)
 have I0:∀ tk,Inv X' [] (lI js Z) H2 {t with heap:=O,toks:=tk}:=λtk=>by
  refine⟨ay,rfl,I.bare,Un.kept P,⟨_,F,λi x v e1 e2 e3=>?_⟩,λx c e=>?_,(I.hok.fresh (by rw[hD];exact G)),λx c e=>I.freeC x c (f x c e),λp B=>absurd B (by show ¬ p∈([]++[]:L9 (Az×Obj));simp),I.hok.kept P,az⟩
  .unfold lI at e2
   rw[AE]at e2
   cases q:js[i]? with
   | none=>rw[q]at e2;cases e2
   | some o=>
    rw[q]at e2
    cases o with
    | none=>cases e2
    | some j=>
     have aa:(Z[j]?).join=some v:=BV e2
     obtain⟨c1,c2⟩:=ae.get q e1
     have e4:Z[j]? = some (some v):=by
      cases z:Z[j]? with
      | none=>rw[z]at aa;cases aa
      | some u=>rw[z]at aa;have:u=some v:=aa;rw[this]
     obtain⟨m,hm⟩:=I.loc
     have bu:Vis X.env.scope x:=by
      rcases c2.1 with z|z
      · exact .inr (.inl z)
      · exact .inr (.inr z)
     obtain⟨u,r⟩:=hm.2 j x v c1 e4 bu
     refine⟨u,r.1,.inr ⟨c2.2,?_⟩⟩
     have lc:∃ c,X.env.cells.lookup x=some c/\t.heap.IsCell c (some u):=by
      rcases r.2 with ⟨k,_⟩|⟨_,z⟩
      · rcases c2.1 with z | z <;> (rw [k]at z; cases z)
      · exact z
     obtain⟨c,e5,o,ho⟩:=lc
     have bh:(x,NameKind.free)∈scope.names:=by
      rcases c2.2 with z|z
      · exact gL (env := X.env) z (.inl rfl) l
      · exact gL (env := X.env) z (.inr rfl) l
     obtain⟨c',e6⟩:=aj _ bh rfl
     have e7:=f _ _ e6
     rw[e5]at e7;cases e7
     exact⟨c,e6,o,P c o ho.1,ho.2⟩
  .obtain ⟨v,o,ho⟩:=I.cell x c (f x c e)
   exact⟨v,o,P c o ho.1,ho.2⟩
 have af:∀ {H':Hp} {pl:L9 (Az×Obj)},(∀ b∈L,H' b=none)->(∀ b∈L,∀ p∈pl,p.1≠b)->∀ b∈L,iV X' pl H' b:=λ{H' pl} hn hpl b a=>by
  refine⟨hn b a,av b a,ay.exfs b a,.inl a,λx c e=>(Y b a).2.2.2.2.1 x c (f x c e),λp B=>hpl b a p ?_⟩
  have bn:p∈[]++pl:=B
  simpa using bn
 let LI:Nat->S9->Prop:=λk s'=>∃ i ys its nn Z' H',k=n+1 - i/\i<=n/\W i ys H'/\tn i s'.heap/\(∀ b∈L,H' b=none)/\a8 ys its/\eQ (lI js Z) Z' /\
  Inv X' [(D,{cls:=.type "list",dict:=none,data:=.seq its.toArray nn})] Z' H' s'
 have ah:∀ tk,codeAny (model X.prog X.w) X.A (.compLoop (.ListComp elt [⟨tg,ag,ifs,0⟩] scope pos) 0 (.ref it) (.ref D) (compEnvC scope cl C X.env)) (RR (.ref D) C) {t with heap:=O,toks:=tk}:=by
  intro tk
  refine aCI LI ?_ (n+1) ⟨0,[],[],0,lI js Z,H2,rfl,B5 _,w0,au,λb a=>(Y b a).1,.nil,eQ.refl _,?_⟩
  .rintro k s3 ⟨i,ys,its,nn,Z3,H3,rfl,hin,w3,st3,fr3,r3,ks,I3⟩
   have aw:=af (pl:=[(D,{cls:=.type "list",dict:=none,data:=.seq its.toArray nn})]) fr3 (λb a p B z=>by
    rw[AZ.mp B]at z
    exact DnotFp ((show D=b from z)▸a))
   rcases(U i ys H3 w3).2 with ⟨stop,q⟩|⟨go,ba,RW,bg,bp,step⟩
   .refine thn (T.done X' rfl rfl rfl hc i _ s3 Z3 H3 _ I3 aw st3 stop) λr s4 h=>?_
    obtain⟨hr,I4⟩:=h
    subst hr
    show RR (.ref D) C (.ok .next) s4
    have pe:=I4.pin (D,{cls:=.type "list",dict:=none,data:=.seq its.toArray nn}) (by show _∈[]++_;simp)
    refine br D C ys H3 s4 ?_ (q D pe.2.1)
    have aq:∀ b u,H2 b=some u->b≠D:=λb u e z=>by rw[z,M]at e;cases e
    have bi:Un (frs X.stack) L H2 (upd H3 D (.lst ys)) t.heap s4.heap:=by
     have ub:=I4.base
     refine⟨ub.keep,ub.slot,λb o e am hx=>?_,ub.there,λb xs e=>?_,λb o u e=>?_,λb ps e=>?_⟩
     .rw[aG (λz=>by have:=AQ e;rw[hD,z]at this;exact B0 _ this)]
      exact ub.free b o e am hx
     .rw[aG (aq b _ e)];exact ub.tups b xs e
     .rw[aG (aq b _ e)];exact ub.frzs b o u e
     .rw[aG (aq b _ e)];exact ub.tbls b ps e
    refine⟨I.call' I4.os bi (HOk.track I4.hok pe.2.1 ⟨BB (U i ys H3 w3).1 (BB hin hn),its,nn,r3,pe.1⟩) I4.bare λb a=>⟨(Y b a).2.2.2.1,(Y b a).2.1,(Y b a).2.2.2.2.1,(Y b a).2.2.2.2.2⟩,?_,?_,pe.2.1⟩
    .obtain ⟨m,hm⟩:=I4.loc
     exact⟨m,hm.1⟩
    .refine I.fpOk (by rw[hD];exact G) ?_
     rw[aG (BQ ac)]
     exact I4.free
   .refine thn (T.item X' rfl rfl rfl hc i _ s3 Z3 H3 _ I3 aw st3 go) λr s4 h=>?_
    obtain⟨u,hr,h4⟩:=h
    subst hr
    show wpAny _ _ (letOwnedTupleGo tg (.ref it) u) _ _ s4
    refine thn h4 λ_ s5 h=>?_
    obtain⟨x,H5,I5,r5,y5,ak,bj⟩:=h
    obtain⟨g,tt,te,hg⟩:=step x H5 y5 cl C t H2 L
    have ax:=af (pl:=[(D,{cls:=.type "list",dict:=none,data:=.seq its.toArray nn})]) bj (λb a p B z=>by
     rw[AZ.mp B]at z
     exact DnotFp ((show D=b from z)▸a))
    have bv:=I5.pinned ax (T.obj _ _ ak)
    refine thn (hg.1 _ s5 Z3 H5 x u _ bv r5 (hg.2.2.2 Z3 ks)) λ_ s6 h=>?_
    obtain⟨Z6,H6,I6,bf,q6⟩:=h
    refine thn (hg.2.1 _ s6 Z6 H6 _ I6 q6) λb s7 h=>?_
    obtain⟨H7,I7,q7⟩:=h
    have bc:∀ {s':S9} {H':Hp} {Z':St},Inv X' ([(D,{cls:=.type "list",dict:=none,data:=.seq its.toArray nn})]++xJ L s5.heap) Z' H' s'->tn (i+1) s'.heap/\(∀ b∈L,H' b=none):=λ{s' H' Z'} I'=>by
     refine⟨T.keep _ _ _ ak λb a o e=>(I'.pin (b,o) (BX _ (BX _ (mT a e)))).1,λb a=>?_⟩
     obtain⟨o,e,d⟩:=T.obj _ _ ak b a
     exact(I'.pin (b,o) (BX _ (BX _ (mT a e)))).2.1
    cases b with
    | false=>
     rw[AL EB]at q7 ⊢
     obtain⟨a1,a2⟩:=bc I7
     exact⟨n+1 - (i+1),by ext,i+1,ys,its,nn,Z6,H7,rfl,ba,bp _ q7,a1,a2,r3,bf,I7.unpinned⟩
    | true=>
     rw[AJ rfl]at q7 ⊢
     refine thn (hg.2.2.1 _ s7 Z6 H7 _ I7 q7) λyv s8 h=>?_
     obtain⟨y,H8,I8,r8,q8⟩:=h
     obtain⟨a1,a2⟩:=bc I8
     have I8u:=I8.unpinned
     obtain⟨pe,pn,p1,p2,p3⟩:=I8u.pin (D,{cls:=.type "list",dict:=none,data:=.seq its.toArray nn}) (by show _∈[]++_;simp)
     have bw:s8.heap.IsList D its.toArray:=PySem.IsL.isList pe
     have bo:its.length<=sizeLine:=by rw[<-r3.length];exact BB (U i ys H3 w3).1 (BB hin hn)
     refine aCJ pe (by simpa using bo) λam h9 e9 be=>?_
     have I9:Inv X' [] Z6 H8 {s8 with heap:=h9,toks:=s8.toks}:=by
      refine Inv.turned (ap:=[]) (it:=D) (t':=s8.toks) (I8u.pins_of (pins':=[]) λp B=>absurd B (by simp)) (λb o a e=>(be.2 b a).trans e) pn ac (.inr (by show t.heap.objs.size<=D;rw[hD];exact AM _)) (λx c e z=>?_) λp B=>absurd B (by show ¬ p∈([]++[]:L9 (Az×Obj));simp)
      obtain⟨v,o,ho,hd⟩:=I.cell x c (f x c e)
      have:=AQ ho
      rw[hD,z]at this
      exact B0 _ this
     refine⟨n+1 - (i+1),by ext,i+1,ys++[y],its++[yv],am,Z6,H8,rfl,ba,bg _ _ q8,?_,a2,a8.append r3 (.cons r8 .nil),bf,?_⟩
     .exact T.keep _ _ _ a1 λb a o e=>(be.2 b (λz=>DnotFp (z▸a))).trans e
     .refine I9.pins_of λp B=>?_
      obtain rfl:=AZ.mp B
      exact⟨by simpa using e9,pn,p1,p2,by simp⟩
  .refine (I0 tk).pins_of λp B=>?_
   obtain rfl:=AZ.mp B
   exact⟨ao,M,ac,(λz=>B0 _ (bd D z)),by simp⟩
 exact codeAny_compStart_list (ah _) (T.self X.A 0 _ _ _ au (ah _))
noncomputable def dJ(names:L9 (Str×NameKind))(outer:Str->O9 NameKind):Bool:=
 names.all (λy=>y.2 != .cell) && names.all (λy=>y.2 != .local || names.lookup y.1 == some .local) && names.all (λy=>y.2 != .free || outer y.1 == some .cell || outer y.1 == some .free)
theorem dJ.cell{names:L9 (Str×NameKind)}(h:dJ names outer=true):∀ y∈names,y.2≠.cell:=λy a=>by
 unfold dJ at h
 ext
theorem dJ.names{names:L9 (Str×NameKind)}(h:dJ names outer=true):∀ y∈names,y.2=.local->names.lookup y.1=some .local:=λy a e=>by
 unfold dJ at h
 ext
theorem dJ.free{names:L9 (Str×NameKind)}(h:dJ names outer=true):∀ y∈names,y.2=.free->outer y.1=some .cell\/outer y.1=some .free:=λy a e=>by
 unfold dJ at h
 ext
theorem aFB{N:L9 Str}{js:L9 (O9 Nat)}{a:Ez}{pos:Pos}{g:TI}(k:X.calm=true)(c:Caps X scope N js)(hok:dJ scope.names X.env.kindOf=true)
  (hi:PI X tg a g) (b:autoParam (scope.kind=.function) z3) (hs:∀ x,foldedSetIterable a X.env x=pure x:=by intro _;rfl) :
  PE X (.ListComp elt [⟨tg,a,ifs,0⟩] scope pos) (uF X N scope js tg elt ifs g):=by
 intro ap s Z H Q I h
 obtain⟨cl,e1⟩:=xP λx r l=>I.ok.has _ (dJ.free hok x r l)
 refine F5 rfl hs e1.1 b (dJ.names hok) (thn (hi ap s Z H _ I h) λv s1 h1=>thn h1 λp w h2=>?_)
 obtain⟨t,fp,u,J,H2,rfl,i,T,st2,o,n,W,d⟩:=h2
 refine xQ k c b (dJ.cell hok) e1.2.1 e1.2.2 i T st2 o n W d.1 d.2.1 d.2.2 ?_
 intro D C ys H' s' e q
 obtain⟨m,j⟩:=e.ns
 exact⟨m,j,λh' f=>⟨.ref D,_,CompEnd.gone (D:=D) (ys:=ys) (H':=H') e.inv e.fp f,rfl,q⟩⟩
theorem xR{i:Nat}{b:Ez}{pos d:Pos}{w:TI}(O:X.N.Nodup)(r:X.N[i]? = some x)(hx:Loc X.env.scope x)
  (u:swapsWith (.ListComp elt [⟨tg,b,ifs,0⟩] scope pos) (some (.Name x pos')) d.line X.env=pure true) (P:X.calm=true) (f:Caps X scope N js) (hok:dJ scope.names X.env.kindOf=true)
  (hi:PI X tg b w) (c:autoParam (scope.kind=.function) z3) (l:X.fn x=true\/X.env.scope.names.lookup x=some .local:=by exact .inl rfl) (hs:∀ x,foldedSetIterable b X.env x=pure x:=by intro _;rfl) :
  PS X (.Assign [.Name x pos'] (.ListComp elt [⟨tg,b,ifs,0⟩] scope pos) d) (lH (uF X N scope js tg elt ifs w) (jG i)):=by
 intro ap s Z H D I h
 obtain⟨cl,e1⟩:=xP λx hx l=>I.ok.has _ (dJ.free hok x hx l)
 rw[exec_Assign_Name_used _ _ _ _ u]
 refine AA (FD (AA ?_))
 refine AA (BW (F5 rfl hs e1.1 c (dJ.names hok)
  (thn (hi ap s Z H _ I h) λv s1 h1=>thn h1 λM U h2=>?_)) (λ_ s' A=>AH (AH A)) λ_ _ e=>e)
 obtain⟨R,fp,S,J,H2,rfl,y,T,st2,K,n,W,p⟩:=h2
 refine xQ (Q:=λv H'=>D.nx (Z.set i (some v)) H') P f c (dJ.cell hok) e1.2.1 e1.2.2 y T st2 K n W p.1 p.2.1 p.2.2 ?_
 intro L C ys H' s' g q
 refine wpAny_assign_Name (aAV (v:=.ref L) g.inv O r hx rfl (λB t G=>?_) l)
 obtain⟨a,j⟩:=G
 have o:C≠a:=by
  rcases j.2 with z|z
  · rw [z]; exact g.fp.2.1
  · exact λF => g.fp.2.2.2.2.1 x a z F.symm
 obtain⟨m,E⟩:=g.ns
 exact⟨m,E.sameBut j.1 o,λh' k=>⟨_,_,CompEnd.gone (D:=L) (ys:=ys) (H':=H') t g.fp k,q⟩⟩
end
noncomputable def aPL(W:Nat->L9 V->Hp->Prop)(i:Nat)(ys:L9 V):O9 V->Hp->Prop
 | some y,H=>W (i+1) (ys++[y]) H
 | none,H=>W (i+1) ys H
theorem aFC{X:Cx}{J:It}{Z:St}{Q:VK}{H1:Hp}(W:Nat->L9 V->Hp->Prop)(hz:n<=sizeLine)(f:W 0 [] H1)
  (d:∀ i ys H,i<=n->W i ys H->ys.length<=i) (b:∀ i ys H,i < n->W i ys H->J.go i H) (c:∀ ys H,W n ys H->J.stop n H)
  (step:∀ i x ys H H',i < n->W i ys H->J.yld i H x H'->zG X N scope js tg elt ifs Z x H' (aPL W i ys))
  (done:∀ ys H,W n ys H->∀ p,H p=none->Q (.ref p) (upd H p (.lst ys))) :
  compK X N scope js tg elt ifs Z Q J H1:=by
 refine⟨n,λi ys H=>i<=n/\W i ys H,hz,⟨B5 _,f⟩,?_⟩
 rintro i ys H ⟨hi,w⟩
 refine⟨d i ys H hi w,?_⟩
 by_cases a:i < n
 .exact .inr ⟨b i ys H a w,a,aPL W i ys,λy H2 q=>⟨a,q⟩,λH2 q=>⟨a,q⟩,λx H' y=>step i x ys H H' a w y⟩
 .have e:i=n:=by ext
  subst e
  exact .inl ⟨c ys H w,done ys H w⟩
mutual
inductive DatV(K:Frag)(H:Hp):V->D4->Prop
 | non:DatV K H .non .none
 | bl (b:Bool):DatV K H (.bl b) (.bool b)
 | int (i:Int):DatV K H (.int i) (.int i)
 | str (x:Str):DatV K H (.str x) (.str x)
 | lst {a:Az} {xs:List V} {ds:List D4}:SqL K H a xs->DatVs K H xs ds->DatV K H (.ref a) (.list ds)
 | tup {a:Az} {xs:List V} {ds:List D4}:SqT K H a xs->DatVs K H xs ds->DatV K H (.ref a) (.tuple ds)
 | pl {a:Az} {ns:List Int}:H a=some (.lst (ns.map V.int))->DatV K H (.ref a) (.dict [(.list (ns.map .int),.none)])
inductive DatVs(K:Frag)(H:Hp):List V->List D4->Prop
 | nil:DatVs K H [] []
 | cons {x:V} {d:D4} {xs:List V} {ds:List D4}:DatV K H x d->DatVs K H xs ds->DatVs K H (x::xs) (d::ds)
end
section
variable{X:Cx}{ap:L9 (Az×Obj)}{Z:St}{H:Hp}{s:S9}
mutual
theorem DatV.reads(I:Inv X ap Z H s):∀ {x:V} {d:D4} {u:V9},DatV X.K H x d->d.canLay0=true->aV x u->∃ as,Reads s.heap u d as
 | _,_,_,.non,_,r=>by cases r;exact⟨_,.none⟩
 | _,_,_,.bl b,_,r=>by cases r;exact⟨_,.bool b⟩
 | _,_,_,.int i,_,r=>by obtain⟨t,rfl⟩:=r;exact⟨_,.int i t⟩
 | _,_,_,.str x,_,r=>by obtain⟨t,rfl⟩:=r;exact⟨_,.str x t⟩
 | _,_,_,.pl _,y,_=>by cases y
 | _,_,_,.lst h ds,y,r=>by
  cases r
  obtain⟨a,f,⟨o,e,c,n,d⟩,g⟩:∃ a:L9 V9,a8 _ a/\s.heap.IsList _ a.toArray/\_:=by
   obtain⟨a,f,p,g⟩:=I.list h
   exact⟨a,f,p.isList,g⟩
  obtain⟨as,q⟩:=DatVs.reads I ds y f
  exact⟨_,.list e c d (by simpa using q)⟩
 | _,_,_,.tup h ds,y,r=>by
  cases r
  obtain⟨a,f,p,g⟩:=I.tuple h
  obtain⟨o,e,c,n,d⟩:=p
  obtain⟨as,q⟩:=DatVs.reads I ds y f
  exact⟨_,.tuple e c d (by simpa using q)⟩
theorem DatVs.reads(I:Inv X ap Z H s):∀ {xs:L9 V} {ds:L9 D4} {us:L9 V9},DatVs X.K H xs ds->PyData.canLayAll0 ds=true->a8 xs us->∃ as,ReadsAll s.heap us ds as
 | _,_,_,.nil,_,r=>by cases r;exact⟨_,.nil⟩
 | _,_,_,.cons (d:=d0) (ds:=ds0) h t,y,r=>by
  have a:(d0.canLay0 && PyData.canLayAll0 ds0)=true:=y
  rw[BJ]at a
  cases r with
  | cons r1 r2=>
   obtain⟨as,q⟩:=DatV.reads I h a.1 r1
   obtain⟨bs,b⟩:=DatVs.reads I t a.2 r2
   exact⟨_,.cons q b⟩
end
theorem m4{d:D4}(h:shaped d=true):d.canLay0=true:=by
 have h':(d.canLay0 && decide _)=true:=h
 ext
theorem aU1(c:X.A.units+64 < cLine):OpR X (compareOp .Eq) (λx y H Q=>∃ d e,DatV X.K H x d/\DatV X.K H y e/\shaped d=true/\shaped e=true/\Q (.bl (PyData.eqv d e)) H):=by
 intro ap s Z H x y u v Q I b f h
 obtain⟨d,e,a⟩:=h
 obtain⟨g,r1⟩:=a.1.reads I (m4 a.2.2.1) b
 obtain⟨bs,r2⟩:=a.2.1.reads I (m4 a.2.2.2.1) f
 exact eq_dataH r1 r2 a.2.2.1 a.2.2.2.1 c ⟨.bl _,H,I,rfl,a.2.2.2.2⟩
theorem aU2(c:X.A.units+64 < cLine):OpR X (compareOp .NotEq) (λx y H Q=>∃ d e,DatV X.K H x d/\DatV X.K H y e/\shaped d=true/\shaped e=true/\Q (.bl (!PyData.eqv d e)) H):=by
 intro ap s Z H x y u v Q I b f h
 obtain⟨d,e,a⟩:=h
 obtain⟨g,r1⟩:=a.1.reads I (m4 a.2.2.1) b
 obtain⟨bs,r2⟩:=a.2.1.reads I (m4 a.2.2.2.1) f
 exact ne_dataH r1 r2 a.2.2.1 a.2.2.2.1 c ⟨.bl _,H,I,rfl,a.2.2.2.2⟩
end
theorem SqL.same{K:Frag}{H H':Hp}{a:Az}{xs:L9 V}(e:aD H H')(h:SqL K H a xs):SqL K H' a xs:=aD.seq e h
theorem SqT.same{K:Frag}{H H':Hp}{a:Az}{xs:L9 V}(e:aD H H')(h:SqT K H a xs):SqT K H' a xs:=by
 rcases h with (h|⟨o,h⟩)|h
 · exact .inl (.inl (e _ _ h))
 · exact .inl (.inr ⟨o, e _ _ h⟩)
 · exact .inr h
theorem DatV.same{K:Frag}{H H':Hp}(e:aD H H'){x:V}{d:D4}(h:DatV K H x d):DatV K H' x d:=
 DatV.rec (motive_1:=λx d _=>DatV K H' x d) (motive_2:=λxs ds _=>DatVs K H' xs ds) .non .bl .int .str (λh _ q=>.lst (h.same e) q) (λh _ q=>.tup (h.same e) q) (λh=>.pl (e _ _ h)) .nil (λ_ _ p q=>.cons p q) h
theorem DatVs.same{K:Frag}{H H':Hp}(e:aD H H'){xs:L9 V}{ds:L9 D4}(h:DatVs K H xs ds):DatVs K H' xs ds:=
 DatVs.rec (motive_1:=λx d _=>DatV K H' x d) (motive_2:=λxs ds _=>DatVs K H' xs ds) .non .bl .int .str (λh _ q=>.lst (h.same e) q) (λh _ q=>.tup (h.same e) q) (λh=>.pl (e _ _ h)) .nil (λ_ _ p q=>.cons p q) h
theorem aD.upd{H:Hp}{a:Az}{o:HO}(h:H a=none):aD H (upd H a o):=λb u e=>by rw[aG (a9 e h)];ext
theorem DatVs.length{K:Frag}{H:Hp}:∀ {xs:L9 V} {ds:L9 D4},DatVs K H xs ds->xs.length=ds.length
 | _,_,.nil=>rfl
 | _,_,.cons _ t=>by simp[DatVs.length t]
theorem DatVs.append{K:Frag}{H:Hp}:∀ {xs ys:L9 V} {ds es:L9 D4},DatVs K H xs ds->DatVs K H ys es->DatVs K H (xs++ys) (ds++es)
 | _,_,_,_,.nil,h=>h
 | _,_,_,_,.cons a t,h=>.cons a (DatVs.append t h)
theorem DatVs.get{K:Frag}{H:Hp}:∀ {xs:L9 V} {ds:L9 D4} {i:Nat} {x:V},DatVs K H xs ds->xs[i]? = some x->∃ d,ds[i]? = some d/\DatV K H x d
 | _,_,_,_,.nil,e=>by simp_all
 | _,_,0,_,.cons a t,e=>by simp_all
 | _,_,i+1,x,.cons a t,e=>by
  have d:=DatVs.get t (by assumption)
  simp_all
theorem DatVs.get'{K:Frag}{H:Hp}:∀ {xs:L9 V} {ds:L9 D4} {i:Nat} {d:D4},DatVs K H xs ds->ds[i]? = some d->∃ x,xs[i]? = some x/\DatV K H x d
 | _,_,_,_,.nil,e=>by simp_all
 | _,_,0,_,.cons a t,e=>by simp_all
 | _,_,i+1,x,.cons a t,e=>by
  have d:=DatVs.get' t (by assumption)
  simp_all
theorem DatVs.drop{K:Frag}{H:Hp}:∀ {xs:L9 V} {ds:L9 D4} (n:Nat),DatVs K H xs ds->DatVs K H (xs.drop n) (ds.drop n)
 | _,_,0,h=>h
 | _,_,_+1,.nil=>.nil
 | _,_,n+1,.cons _ t=>DatVs.drop n t
theorem DatVs.take{K:Frag}{H:Hp}:∀ {xs:L9 V} {ds:L9 D4} (n:Nat),DatVs K H xs ds->DatVs K H (xs.take n) (ds.take n)
 | _,_,0,_=>.nil
 | _,_,_+1,.nil=>.nil
 | _,_,n+1,.cons a t=>.cons a (DatVs.take n t)
end _a
variable{outer:L9 Env}{l:L9 (Int×Int)}
namespace _d
open PySem.W
section
variable{prog:P9}{w:W9}{A:U9}{E:V9->S9->Prop}{h:Hz}{g:Array GenState}{d:Drawn}{t:Nat}{os:OsState}{K:Frag}
variable{nm q:Str}{C N:Az}{bs bm bmB:L9 V9}{hdct:Bool}{sn:L9 Str}{sub:L9 V9}{ab:Bool}{col:O9 Bool}{dd:O9 Az}{k0 k1 k2 k3 k5:O9 V9}{B newId initId:String}
end
end _d
variable{o:O9 Obj}
namespace _d
open PySem.W PySem.Builtin PySem.Builtin.ObjectAttr
abbrev aHS:L9 V9:=[.type "ValueError",.type "Exception",.type "BaseException",.type "object"]
structure ExcC(K:Frag)(W C:Az):Prop where
 lk:∃ nm q N bs sn sub ab col dd k0 k1 k2 k3 k5,K.lookup C=some (excClassObj nm q C N bs (.ref W::aHS) true sn sub ab col dd k0 k1 k2 k3 k5 "ValueError.__new__")
 sa:findIn K (.ref C) "__setattr__"=some (some (.builtin "object.__setattr__"))
 ga:findIn K (.ref C) "__getattribute__"=some (some (.builtin "BaseException.__getattribute__"))
 gh:findIn K (.ref C) "__getattr__"=some none
 cl:findIn K (.ref C) "__class__"=some (some (.builtin "object.__class__"))
 clg:specialIn K (.builtin "object.__class__") "__get__"=some (some (.builtin "getset_descriptor.__get__"))
 clt:takesIn K (.builtin "object.__class__")=some true
 kp:keepIn K (.ref C)=true
theorem ExcC.cls{W:Az}(c:ExcC K W C):∃ cd:ClassData,clsIn K C=some cd/\cd.hasDict=true/\cd.mro=.ref C::.ref W::aHS:=by
 obtain⟨nm,q,N,bs,sn,sub,ab,col,dd,k0,k1,k2,k3,k5,e⟩:=c.lk
 exact⟨_,by unfold clsIn;rw[e],rfl,rfl⟩
theorem ExcC.mro{W:Az}(c:ExcC K W C)(b:V9):mroIn K C b=some ((Value.ref C::.ref W::aHS).contains b):=by
 obtain⟨cd,h1⟩:=c.cls
 unfold mroIn
 ext
section
variable{prog:P9}{w:W9}{A:U9}{E:V9->S9->Prop}{s:S9}{K:Frag}{W C x:Az}{name:Str}{v:V9}{vs:Array V9}
theorem aJX{Q:O9 V9->S9->Prop}(X:K.In s.heap)(c:ExcC K W C)(I:InstAt s.heap x ⟨.ref C,od,.fields vs,#[]⟩ C o)(h:Q (some (.ref C)) {s with toks:=s.toks+1}) :
  wpAny (model prog w) A (getAttr? (.ref x) "__class__") Q E s:=by
 obtain⟨f,g,d,t,os⟩:=s
 obtain⟨cd,a⟩:=c.cls
 have b:=I.type (M:=model prog w)
 have e:findObj K C o "__class__"=some (.bind (.builtin "getset_descriptor.__get__") (.builtin "object.__class__")):=by
  unfold findObj
  rw[a.1,c.cl]
  rfl
 refine AA (wpAny_mkText ?_)
 refine AA (GX ?_)
 refine CL (AA (b.at (AA ((looks_findIn (M:=model prog w) X c.ga).at ?_))))
 refine AA ?_
 refine(looks_findIn (M:=model prog w) X c.gh).at (AA (GX (CL ?_)))
 unfold callGetattribute
 rw[show(false && onTheHeap (Value.builtin "BaseException.__getattribute__"))=false from rfl,AL EB]
 unfold boundAndCalled
 rw[FG.ga.bind]
 refine AA (AH ?_)
 refine FS (codeAny_call_builtin FG.ga.plain PySem.F.entry_bexc_ga (@check_slot (model prog w) _ _ _ "BaseException.__getattribute__" "BaseException" "__getattribute__" (.ref x) [.str "__class__" t] [] _ (by decide +kernel) (by decide +kernel) (b.andThen (looks_mroIn X (by rw[c.mro];rfl))) (PySem.F.args_bexc_ga (.ref x) (.str "__class__" t)) ?_))
 refine AA (AH (AA (AH ?_)))
 refine AA (b.at (AA ((looks_find (M:=model prog w) X I e).at ?_)))
 show wpAny _ _ (holding [.builtin "object.__class__"] (call (.builtin "getset_descriptor.__get__") [.builtin "object.__class__",.ref x,.ref C]) >>= ret) _ _ _
 refine AA (CL (FS (class_get (s:=⟨f,g,d,t+1,os⟩) X I (by rw[c.mro];simp[aHS]) ?_)))
 refine AH ?_
 show wpAny _ _ (handedOut (.ref C)) _ _ _
 exact AH (AH h)
theorem aM3(c:ExcC K W C):KitX K (.ref x) (.ref C) (λh=>InstAt h x ⟨.ref C,od,.fields vs,#[]⟩ C o) where
 ty:=λ_ _ _ I=>I.type
 it:=λ_ _ X _=>by
  obtain⟨nm,q,N,bs,sn,sub,ab,col,dd,k0,k1,k2,k3,k5,e⟩:=c.lk
  intro i j g s' k q
  unfold isType loadHead
  exact AA (wpAny_loadPart (k _ _ (X _ _ e)) (AH q))
 ne:=λh f dd b n sl X a=>by
  obtain⟨nm,q,N,bs,sn,sub,ab,col,dd,k0,k1,k2,k3,k5,e⟩:=c.lk
  refine FN.mpr λq=>?_
  have d:C=f:=Value.ref.inj (beq_iff_eq.mp q)
  subst d
  have z:=(X _ _ e).symm.trans a
  ext
 ca:=λX I k=>aJX X c I k
theorem xS{o:O9 Obj}{a:V9}{b:Bool}(X:K.In s.heap)(c:ExcC K W C)(I:InstAt s.heap x ⟨.ref C,od,.fields vs,#[]⟩ C o)(e:kitOne K (.ref C) a=some b)(h:∀ tk,Q (.bool b) {s with toks:=tk}) :
 wpAny (model prog w) A (call (.builtin "isinstance") [.ref x,a]) Q E s:=kia_one (aM3 c) X I e (λz=>nomatch z) h
end
end _d
variable{o:Obj}{Q:Unit->S9->Prop}{fr:O9 Az}
namespace _d
open PySem.W
def v9(h:Hz)(vs:Array V9)(e:Az)(T:O9 Az):Prop:=
 match T with
 | none=>vs[1]? = some .none
 | some t=>vs[1]? = some (.ref t)/\t≠e/\∃ oT ts x,h.get? t=some oT/\oT.data=.fields ts/\ts[3]? = some x
section
variable{M:Model}{A:U9}{E:V9->S9->Prop}{s:S9}
structure Noted(FL:List Az)(e:Az)(T:Option Az)(C:Az)(od:Option Az)(h h':Heap)(T':Option Az):Prop where
 keep:∀ b o,b∉FL->b≠e->(∀ t,T=some t->b≠t)->h.get? b=some o->h'.get? b=some o
 slot:∀ b o,b∈FL->h.get? b=some o->∃ sl,h'.get? b=some {o with slots:=sl}
 exc:∃ vs,h'.get? e=some ⟨.ref C,od,.fields vs,#[]⟩/\v9 h' vs e T'
 new:(∃ t,T'=some t/\h.objs.size<=t)\/(T'=T/\T≠none)
 there:∀ t o,T=some t->h.get? t=some o->∃ o',h'.get? t=some o'
theorem aM4{base:Hz}{L e:Az}{T:O9 Az}
  (K:A.frames=some (env::outer)) (S:s.heap.FunFrames base (env::outer)) (U:env.frame=some L) (G:s.heap.get? e=some ⟨.ref C,od,.fields vs,#[]⟩) (N:v9 s.heap vs e T)
  (h:∀ h' T',T'≠none->Noted ((env::outer).filterMap (·.frame)) e T C od s.heap h' T'->Q () {s with heap:=h'}) :
  wpAny M A (noteFrame (.ref e) env) Q E s:=by
 have X:∀ b∈(env::outer).filterMap _,∃ o,s.heap.get? b=some o/\∀ vs,o.data≠.fields vs:=λb i=>(S.mem i).2
 have F:e∉(env::outer).filterMap (·.frame):=λhm=>by
  ext
 have w:1 < vs.size:=by
  unfold v9 at N
  ext
 have make:∀ u f g,u.FunFrames base (env::outer)->u.objs.size=s.heap.objs.size->u.get? e=some ⟨.ref C,od,.fields vs,#[]⟩->
   (∀ b o,(∀ t,T=some t->b≠t)->s.heap.get? b=some o->u.get? b=some o)->(∀ t o,T=some t->s.heap.get? t=some o->∃ o',u.get? t=some o'/\t∉(env::outer).filterMap (·.frame)/\t≠e)->
   wpAny M A (do let a <-frameOf env;let m <-entryPlaceOf L g;let b <-EntryCells.newEntry f a .none (rawInt L) .none m;setField (.ref e) 1 b) Q E {s with heap:=u}:=by
  intro u f g J P R V tp
  refine AA (wpAny_frameOf_fun K J U λc d=>?_)
  refine AA (wpAny_entryPlaceOf λm D=>?_)
  refine AA (EH ?_ (D.sizeOk5 _ _ _ _ _))
  have j:=(d.2.1 e F).trans R
  have k:=AB {cls:=.type "traceback",dict:=none,data:=.fields ([f,.ref L,.none,rawInt L,.none]++(if m.isEmpty then replicate 6 Value.none else m)).toArray} j
  refine EE k rfl w ?_
  have r:=(CP (c.push {cls:=.type "traceback",dict:=none,data:=.fields ([f,.ref L,.none,rawInt L,.none]++(if m.isEmpty then replicate 6 Value.none else m)).toArray})
   (Obj.mapFields (·.setIfInBounds 1 (Value.ref c.objs.size))) (BQ (CJ (AQ j)))).trans (AY c rfl)
  have n:∀ b o,b≠e->c.get? b=some o->
    ((c.push {cls:=.type "traceback",dict:=none,data:=.fields ([f,.ref L,.none,rawInt L,.none]++(if m.isEmpty then replicate 6 Value.none else m)).toArray}).update e (Obj.mapFields (·.setIfInBounds 1 (Value.ref c.objs.size)))).get? b=some o:=
   λb o v i=>by
    rw[CP _ _ (BQ v)]
    exact AB _ i
  refine h _ (some c.objs.size) (by simp) ⟨λb o i v p q=>?_,λb o i q=>?_,⟨vs.setIfInBounds 1 (.ref c.objs.size),?_,?_⟩,.inl ⟨_,rfl,by rw[d.1,P];exact AM _⟩,λt o e1 e2=>?_⟩
  .exact n b o v ((d.2.1 b i).trans (V b o p q))
  .have p:∀ t,T=some t->b≠t:=λt e1 z=>by
    ext
   have sl:=d.2.2 b o (V b o p q)
   ext
  .exact (CH (Obj.mapFields (·.setIfInBounds 1 (Value.ref c.objs.size))) k rfl)
  .refine ⟨by simp[w],(CJ (AQ j)),_,_,rawInt L,r,rfl,by first|(simp;done)|(rcases D with rfl|⟨_,_,_,_,_,_,_,rfl⟩<;>simp)⟩
  .obtain ⟨o',O⟩:=tp t o e1 e2
   exact⟨o',n t o' O.2.2 ((d.2.1 t O.2.1).trans O.1)⟩
 unfold noteFrame
 simp only[U]
 cases T with
 | none=>
  refine AA (BY G rfl N ?_)
  simp_all
 | some t=>
  obtain⟨y,B,oT,ts,x,H,l,I⟩:=N
  have Y:t∉(env::outer).filterMap (·.frame):=λhm=>by
   ext
  refine AA (BY G rfl y ?_)
  rw[AJ (show(Value.ref t != Value.none)=true from by simp)]
  refine AA (BY H l I ?_)
  by_cases W:(x == rawInt L)=true
  .rw[AJ W]
   refine AH (h s.heap (some t) (by simp) ⟨λb o _ _ _ q=>q,λb o _ q=>⟨o.slots,q⟩,⟨vs,G,y,B,oT,ts,x,H,l,I⟩,.inr ⟨rfl,by simp⟩,λt' o e1 q=>⟨o,q⟩⟩)
  .rw[AL W]
   refine AA (EE H l (DW.mp I).1 ?_)
   have aa:=CH (Obj.mapFields (·.setIfInBounds 3 Value.none)) H (ER (DK l _))
   refine make (s.heap.update t (Obj.mapFields (·.setIfInBounds 3 Value.none))) _ _ (S.of_keeps λb o i Z=>⟨o,((λb i=>CP _ _ (BQ i)) b λq=>?_).trans i,rfl⟩) (B9 ..).1 (((λb i=>CP _ _ (BQ i)) e (BQ B)).trans G) (λb o i q=>((λb i=>CP _ _ (BQ i)) b (i t rfl)).trans q) (λt' o e1 q=>?_)
   .grind
   .grind
theorem aHT{e t:Az}(f:s.heap.get? e=some ⟨.ref C,od,.fields vs,#[]⟩)(d:v9 s.heap vs e (some t))
  (h:∀ h',Heap.SameBut t s.heap h'->v9 h' vs e (some t)->Q () {s with heap:=h'}):wpAny M A (setFlight (.ref e) fr) Q E s:=by
 obtain⟨b,c,oT,g,x,a⟩:=d
 refine AA (BY f rfl b ?_)
 refine EE a.1 a.2.1 ((DW.mp a.2.2).1) (h _ (B9 ..) ⟨b,c,_,_,_,CH _ a.1 (ER (DK a.2.1 _)),DK a.2.1 _,Array.getElem?_setIfInBounds_self_of_lt ((DW.mp a.2.2).1)⟩)
end
end _d
variable{ev:V9}{tpos:Pos}
namespace _a
variable{base:Hz}{H:Hp}{ds:L9 D4}{es:L9 Ez}
def ExN(e C:Az)(od:O9 Az):HO:=.ext λh=>∃ vs,h.get? e=some ⟨.ref C,od,.fields vs,#[]⟩/\vs[1]? = some .none
def ExO(e C:Az)(od:O9 Az):HO:=.ext λh=>∃ vs,h.get? e=some ⟨.ref C,od,.fields vs,#[]⟩
section
variable{P:P9}{w:W9}{H:Hp}{h:Hz}{e C:Az}{od:O9 Az}
theorem aU3(a:h.get? e=some ⟨.ref C,od,.fields vs,#[]⟩):dF P w H h e (ExO e C od):=
 ⟨⟨vs,a⟩,⟨_,a⟩,λh1 h2 vs k=>by obtain⟨vs,a⟩:=vs;exact⟨vs,k _ a⟩⟩
theorem aJY(ok:HOk P w H h)(q:H e=some (ExO e C od)):∃ vs,h.get? e=some ⟨.ref C,od,.fields vs,#[]⟩:=(ok e _ q).1
end
structure FlyAt(X:Cx)(H:Hp)(h:Heap)(e C:Az)(od:Option Az)(traced:Bool):Prop where
 tr:H e=some (ExO e C od)
 tb:∃ vs T,h.get? e=some ⟨.ref C,od,.fields vs,#[]⟩/\_d.v9 h vs e T/\(∀ t,T=some t->H t=none/\X.s₀.heap.objs.size<=t/\∀ p∈X.pn,p.1≠t)/\(traced=true->T≠none)
def Fly(X:Cx)(E:XK)(ev:V9)(s':S9):Prop:=∃ e C od Z H',ev=.ref e/\Inv X [] Z H' s'/\FlyAt X H' s'.heap e C od false/\E (.ref C) (some e) H'
abbrev Cx.fly(X:Cx)(E:XK):Cx:=X.wish (Fly X E)
def aPM(X:Cx):Prop:=X.stack=X.env::X.outer/\X.env.frame=some X.env.locals
section
variable{X:Cx}{Z:St}{H:Hp}{s:S9}{e C:Az}{od:O9 Az}{b:Bool}
theorem wA(I:Inv X [] Z H s){t:Az}{oT:Obj}{b:Array V9}(g:s.heap.get? t=some oT)(f:oT.data=.fields b):t≠X.env.locals/\(∀ x c,X.env.cells.lookup x=some c->c≠t):=by
 refine⟨λz=>?_,λx c q z=>?_⟩
 .obtain ⟨m,⟨o,es,e,a,d,_⟩,_⟩:=I.loc
  ext
 .obtain ⟨v,o,a⟩:=I.cell x c q
  ext
theorem wC{J:V9->S9->Prop}(S:aPM X)(I:Inv X [] Z H s)(f:FlyAt X H s.heap e C od b)(h:∀ s',Inv X [] Z H s'->FlyAt X H s'.heap e C od true->Q () s') :
  wpAny (model X.prog X.w) X.A (noteFrame (.ref e) X.env) Q J s:=by
 have a:=S
 obtain⟨vs,T,L,E,V,_⟩:=f.tb
 have r:(X.env::X.outer).filterMap (·.frame)=X.env.locals::X.fs:=by rw[DX,a.2];rfl
 refine _d.aM4 (by rw[<-a.1];exact I.ok.frames) (by have:=I.stack;rw[a.1]at this;ext) a.2 L E λh' K B N=>?_
 rw[r]at N
 have trk:∀ c u,H c=some u->c∉X.env.locals::X.fs:=λc u q z=>by
  have:=I.stkFree c (by unfold frs;rw[a.1,r];ext)
  ext
 have k:HOk X.prog X.w H h':=λc u q=>by
  by_cases i:c=e
  .subst i
   rw[f.tr]at q;cases q
   obtain⟨g,d⟩:=N.exc
   exact aU3 d.1
  .refine (I.hok c u q).stay (λM v D d=>N.keep M v ?_ ?_ ?_ d) (λ_ q=>q) (λ_ _ q=>q) λ_ _ q=>q
   .grind
   .rcases D with z|z
    .grind
    .intro W;rw[W,f.tr]at z;cases z
   .grind
 have P:Inv X [] Z H {s with heap:=h',gens:=s.gens,drawn:=s.drawn,toks:=s.toks}:=by
  refine I.step (ch:=T.toList) (λc i=>?_) (λc o h1 h2 y q n=>?_) (λc o h1 h2 y q n=>N.slot c o (AU _ h2) q) (λ_ _ _ _ n=>n) (λc o y q=>?_) (λ_ _ q=>q) (λ_ _ _ q=>q) (λ_ _ q=>q) (λm R=>?_) k I.bare
  .have e1:T=some c:=by cases T<;>simp at i;rw[i]
   have Y:=V c e1
   rw[e1]at E
   obtain⟨_,_,oT,ts,x,j⟩:=E
   have a1:=wA I j.1 j.2.1
   ext
  .refine N.keep c o ?_ ?_ ?_ q
   .grind
   .intro z;rw[z,f.tr]at n;cases n
   .grind
  .by_cases i:c=e
   .subst i
    obtain⟨g,d,_⟩:=N.exc
    ext
   .by_cases G:c∈X.env.locals::X.fs
    .obtain ⟨sl,d⟩:=N.slot c o G q
     ext
    .exact ⟨o,N.keep c o G i (λt e1 z=>y (by rw[e1,z];simp)) q⟩
  .obtain ⟨o,es,U,F⟩:=R
   obtain⟨sl,d⟩:=N.slot _ o A4 F.1
   exact⟨_,es,U,d,F.2⟩
 refine h _ P ⟨f.tr,?_⟩
 obtain⟨g,d⟩:=N.exc
 refine⟨g,K,d.1,d.2,λt e1=>?_,λ_=>B⟩
 rcases N.new with ⟨t2,e2,l⟩|⟨e2,_⟩
 .rw[e1]at e2;cases e2
  refine⟨I.hok.fresh l,BB I.sz l,λp O z=>?_⟩
  have:=AQ (I.pin p (CT _ O)).1
  ext
 .grind
theorem zH{m:V9->S9->Prop}{A:U9}(I:Inv X [] Z H s)(f:FlyAt X H s.heap e C od true)(h:∀ s',Inv X [] Z H s'->FlyAt X H s'.heap e C od true->Q () s') :
  wpAny (model X.prog X.w) A (setFlight (.ref e) fr) Q m s:=by
 obtain⟨vs,T,j,i,n,r⟩:=f.tb
 cases T with
 | none=>simp_all
 | some t=>
  have c:=n t rfl
  refine _d.aHT j i λh' k g=>?_
  obtain⟨_,d,oT,u,x,a⟩:=i
  exact h _ (I.turned (t':=s.toks) (λb o l q=>(k.2 b l).trans q) c.1 (wA I a.1 a.2.1).1 (.inr c.2.1) (wA I a.1 a.2.1).2 λp v=>c.2.2 p (by simp_all)) ⟨f.tr,vs,some t,(k.2 e (BQ d)).trans j,g,λt' e1=>by cases e1;exact⟨c.1,c.2.1,c.2.2⟩,λ_=>by simp⟩
theorem aJZ{Q:V9->S9->Prop}{b:V9->S9->Prop}{A:U9}(f:FlyAt X H s.heap e C od true)(h:∀ t,Q (.ref t) s):wpAny (model X.prog X.w) A (field (.ref e) 1) Q b s:=by
 obtain⟨vs,T,a⟩:=f.tb
 cases T with
 | none=>exact absurd rfl (a.2.2.2 rfl)
 | some t=>exact BY a.1 rfl a.2.1.1 (h t)
theorem lJ{E:XK}(j:aPM X):PassesOwn (model X.prog X.w) X.A X.env (Fly X E):=by
 rintro k s' ⟨e,C,od,Z,H,rfl,I,f,q⟩
 refine wC j I f λm h g=>?_
 refine AA (aJZ g λt=>?_)
 exact zH h g λl i d=>⟨e,C,od,Z,H,rfl,i,⟨d.tr,let ⟨vs,T,a,b,c,_⟩:=d.tb;⟨vs,T,a,b,c,λz=>nomatch z⟩⟩,q⟩
end
def CXe(P:P9)(w:W9):CXT:=λouter H s E ev s'=>∃ e C od H',ev=.ref e/\s'.os=s.os/\AllBare s'.gens/\Un (frs outer) [] H H' s.heap s'.heap/\HOk P w H' s'.heap/\H' e=some (ExO e C od) /\
 (∃ vs T,s'.heap.get? e=some ⟨.ref C,od,.fields vs,#[]⟩/\_d.v9 s'.heap vs e T/\∀ t,T=some t->H' t=none/\s.heap.objs.size<=t)/\E (.ref C) (some e) H'
section
variable{X:Cx}
theorem jH{E d:XK}(h:∀ c e H,E c e H->d c e H):fU (CXe X.prog X.w) (X.fly d) E:=by
 rintro ap Z H s i s' I ⟨e,C,od,H',rfl,os,bare,un,hok,he,⟨vs,T,q1,q2,q3⟩,q⟩
 refine⟨e,C,od,Z,H',rfl,((I.unwish.pins_of λp a=>absurd a (by simp)).call' os un hok bare (λb g=>absurd g (by simp))),⟨he,vs,T,q1,q2,λt e1=>?_,λz=>nomatch z⟩,h _ _ _ q⟩
 have f:=q3 t e1
 refine⟨f.1,BB I.unwish.sz f.2,λp a z=>?_⟩
 have:=AQ (I.unwish.pin p (CT _ a)).1
 ext
theorem PSs.unfly{E:XK}{st:L9 Stmt}{t:TS}(h:PSs (X.fly E) st t)(hx:∀ e s',Fly X E e s'->X.xe e s'):PSs X st t:=λap s Z H D I a=>
 BW (h ap s Z H D (I.wish _) a) (λf s' q=>SP.unwish q) hx
end
theorem aA4{w:W9}{A:U9}{E:XK}
  (h:Fly (fO (CXe P w) P w K mg base N qual scope f cd A outer s H E) E ev s'):(fO (CXe P w) P w K mg base N qual scope f cd A outer s H E).xe ev s':=by
 obtain⟨e,C,od,Z,H',rfl,I⟩:=h
 refine AA (wC (⟨rfl,rfl⟩) I.1 I.2.1 λj d g=>zH d g λi b c=>?_)
 obtain⟨vs,T,a⟩:=c.tb
 exact⟨e,C,od,H',rfl,b.os,b.bare,b.base,b.hok,c.tr,⟨vs,T,a.1,a.2.1,λt e1=>⟨(a.2.2.1 t e1).1,(a.2.2.1 t e1).2.1⟩⟩,I.2.2⟩
section
variable{P:P9}{w:W9}{K:Frag}{mg:Str->O9 V9}{base:Hz}
theorem Fun.okX{fd:FuncData}{sp:Sp}(F:Fun K x qual st f fd)(S:FnScope N ps (aF st))(len:∀ vs H Q E,sp vs H Q E->vs.length=ps.length)
  (a:∀ (cdv:V9) (A:U9) (outer:L9 Env) (s:S9) (H:Hp) (vs:L9 V) (Q:VK) (E:XK),Room k (A.deeper (envOfC qual (aF st) s.heap.objs.size f cdv))->sp vs H Q E->
   ∃ t,PSs ((fO (CXe P w) P w K mg base N qual (aF st) f cdv A outer s H E).fly E) (bB st) t/\t {nx:=λ_ H'=>Q .non H',rt:=Q} (start N vs) H):FnOk P w K mg base (CXe P w) (k+1) f fd ps sp:=by
 obtain⟨g,od,kV,doc,pm,e,cdv,ct,d,rfl,c⟩:=F.ex
 refine aHM c.1 c.2 S len λA outer s H vs Q E hr b=>?_
 obtain⟨t,h⟩:=a cdv A outer s H vs Q E hr b
 exact⟨t,h.1.unfly λ_ _ z=>aA4 z,h.2⟩
end
inductive TyX(K:Frag)(H:Hp):V->V9->Prop where
 | pl {x:V} {t:V9} (h:TyOf K H x t):TyX K H x t
 | exc {a W C:Az} {d:Az} {fs:List (Str×V)} (c:_d.ExcC K W C) (e:H a=some (ExO a C (some d))) (ed:H d=some (.xd fs)):TyX K H (.ref a) (.ref C)
 | exc0 {a W C:Az} (c:_d.ExcC K W C) (e:H a=some (ExO a C none)):TyX K H (.ref a) (.ref C)
def aHU:V->O9 V9
 | .ty n=>some (.type n)
 | .ref a=>some (.ref a)
 | _=>none
theorem zI{x:V}(h:aHU x=some v)(r:aV x u):u=v:=by
 cases x with
 | ty n=>cases h;exact r
 | ref a=>cases h;exact r
 | _=>cases h
theorem lY{X:Cx}:jY X (.builtin "isinstance") (λxs H Q=>∃ x c t cv b,xs=[x,c]/\TyX X.K H x t/\aHU c=some cv/\kitOne X.K t cv=some b/\Q (.bl b) H):=by
 intro ap s Z H xs us Q I r h
 obtain⟨x,c,t,cv,b,rfl,k,n,e,q⟩:=h
 obtain⟨u,v,rfl,i,m⟩:=xL r
 obtain rfl:=zI n m
 cases k with
 | pl k=>exact aJR I i k e λl=>⟨.bl b,H,I.tok _,rfl,q⟩
 | @exc a W C d fs cc ea ed=>
  cases((i))
  obtain⟨vs,j⟩:=aJY I.hok ea
  obtain⟨mA,f⟩:=((I.hok d _ ed))
  obtain⟨od,g⟩:=aAZ f.1
  exact _d.xS (o:=some od) I.kIn cc ⟨j,rfl,rfl,g.1⟩ e λl=>⟨.bl b,H,I.tok _,rfl,q⟩
 | @exc0 a W C cc ea=>
  cases((i))
  obtain⟨vs,j⟩:=aJY I.hok ea
  exact _d.xS (o:=none) I.kIn cc ⟨j,rfl,rfl,True.intro⟩ e λl=>⟨.bl b,H,I.tok _,rfl,q⟩
structure DefAt(K:Frag)(mg:Str->Option V9)(x:Str)(st:Stmt)(ps:List Str):Prop where
 ex:∃ f fd,Fun K x x st f fd/\cO K fd ps []/\mg x=some (.ref f)
def Calls(P:P9)(w:W9)(K:Frag)(mg:Str->O9 V9)(base:Hz)(CX:CXT)(k:Nat)(x:Str)(ps:L9 Str)(sp:Sp):Prop:=
 ∃ f fd,FnOk P w K mg base CX k f fd ps sp/\cO K fd ps []/\mg x=some (.ref f)/\keepIn K (.ref f)=true
section
variable{P:P9}{w:W9}{K:Frag}{mg:Str->O9 V9}{base:Hz}{x:Str}{st:Stmt}{N ps:L9 Str}{k:Nat}{sp:Sp}
theorem DefAt.ok(D:DefAt K mg x st ps)(S:FnScope N ps (aF st))(len:∀ vs H Q E,sp vs H Q E->vs.length=ps.length)
  (a:∀ (f:Az) (cdv:V9) (A:U9) (outer:L9 Env) (s:S9) (H:Hp) (vs:L9 V) (Q:VK) (E:XK),Room k (A.deeper (envOfC x (aF st) s.heap.objs.size f cdv))->sp vs H Q E->
   ∃ t,PSs (fO CX0 P w K mg base N x (aF st) f cdv A outer s H E).nox (bB st) t/\t {nx:=λ_ H'=>Q .non H',rt:=Q} (start N vs) H):Calls P w K mg base CX0 (k+1) x ps sp:=by
 obtain⟨f,fd,F⟩:=D.ex
 exact⟨f,fd,F.1.ok S len (a f),F.2.1,F.2.2,F.1.kp⟩
theorem DefAt.okX(D:DefAt K mg x st ps)(S:FnScope N ps (aF st))(len:∀ vs H Q E,sp vs H Q E->vs.length=ps.length)
  (a:∀ (f:Az) (cdv:V9) (A:U9) (outer:L9 Env) (s:S9) (H:Hp) (vs:L9 V) (Q:VK) (E:XK),Room k (A.deeper (envOfC x (aF st) s.heap.objs.size f cdv))->sp vs H Q E->
   ∃ t,PSs ((fO (CXe P w) P w K mg base N x (aF st) f cdv A outer s H E).fly E) (bB st) t/\t {nx:=λ_ H'=>Q .non H',rt:=Q} (start N vs) H):Calls P w K mg base (CXe P w) (k+1) x ps sp:=by
 obtain⟨f,fd,F⟩:=D.ex
 exact⟨f,fd,F.1.okX S len (a f),F.2.1,F.2.2,F.1.kp⟩
end
section
variable{X:Cx}{CX:CXT}{k:Nat}{x:Str}{ps:L9 Str}{sp:Sp}{E:XK}{p pos:Pos}{e:Ez}{es:L9 Ez}{t:TA}
theorem qG(C:Calls X.prog X.w X.K X.mg X.base CX k x ps sp)(hr:Room k X.A)(b:Gl X x)(hx:fU CX X E)(c:PA X (e::es) t)(a:autoParam ((x == ("__debug__":Str))=false) z5)
  (he:autoParam (starEach (e::es) X.env=(false,eval e X.env)::starEach es X.env) z3) (hpl:autoParam ((backTo pos (starEach es X.env)).any (·.1)=false) z3):PE X (.Call (.Name x p) (e::es) [] pos) (aHL sp [] E t):=by
 obtain⟨f,fd,F⟩:=C
 exact aQL F.1 hr b F.2.2.1 F.2.2.2 F.2.1 .nil hx c a he hpl
end
theorem DatV.tup_of{v:V}(h:DatV K H v (.tuple ds)):∃ a xs,v=.ref a/\SqT K H a xs/\DatVs K H xs ds:=by
 cases h with
 | tup h1 h2=>exact⟨_,_,rfl,h1,h2⟩
theorem DatV.lst_of{v:V}(h:DatV K H v (.list ds)):∃ a xs,v=.ref a/\SqL K H a xs/\DatVs K H xs ds:=by
 cases h with
 | lst h1 h2=>exact⟨_,_,rfl,h1,h2⟩
theorem DatV.int_of{v:V}(h:DatV K H v (.int i)):v=.int i:=by cases h;rfl
theorem DatV.str_of{v:V}{i:Str}(h:DatV K H v (.str i)):v=.str i:=by cases h;rfl
theorem DatVs.cons_of{xs:L9 V}{d:D4}(h:DatVs K H xs (d::ds)):∃ x t,xs=x::t/\DatV K H x d/\DatVs K H t ds:=by
 cases h with
 | cons h1 h2=>exact⟨_,_,rfl,h1,h2⟩
theorem DatVs.nil_of{xs:L9 V}(h:DatVs K H xs []):xs=[]:=by cases h;rfl
theorem eQ.nil:eQ [] []:=⟨rfl,λ_ _ h=>by ext⟩
theorem eQ.nil_of{Z:St}(h:eQ [] Z):Z=[]:=GG.mp h.1
def SqS(K:Frag)(H:Hp)(a:Az)(xs:L9 V):Prop:=SqL K H a xs\/SqT K H a xs
theorem PI.or{X:Cx}{tg a:Ez}{w1 w2:TI}(h1:PI X tg a w1)(h2:PI X tg a w2):PI X tg a (λZ H R=>w1 Z H R\/w2 Z H R):=λap s Z H R I h=>h.elim (h1 ap s Z H R I) (h2 ap s Z H R I)
def aZN(K:Frag)(tl:TE):TI:=λZ H R=>tl Z H λx H1=>∃ a,x=.ref a/\(((∃ xs,SqL K H1 a xs)/\R (Itl K a) H1)\/((∃ xs,SqT K H1 a xs)/\R (Itt K a) H1))
theorem aJ0{X:Cx}{tg l:Ez}{tl:TE}(n:PE X l tl):PI X tg l (aZN X.K tl):=by
 intro ap s Z H R I h
 refine thn (n ap s Z H _ I h) λv s1 g=>?_
 obtain⟨x,H1,c,r1,m⟩:=g
 obtain⟨a,e,q⟩:=m
 subst e
 cases r1
 rcases q with ⟨⟨xs,i⟩,q⟩|⟨⟨xs,i⟩,q⟩
 .obtain ⟨d,k,p,j⟩:=c.list i
  refine wpAny_pyIter_list p.isList ?_
  refine⟨s1.heap.objs.size,[s1.heap.objs.size],_,_,H1,rfl,c.kept λb o e=>AB _ e,aJM a _,⟨_,AY _ rfl,rfl,rfl⟩,λb f=>?_,q⟩
  obtain rfl:=AZ.mp f
  exact c.fpOk (AM _) (c.hok.fresh (AM _))
 .obtain ⟨d,k,p,j⟩:=c.tuple i
  refine wpAny_pyIter_tuple ((p)) ?_
  refine⟨s1.heap.objs.size,[s1.heap.objs.size],_,_,H1,rfl,c.kept λb o e=>AB _ e,aHC a _,⟨_,AY _ rfl,rfl,rfl⟩,λb f=>?_,q⟩
  obtain rfl:=AZ.mp f
  exact c.fpOk (AM _) (c.hok.fresh (AM _))
def aX5(i j:Int):Prop:=0 < j/\j < 2 ^ 64
theorem aM5{X:Cx}:OpR X (binaryOp .FloorDiv) (rI aX5 λi j=>.int (i / j)):=opI λi j _ _ _ _ _ a q=>by
 have h1:=a.1
 have h2:=a.2
 have b:j.natAbs < 2 ^ 64:=by ext
 have c:=(Nat.log2_lt (by ext)).mpr b
 exact floordiv_int (by ext) (by rw[Int.fdiv_eq_ediv_of_nonneg i (by ext)];ext) (.inl (PyProof.noPylong_of_log2 (by ext)))
theorem aPN{X:Cx}{w:W9}:fU (CXe P w) X E0:=by
 rintro ap Z H s a s' I ⟨e,C,od,H',rfl,os,bare,un,hok,he,hv,q⟩
 ext
section
variable{X:Cx}
def aZO:V->O9 Int->O9 Int->Hp->VK->Prop:=λx lo hi H Q=>∃ z,x=.str z/\z.length<=sizeLine/\Q (.str (Txt.slice z lo hi)) H
theorem zJ{o:O9 Int}(h:IsPart v o):∃ l:O9 (Int×Tok),partValue l=v/\l.map (·.1)=o:=by
 cases h with
 | none=>exact⟨none,rfl,rfl⟩
 | int i t=>exact⟨some (i,t),rfl,rfl⟩
theorem aJ1:SlR X aZO:=by
 intro ap s Z H x v k m lo hi sl Q I d e j c h
 obtain⟨z,rfl,i,q⟩:=h
 obtain⟨t,rfl⟩:=d
 obtain⟨l,rfl,g⟩:=zJ j
 obtain⟨u,rfl,f⟩:=zJ c
 obtain⟨o,a⟩:=e
 refine⟨"str",_,E2.lookup,rfl,?_⟩
 refine GH (st:=none) ⟨o,a.1,a.2.1,a.2.2⟩ rfl ?_
 have le:=Txt.slice_le z lo hi
 unfold Txt.slice at q le
 unfold sliceMade slicePicked
 rw[g,f]
 simp only[DT,FH,Option.map_none,Option.getD_none]at q le ⊢
 by_cases b:((Builtin.Str.strSliceIndices lo hi 1 z.length).length == z.length)=true
 .rw[AJ b]at q ⊢
  exact⟨.str z,H,I,⟨t,rfl⟩,q⟩
 .rw[AL b]at q le ⊢
  exact⟨BB le i,.str _,H,I.tok _,⟨_,rfl⟩,q⟩
def aJ2:V->L9 V->Hp->VK->Prop:=λx vs H Q=>∃ z y i rest,x=.str z/\vs=[.str y]/\Builtin.Str.occurrences z y 0 z.length 1=i::rest/\Q (.int i) H
theorem aM6:MtR X "str.index" aJ2:=by
 intro ap s Z H x vs v us Q I b c h
 obtain⟨z,y,i,rest,rfl,rfl,a⟩:=h
 obtain⟨t,rfl⟩:=b
 obtain⟨u,rfl,d,rfl⟩:=c.one
 exact call_gives F.slot_str_index rfl F.entry_str_index (F.args_str_index_2 _ _) (gives_str_index z y t d i rest a.1) ⟨.int i,H,I.tok _,⟨_,rfl⟩,a.2⟩
def Ity(z:Str):It:=
 ⟨λi _=>i < z.cps.size,λi H x H'=>∃ p c,H p=none/\x=.ref p/\H'=upd H p (.tup [.int i,.str ⟨#[c]⟩])/\z.cps[i]? = some c,λi _=>i=z.cps.size⟩
theorem aHV{w:W9}{k1}(z:Str)(t:Tok)(T:String)(hT:∀ A:U9,A.handled=none->∀ it,Draws P w A it [it] z.cps.size (λi v=>∃ c u,z.cps[i]? = some c/\v=Value.str {cps:=#[c]} u) λi h=>h.IsStrIter it T z t i)
  (e it:Az) (hei:e≠it):Turn P w K (.Tuple es k1 tpos) (Ity z) [e,it] e (λi h=>(∃ a,IsEnum h e it i a)/\h.IsStrIter it T z t i) where
 mem:=by simp
 obj:=λi h st b B=>by
  obtain⟨⟨a,s1⟩,o,e2,c,d⟩:=st
  ext
 keep:=λi h h' st k=>by
  obtain⟨⟨a,s1⟩,o,e2,c,d⟩:=st
  exact⟨⟨a,k e (by simp) _ s1⟩,o,k it (by simp) o e2,c,d⟩
 item:=by
  intro X O Q W f i ap s Z H E I D st x
  subst O Q W
  obtain⟨⟨a,s1⟩,F⟩:=st
  obtain⟨f0,f1,f2,f3,f4,f5⟩:=D e (by simp)
  obtain⟨V,L,g2,g3,g4,g5⟩:=D it (by simp)
  refine GI (hT X.A.in1 (I.ok.hd f) it) s1 F x hei (by simpa using hei) λu h' J G so si st aa kp=>?_
  obtain⟨c,tc,M,hu⟩:=G
  subst hu
  refine⟨_,rfl,FJ so λh2 se N=>?_⟩
  have C:s.heap.objs.size≠e:=CJ (AQ s1)
  have Y:h2.get? s.heap.objs.size=some {cls:=.type "tuple",data:=.seq #[.int i J,.str ⟨#[c]⟩ tc]}:=(N.2 _ C).trans st
  have S:H s.heap.objs.size=none:=I.hok.fresh (AM _)
  have g:∀ b o,b≠e->b≠it->s.heap.get? b=some o->h2.get? b=some o:=λb o h1 U q=>(N.2 b h1).trans (kp b o h1 U q)
  have p:HOk X.prog X.w H h2:=λb y q=>by
   refine(I.hok b y q).stay (λc v f q'=>g c v ?_ ?_ q') (λ_ q=>q) (λ_ _ q=>q) λ_ _ q=>q
   .grind
   .grind
  have l:HOk X.prog X.w (upd H s.heap.objs.size (.tup [.int i,.str ⟨#[c]⟩])) h2:=HOk.track p S ⟨by show 2<=sizeLine;decide,[.int i J,.str ⟨#[c]⟩ tc],.cons ⟨_,rfl⟩ (.cons ⟨_,rfl⟩ .nil),⟨_,Y,⟨rfl,rfl⟩,_,rfl⟩⟩
  have j:∀ b y,H b=some y->b≠s.heap.objs.size:=λb y q=>a9 q S
  have I2:Inv X ap Z (upd H s.heap.objs.size (.tup [.int i,.str ⟨#[c]⟩])) {s with heap:=h2,gens:=s.gens,drawn:=s.drawn,toks:=J+1}:=by
   refine I.step (ch:=[e,it]) (λb B=>?_) (λb o _ _ f q _=>g b o (λz=>f (by simp[z])) (λz=>f (by simp[z])) q) (λb o _ _ f q _=>⟨o.slots,g b o (λz=>f (by simp[z])) (λz=>f (by simp[z])) q⟩)
    (λb o _ q n=>by rw[aG (BG (AQ q))];exact n) (λb o f q=>⟨o,g b o (λz=>f (by simp[z])) (λz=>f (by simp[z])) q⟩) (λb ys q=>by rw[aG (j b _ q)];exact q) (λb o y q=>by rw[aG (j b _ q)];exact q)
    (λb ps q=>by rw[aG (j b _ q)];exact q) (λm hm=>?_) l I.bare
   .grind
   .obtain ⟨o,R,ep,ho,r⟩:=hm
    exact⟨o,R,ep,g _ o (BQ f1) (BQ L) ho,r⟩
  refine⟨.ref s.heap.objs.size,_,I2,rfl,⟨_,c,S,rfl,rfl,M⟩,⟨⟨_,by simpa using se⟩,?_⟩,λb B=>?_⟩
  .obtain ⟨o,q1,q2,q3⟩:=si
   exact⟨o,(N.2 it hei.symm).trans q1,q2,q3⟩
  .rcases AV.mp B with z|z
   .subst z;rw[aG (BQ C)];exact f0
   .obtain rfl:b=it:=by simpa using z
    obtain⟨o,q,_⟩:=F
    rw[aG (BG (AQ q))];exact V
 done:=by
  intro X O Q W f i ap s Z H E I D st x
  subst O Q W
  obtain⟨⟨a,s1⟩,F⟩:=st
  obtain⟨V,L,g2,g3,g4,g5⟩:=D it (by simp)
  have x:i=z.cps.size:=x
  subst x
  exact GS (hT X.A.in1 (I.ok.hd f) it) s1 F λh' eb=>⟨rfl,I.turned (t':=s.toks) (λb o B q=>eb b o B q) V L g3 g4 g5⟩
 self:=λ_ _ _ _ _ st h=>EI st.1.choose_spec h
def aJ3(ta:TA):TI:=λZ H R=>ta Z H λvs H1=>∃ z,vs=[.str z]/\R (Ity z) H1
theorem aM7{k1}{a:Ez}{ta:TA}{p pos:Pos}(l:Gl X "enumerate")(r:X.mg "enumerate"=none)(x:PA X [a] ta)(o:autoParam (starEach [a] X.env=[(false,eval a X.env)]) z3) :
  PI X (.Tuple es k1 tpos) (.Call (.Name "enumerate" p) [a] [] pos) (aJ3 ta):=by
 intro ap s Z H R I h
 refine Call_ (mC I l r E9 (CC (thn (x pos ap s Z H _ I h) λus s1 g=>?_) o rfl))
 obtain⟨vs,H1,f,r1,B⟩:=g
 obtain⟨z,e,q⟩:=B
 subst e
 obtain⟨u,rfl,t,rfl⟩:=qF r1
 have D:∀ A:U9,A.handled=none->∀ d,Draws X.prog X.w A d [d] z.cps.size (λi v=>∃ c u,z.cps[i]? = some c/\v=Value.str {cps:=#[c]} u) λi h=>h.IsStrIter d (strIterType z) z t i:=λA j d=>by
  unfold strIterType
  split
  · exact Draws.strAscii j d z t
  · exact Draws.strWide j d z t
 refine call_enumerate_str λh' k m C y=>?_
 refine EI k ?_
 refine⟨s1.heap.objs.size+1,[s1.heap.objs.size+1,s1.heap.objs.size],_,_,H1,rfl,(f.kept (t':=s1.toks) y),aHV z t _ D _ _ (CJ (DC _)),⟨⟨_,k⟩,m⟩,λb n=>?_,q⟩
 rcases AV.mp n with z|z
 .subst z
  exact f.fpOk (E8 _) (f.hok.fresh (E8 _))
 .obtain rfl:=by simpa using z
  exact f.fpOk (AM _) (f.hok.fresh (AM _))
end
theorem aCK{X:Cx}:jY X (.builtin "isinstance") (λxs H Q=>∃ a ys c cv b,xs=[.ref a,c]/\SqT X.K H a ys/\aHU c=some cv/\kitOne X.K (.type "tuple") cv=some b/\Q (.bl b) H):=by
 intro ap s Z H xs us Q I r h
 obtain⟨a,ys,c,cv,b,rfl,d⟩:=h
 obtain⟨u,v,rfl,f,g⟩:=xL r
 obtain rfl:=zI d.2.1 g
 cases((f))
 obtain⟨e,_,⟨o,h1,h2,_⟩,_⟩:=I.tuple d.1
 exact B1 kitx_tuple I.kIn ⟨o,h1,h2⟩ d.2.2.1 (λz=>nomatch z) λi=>⟨.bl b,H,I.tok _,rfl,d.2.2.2⟩
structure RoomH(k:Nat)(A:Around):Prop where
 dp:A.depth+3 * k+5 < recursionLimit
 un:A.units+16 * k+200 < cLine
theorem Room.h{A:U9}(r:Room k A):RoomH k A:=⟨r.dp,r.un⟩
structure FnOkH(P:Program)(w:World)(K:Frag)(mg:Str->Option V9)(base:Heap)(k:Nat)(f:Az)(fd:FuncData)(ps:List Str)(sp:Sp):Prop where
 len:∀ vs H Q E,sp vs H Q E->vs.length=ps.length
 run:∀ (A:Around) (outer:List Env) (s:S9) (H:Hp) (args:Args) (us:List V9) (vs:List V) (Q:VK),RoomH k A->Env0 P w K mg base A outer s H->BindsTo s fd args (ps.zip us)->a8 vs us->sp vs H Q E0->
  codeAny (model P w) A (.call (.ref f) args) (CR CX0 outer P w H s Q E0) s
theorem FnOkH.ok{w:W9}{fd:FuncData}{sp:Sp}(F:FnOkH P w K mg base k f fd ps sp)(c:∀ vs H Q E,sp vs H Q E->sp vs H Q E0):FnOk P w K mg base CX0 k f fd ps sp:=
 ⟨F.len,λA outer s H args us vs Q E hr e a d b=>D9 (F.run A outer s H args us vs Q hr.h e a d (c _ _ _ _ b)) λr s' h=>by
  assumption⟩
end _a
variable{e:Array (O9 V9)}{i:Nat}{fr:L9 Str}
namespace _e
inductive Tn where
 | n (i:Int)|w (x:Str)
noncomputable def Tn.d:Tn->D4
 | .n i=>.int i
 | .w x=>.str x
structure Rw where
 l:Tn
 c:List (Int×Int)
 r:Tn
def cellD(c:Int×Int):D4:=.tuple [.int c.1,.int c.2]
def aY(r:Rw):D4:=.tuple [r.l.d,.tuple (r.c.map cellD),r.r.d]
def aK(rs:L9 Rw):D4:=.tuple (rs.map aY)
inductive CellsAt(K:Frag)(H:Hp):List V->List (Int×Int)->Prop
 | nil:CellsAt K H [] []
 | cons {q:Az} {a b:Int} {xs:List V} {cs:List (Int×Int)} (h:SqS K H q [.int a,.int b]) (t:CellsAt K H xs cs):CellsAt K H (.ref q::xs) ((a,b)::cs)
def qH(K:Frag)(a:Az)(xs:L9 V):Prop:=∃ (o:Obj) (its:Array V9) (n:Nat),K.lookup a=some o/\(o.cls=.type "tuple"/\o.dict=none)/\o.data=.seq its n/\its.size<=sizeLine/\a8 xs its.toList
theorem qH.sq{xs:L9 V}(h:qH K a xs)(H:Hp):SqT K H a xs:=.inr h
theorem aQU(i:Str):(PyData.str i).eqv (.str i)=true:=by rw[PyData.eqv.eq_6];simp
noncomputable def Tn.ok:Tn->Prop
 | .n _=>True
 | .w x=>PyData.strOk x=true
def Rw.ok(r:Rw):Prop:=r.l.ok/\r.r.ok
theorem zK:∀ {xs:L9 D4},(∀ x∈xs,x.canLay0=true)->PyData.canLayAll0 xs=true
 | [],_=>by rfl
 | x::t,h=>by
  show(x.canLay0 && PyData.canLayAll0 t)=true
  rw[h x (A4 ..),zK λy a=>h y (AU _ a)];rfl
theorem sD:∀ {xs:L9 D4},(∀ x∈xs,x.depth<=n)->PyData.depthAll xs<=n
 | [],_=>B5 _
 | x::t,h=>Nat.max_le.mpr ⟨h x (A4 ..),sD λy a=>h y (AU _ a)⟩
def Sh(n:Nat)(d:D4):Prop:=d.canLay0=true/\d.depth<=n
theorem sE{xs:L9 D4}(h:∀ x∈xs,Sh n x):Sh (n+1) (.tuple xs):=⟨zK λx a=>(h x a).1,by
 have:=sD λx a=>(h x a).2
 show PyData.depthAll xs+1<=n+1
 ext⟩
theorem sh_lst{xs:L9 D4}(h:∀ x∈xs,Sh n x):Sh (n+1) (.list xs):=⟨zK λx a=>(h x a).1,by
 have:=sD λx a=>(h x a).2
 show PyData.depthAll xs+1<=n+1
 ext⟩
theorem pB(n:Nat)(i:Int):Sh n (.int i):=⟨rfl,B5 _⟩
theorem aJ4(n:Nat)(h:PyData.strOk x=true):Sh n (.str x):=⟨h,B5 _⟩
theorem aPO(n:Nat){t:Tn}(h:t.ok):Sh n t.d:=by
 cases t with
 | n i=>exact pB n i
 | w x=>exact aJ4 n h
theorem Sh.shaped{n:Nat}{d:D4}(h:Sh n d)(a:n<=64):shaped d=true:=by
 show(d.canLay0 && decide _)=true
 rw[h.1,A2 (BB h.2 a)];rfl
section
variable{K:Frag}{H:Hp}
theorem cells_of:∀ {xs:L9 V} {cs:L9 (Int×Int)},DatVs K H xs (cs.map cellD)->CellsAt K H xs cs
 | xs,[],h=>by obtain rfl:=h.nil_of;exact .nil
 | xs,c::cs,h=>by
  obtain⟨x,t,rfl,h1⟩:=h.cons_of
  obtain⟨a,ys,rfl,b⟩:=h1.1.tup_of
  obtain⟨j,t0,rfl,e,f⟩:=b.2.cons_of
  obtain⟨g,i,rfl,d⟩:=f.cons_of
  obtain rfl:=d.2.nil_of
  obtain rfl:=e.int_of
  obtain rfl:=d.1.int_of
  exact .cons (.inr b.1) (cells_of h1.2)
end
section
variable{K:Frag}{h:Hz}{mg:Str->O9 V9}
theorem qI{i:V9}{g:O9 Az}{kV d:V9}(X:K.In h)(G:h.Ns mainGlobals mg)
  (a:nsIn K mainGlobals x=some (some (.ref f))) (l:K.lookup f=some ⟨i,od,.func (fnOf x x (dC st) (bB st) (aF st) .none kV doc pm g d ct),e⟩)
  (c:codeIn K d x=true) (k:keepIn K (.ref f)=true)
  (b:∀ (kV doc pm:V9) (g:O9 Az) (d ct:V9) (us:L9 V9),us.length=ps.length->bindArgs (fnOf x x (dC st) (bB st) (aF st) .none kV doc pm g d ct) ⟨us,[]⟩=pure (ps.zip us)):DefAt K mg x st ps:=by
 exact⟨f,_,(mD l c k),(mD l c k).binds b,CF X G a⟩
theorem aU4{y:Str}{b:Nat}{sl:Array (O9 V9)}(l:K.lookup a=some ⟨.type "tuple",none,.seq #[.str x c,.str y b] n,sl⟩):qH K a [.str x,.str y]:=
 ⟨_,_,_,l,⟨rfl,rfl⟩,rfl,by show 2<=sizeLine;decide,.cons ⟨_,rfl⟩ (.cons ⟨_,rfl⟩ .nil)⟩
theorem aU5{x y:Int}{b:Nat}{sl:Array (O9 V9)}(l:K.lookup a=some ⟨.type "tuple",none,.seq #[.int x c,.int y b] n,sl⟩):qH K a [.int x,.int y]:=
 ⟨_,_,_,l,⟨rfl,rfl⟩,rfl,by show 2<=sizeLine;decide,.cons ⟨_,rfl⟩ (.cons ⟨_,rfl⟩ .nil)⟩
end
noncomputable def bD(n c:Nat):Bool:=decide (97<=c/\c < 97+n)
theorem occ_one(x:Str)(c:Nat):(Builtin.Str.occurrences x ⟨#[c]⟩ 0 x.length 1=[]/\∀ i:Nat,x.cps.toList[i]? ≠ some c)\/∃ (i:Nat) (r:L9 Nat),Builtin.Str.occurrences x ⟨#[c]⟩ 0 x.length 1=i::r/\x.cps.toList[i]? = some c/\∀ k:Nat,k < i->x.cps.toList[k]? ≠ some c:=by
 rcases StrLaws.occ_head x _ 1 (AM _)with ⟨h1,h2⟩|⟨i,r,h1,h2,a⟩
 · exact .inl ⟨h1, λi e => h2 i ((FP x c i).mpr e)⟩
 · exact .inr ⟨i, r, h1, (FP x c i).mp h2, λk b e => a k b ((FP x c k).mpr e)⟩
theorem uG(h1:1<=n)(h2:n<=3):(Txt.slice "abc" none (some (n:Int))).cps.toList=[97,98,99].take n:=by
 obtain rfl|rfl|rfl:n=1\/n=2\/n=3:=by ext
 all_goals rfl
theorem aA5(h1:1<=n)(h2:n<=3):bD n c=true↔∃ i:Nat,(([97,98,99]:L9 Nat).take n)[i]? = some c:=by
 unfold bD
 rw[decide_eq_true_iff]
 constructor
 .intro h
  refine⟨c - 97,?_⟩
  obtain rfl|rfl|rfl:n=1\/n=2\/n=3:=by ext
  .obtain rfl:c=97:=by ext
   rfl
  .obtain rfl|rfl:c=97\/c=98:=by ext
   all_goals rfl
  .obtain rfl|rfl|rfl:c=97\/c=98\/c=99:=by ext
   all_goals rfl
 .rintro ⟨i,e⟩
  have a:=CY (AG.mp e).1
  rw[(AG.mp e).2]at a
  obtain rfl|rfl|rfl:n=1\/n=2\/n=3:=by ext
  all_goals
   simp at a
   ext
theorem aM8(h1:1<=n)(h2:n<=3):(!(!(Builtin.Str.occurrences (Txt.slice "abc" none (some (n:Int))) ⟨#[c]⟩ 0 (Txt.slice "abc" none (some (n:Int))).length 1).isEmpty)) = !bD n c:=by
 rcases occ_one _ c with ⟨a,b⟩|⟨i,r,a,b,_⟩
 .rw[a]
  have:=FN.mpr λz=>by
   obtain⟨i,hi⟩:=(aA5 h1 h2).mp z
   rw[(uG h1 h2)]at b
   exact b i hi
  rw[this];rfl
 .rw[a]
  rw[(uG h1 h2)]at b
  rw[(aA5 h1 h2).mpr ⟨i,b⟩];rfl
theorem aJ5(h:bD 3 c=true):∃ r,Builtin.Str.occurrences "abc" ⟨#[c]⟩ 0 ("abc":Str).length 1=(c - 97)::r:=by
 have h:=BC h
 refine⟨[],?_⟩
 obtain rfl|rfl|rfl:c=97\/c=98\/c=99:=by ext
 all_goals decide +kernel
def nF(s q:Int):D4:=.tuple [.int s,.int q]
def aHW(f a:L9 D4):D4:=.tuple [.tuple f,.tuple a]
def aJ6(n:Nat):L9 D4:=(range n).map λi:Nat=>nF 1 (i:Int)
def aJ7(n:Nat):L9 D4:=(range n).map λi:Nat=>nF (-1) (i:Int)
def aHX(k:Nat)(rs:L9 Rw):L9 D4:=rs.map λr=>nF (r.c.getD k (0,0)).2 (r.c.getD k (0,0)).1
end _e
variable{ps:L9 (Int×Int)}
namespace _a
variable{H:Hp}{φ:Hz->Prop}
section
variable{κ:Type}[DecidableEq κ]
theorem KV.length{a:L9 (κ×V)}{vs:L9 (κ×V9)}(r:KV a vs):a.length=vs.length:=Paired.length r
end
theorem aHY{w:W9}{k:Key}(r:aV (kV k) u):(dP P w).is k u=true:=by
 cases k with
 | inl i=>obtain⟨t,e⟩:=((r));subst e;exact aEZ P w i t
 | inr x=>obtain⟨t,e⟩:=((r));subst e;exact aE0 P w x t
section
variable{X:Cx}{ap:L9 (Az×Obj)}{Z:St}{H:Hp}{s:S9}{a:Az}{y v:V}{u r:V9}{o:O9 V}{A:U9}{E:V9->S9->Prop}
theorem Inv.big(I:Inv X ap Z H s):sysModules < s.heap.objs.size:=by
 exact EV (by decide) ((I.mod.glob.keeps I.bk).lt)
theorem m6{h':Hz}{c:HO}(I:Inv X ap Z H s)(f:Mut (H a))(e:Heap.SameBut a s.heap h')(g:∃ q,h'.get? a=some q)(new:dF X.prog X.w (upd H a c) h' a c) :
  Inv X ap Z (upd H a c) {s with heap:=h',toks:=t'}:=
 I.write f (.inl rfl) (λb q d z=>(e.2 b d).trans z) g new
end
def aU6(i:Ez):Prop:=∀ ov iv,subscripted i false ov iv=operate [ov,iv] (getItem ov iv)
theorem aQV{w:W9}{A:U9}{value a:Ez}{pos:Pos}{T id:String}{Q:V9->S9->Prop}
  (j:typeLookup (.type T) "__getitem__"=pure (some (.builtin id))) (g:aU6 a)
  (h:wpAny (model prog w) A (eval value env) (λo s₁=>wpAny (model prog w) A (eval a env) (λi s₂=>s₂.TypeIs o T/\wpAny (model prog w) A (getItem o i) Q E s₂) E s₁) E s) :
  wpAny (model prog w) A (eval (.Subscript value a pos) env) Q E s:=by
 refine Subscript_ (BW h (λo s₁ d=>BW d (λi s₂ c=>?_) λ_ _ x=>x) λ_ _ x=>x)
 refine AA ?_
 refine AA (wpAny_specialOf c.1 j ?_)
 have f:wpAny (model prog w) A (subscripted a false o i) (λr b=>wpAny (model prog w) A (letTemporaryGo value o r >>= λ_=>pure r) Q E b) E s₂:=by
  rw[g o i]
  exact wpAny_operating (BW c.2 (λr b e=>AA (wpAny_letTemporaryGo (AH e))) λ_ _ x=>x)
 first
  | exact AH (AA f)
  | rfl
  | rfl
structure M1(X:Cx)(o:Expr)(m:Str)(apos:Pos)(e:Expr)(cpos:Pos):Prop where
 base:attributeBase o m X.env (eval o X.env)=eval o X.env
 few:((backTo cpos (starEach [e] X.env)).all (λx=>!x.1) && (backToKw cpos (keywordEach [] X.env)).all (λx=>x.1.isSome)
  && decide (([e]:List Expr).length+([]:List Keyword).length+(if ([]:List Keyword).isEmpty then 0 else 1) < 30))=true
 line:(apos.endLine == cpos.line)=true
 trees:backTo cpos (starEach [e] X.env)=[(false,eval e X.env)]
structure M2(X:Cx)(o:Expr)(m:Str)(apos:Pos)(e f:Expr)(cpos:Pos):Prop where
 base:attributeBase o m X.env (eval o X.env)=eval o X.env
 few:((backTo cpos (starEach [e,f] X.env)).all (λx=>!x.1) && (backToKw cpos (keywordEach [] X.env)).all (λx=>x.1.isSome)
  && decide (([e,f]:List Expr).length+([]:List Keyword).length+(if ([]:List Keyword).isEmpty then 0 else 1) < 30))=true
 line:(apos.endLine == cpos.line)=true
 trees:backTo cpos (starEach [e,f] X.env)=[(false,eval e X.env),(false,eval f X.env)]
def aCL(K:Frag)(H:Hp)(ks:L9 (L9 Key×Az)):Prop:=∀ p∈ks,SqT K H p.2 (p.1.map kV)
theorem SqT.ext{q:Az}{o:HO}{xs:L9 V}(h:SqT K H q xs)(b:H a=some (.ext φ)):SqT K (upd H a o) q xs:=by
 rcases h with (h|⟨u,h⟩)|h
 .refine .inl (.inl ?_)
  rw[aG (λz=>by ext)];ext
 .refine .inl (.inr ⟨u,?_⟩)
  rw[aG (λz=>by ext)];ext
 .exact .inr h
theorem SqL.ext{q:Az}{o:HO}{xs:L9 V}(h:SqL K H q xs)(b:H a=some (.ext φ)):SqL K (upd H a o) q xs:=by
 rcases h with (h|⟨u,h⟩)|h
 .refine .inl (.inl ?_)
  rw[aG (λz=>by ext)];ext
 .refine .inl (.inr ⟨u,?_⟩)
  rw[aG (λz=>by ext)];ext
 .exact .inr h
mutual
theorem DatV.ext{o:HO}(ha:H a=some (.ext φ)):∀ {x:V} {d:D4},DatV K H x d->DatV K (upd H a o) x d
 | _,_,.non=>.non
 | _,_,.bl b=>.bl b
 | _,_,.int i=>.int i
 | _,_,.str x=>.str x
 | _,_,.lst h ds=>.lst (h.ext ha) (DatVs.ext ha ds)
 | _,_,.tup h ds=>.tup (h.ext ha) (DatVs.ext ha ds)
 | _,_,.pl h=>.pl (by rw[aG (λz=>by rw[z,ha]at h;cases h)];exact h)
theorem DatVs.ext{o:HO}(ha:H a=some (.ext φ)):∀ {xs:L9 V} {ds:L9 D4},DatVs K H xs ds->DatVs K (upd H a o) xs ds
 | _,_,.nil=>.nil
 | _,_,.cons h t=>.cons (DatV.ext ha h) (DatVs.ext ha t)
end
theorem aCL.ext{K:Frag}{H:Hp}{a:Az}{φ:Hz->Prop}{o:HO}{b:L9 (L9 Key×Az)}(h:aCL K H b)(d:H a=some (.ext φ)):aCL K (upd H a o) b:=λp c=>SqT.ext (h p c) d
end _a
variable{st:Int×Int}{z:L9 Nat}{sg:Nat}
namespace _e
variable{rs:L9 Rw}
def Tn.good(n:Int):Tn->Prop
 | .n i=>0<=i/\i < n
 | .w x=>x="by"\/x="out"
def nG(n:Int)(c:Int×Int):Prop:=0<=c.1/\c.1 < n/\(c.2=1\/c.2 = -1)
def Rw.good(n:Int)(r:Rw):Prop:=r.l.good n/\r.r.good n/\∀ c∈r.c,nG n c
theorem Tn.good.ok{n:Int}{t:Tn}(h:t.good n):t.ok:=by
 cases t with
 | n i=>trivial
 | w x=>
  rcases h with rfl|rfl
  all_goals exact(show PyData.strOk _=true by decide +kernel)
theorem Rw.good.ok{n:Int}{r:Rw}(h:r.good n):r.ok:=⟨h.1.ok,h.2.1.ok⟩
structure Mach(rs:List Rw)(sg:Nat):Prop where
 len:1<=rs.length
 len2:rs.length<=1000
 sg1:1<=sg
 sg3:sg<=3
 row:∀ r∈rs,r.good rs.length/\r.c.length=sg
def aH(sg:Nat)(z:L9 Nat):Prop:=z.length<=1000/\∀ c∈z,bD sg c=true
noncomputable def aJ(rs:L9 Rw)(q:Int):Rw:=rs.getD q.toNat ⟨.n 0,[],.n 0⟩
noncomputable def aL(rs:L9 Rw)(z:L9 Nat)(st:Int×Int):Tn×Int:=
 if st.1=0 then((aJ rs st.2).l,1)else if st.1=(z.length:Int)+1 then((aJ rs st.2).r,-1)else
  (.n ((aJ rs st.2).c.getD (z.getD (st.1.toNat - 1) 97 - 97) (0,0)).1,((aJ rs st.2).c.getD (z.getD (st.1.toNat - 1) 97 - 97) (0,0)).2)
def bL(rs:L9 Rw)(z:L9 Nat)(st:Int×Int):O9 (Int×Int):=
 match (aL rs z st).1 with
 | .w _=>none
 | .n q=>some (st.1+(aL rs z st).2,q)
def bM(rs:L9 Rw)(z:L9 Nat)(st:Int×Int):Prop:=0<=st.1/\st.1<=(z.length:Int)+1/\0<=st.2/\st.2 < (rs.length:Int)
theorem bQ{rs:L9 Rw}{q:Int}(h0:0<=q)(h1:q < rs.length):rs[q.toNat]? = some (aJ rs q):=by
 unfold aJ
 ext
theorem uH(S:aH sg z)(V:bM rs z st)(h0:st.1≠0)(h1:st.1≠(z.length:Int)+1):∃ c,z[st.1.toNat - 1]? = some c/\bD sg c=true/\z.getD (st.1.toNat - 1) 97=c:=by
 obtain⟨a,b⟩:=V
 have d:st.1.toNat - 1 < z.length:=by ext
 refine⟨z[st.1.toNat - 1],by simp,S.2 _ (CY d),by simp_all⟩
theorem lK(M:Mach rs sg)(S:aH sg z)(V:bM rs z st)(h0:st.1≠0)(h1:st.1≠(z.length:Int)+1) :
  ∃ c,(aJ rs st.2).c[z.getD (st.1.toNat - 1) 97 - 97]? = some c/\(aJ rs st.2).c.getD (z.getD (st.1.toNat - 1) 97 - 97) (0,0)=c/\nG rs.length c:=by
 obtain⟨c,_,a,e⟩:=uH S V h0 h1
 rw[e]
 have a:=BC a
 have hr:=M.row _ (AD (bQ V.2.2.1 V.2.2.2))
 refine⟨(aJ rs st.2).c[c - 97],by simp,by rw[AK,AI (by ext)];rfl,hr.1.2.2 _ (CY (by ext))⟩
theorem kS{d:Int×Int}(M:Mach rs sg)(S:aH sg z)(V:bM rs z st)(h:bL rs z st=some d):bM rs z d:=by
 obtain⟨a,b,c⟩:=id V
 unfold bL aL at h
 by_cases f:st.1=0
 .simp only[AJ f]at h
  have g:=(M.row _ (AD (bQ V.2.2.1 V.2.2.2))).1.1
  cases e:(aJ rs st.2).l with
  | w x=>simp_all
  | n q=>
   rw[e]at h g
   cases h
   exact⟨by simp_all,by ext,g.1,g.2⟩
 .by_cases h1:st.1=z.length+1
  .simp only[AL f,AJ h1]at h
   have g:=(M.row _ (AD (bQ V.2.2.1 V.2.2.2))).1.2.1
   cases e:(aJ rs st.2).r with
   | w x=>simp_all
   | n q=>
    rw[e]at h g
    cases h
    exact⟨by ext,by ext,g.1,g.2⟩
  .obtain ⟨k,_,e⟩:=lK M S V f h1
   simp only[AL f,AL h1]at h
   rw[e.1]at h
   cases h
   obtain⟨i,j,m⟩:=e.2
   refine⟨?_,?_,i,j⟩<;>ext
theorem sG:∀ (N:Nat) (l:L9 Nat),l.Nodup->(∀ x∈l,x < N)->l.length<=N
 | 0,l,_,h=>by
  cases l with
  | nil=>simp
  | cons a t=>exact absurd (h a (by simp)) (by simp)
 | N+1,l,hn,h=>by
  have ih:=sG N _ (hn.erase N) (λx b=>by
   ext)
  ext
theorem qJ(m:l.Nodup)(g:∀ st∈l,bM rs z st):l.length<=(z.length+2) * rs.length:=by
 have j:∀ x y:Int,0<=x->0<=y->x.toNat=y.toNat->x=y:=by ext
 have lt:∀ (x:Int) (n:Nat),x < n->0<=x->x.toNat < n:=by ext
 have k:∀ (x:Int) (n:Nat),x<=n+1->x.toNat+1<=n+2:=by simp
 have h:=sG ((z.length+2) * rs.length) (l.map λst=>st.1.toNat * rs.length+st.2.toNat) ?_ ?_
 .simp_all
 .unfold Nodup
  rw[List.pairwise_map]
  refine F7 (λ{a b} ha hb hab e=>hab ?_) m
  have c:=g a ha
  have f:=g b hb
  have d:=lt _ _ c.2.2.2 c.2.2.1
  have e1:=DD (· / rs.length) e
  have e2:=DD (· % rs.length) e
  simp[Nat.mul_comm _ rs.length,Nat.mul_add_div (FA (B5 _) d),Nat.div_eq_of_lt d,Nat.div_eq_of_lt (lt _ _ f.2.2.2 f.2.2.1),Nat.mod_eq_of_lt d,Nat.mod_eq_of_lt (lt _ _ f.2.2.2 f.2.2.1)]at e1 e2
  exact Prod.ext (j _ _ c.1 f.1 e1) (j _ _ c.2.2.1 f.2.2.1 e2)
 .intro x o
  obtain⟨st,i,rfl⟩:=A1.mp o
  have c:=g st i
  have:=Nat.mul_le_mul_right rs.length (k _ _ c.2.1)
  rw[Nat.add_mul,Nat.one_mul]at this
  exact A3 (Nat.add_lt_add_left (lt _ _ c.2.2.2 c.2.2.1) _) this
noncomputable def uI(rs:L9 Rw)(z:L9 Nat):Nat->L9 (Int×Int)->Int×Int->L9 (Int×Int)
 | 0,ps,st=>ps++[st]
 | k+1,ps,st=>if st∈ps then ps++[st]else match bL rs z st with
  | none=>ps++[st]
  | some st'=>uI rs z k (ps++[st]) st'
def iP(rs:L9 Rw)(z:L9 Nat):Nat:=(z.length+2) * rs.length
def fN(rs:L9 Rw)(z:L9 Nat):L9 (Int×Int):=uI rs z (iP rs z) [] (0,0)
structure Way(rs:List Rw)(z:List Nat)(ps:List (Int×Int))(st:Int×Int)(k:Nat):Prop where
 nd:ps.Nodup
 val:∀ s∈ps++[st],bM rs z s
 num:ps.length+k=iP rs z
 res:uI rs z k ps st=fN rs z
theorem Way.start(M:Mach rs sg):Way rs z [] (0,0) (iP rs z) where
 nd:=DO
 val:=λs a=>by
  obtain rfl:s=(0,0):=by simpa using a
  have:=M.len
  exact⟨CM _,by show(0:Int)<=_;ext,CM _,by show(0:Int) < _;ext⟩
 num:=by simp
 res:=rfl
theorem Way.here(W:Way rs z ps st k):bM rs z st:=W.val st (by simp)
theorem Way.stop(W:Way rs z ps st k)(h:st∈ps):ps++[st]=fN rs z:=by
 rw[<-W.res]
 cases k with
 | zero=>rfl
 | succ k=>unfold uI;rw[AJ h]
theorem Way.more(W:Way rs z ps st k)(h:st∉ps):∃ j,k=j+1:=by
 have d:(ps++[st]).Nodup:=by
  rw[CN]
  exact⟨W.nd,by simp,λa g b f e=>by simp_all⟩
 have:=qJ d W.val
 rw[A7]at this
 have c:=W.num
 unfold iP at c
 simp only[AT,A5]at this
 exact⟨k - 1,by ext⟩
theorem Way.ends(W:Way rs z ps st k)(h:st∉ps)(e:bL rs z st=none):ps++[st]=fN rs z:=by
 obtain⟨j,rfl⟩:=W.more h
 rw[<-W.res]
 unfold uI
 simp_all
theorem Way.next{c:Int×Int}(M:Mach rs sg)(S:aH sg z)(W:Way rs z ps st (k+1))(h:st∉ps)(e:bL rs z st=some c):Way rs z (ps++[st]) c k where
 nd:=by
  rw[CN]
  exact⟨W.nd,by simp,λa g b d e=>by rw[AZ.mp d]at e;exact h (e▸g)⟩
 val:=λs f=>by
  rcases BO.mp f with q|q
  · exact W.val s q
  · rw [AZ.mp q]; exact kS M S W.here e
 num:=by rw[A7];have:=W.num;simp;ext
 res:=by
  rw[<-W.res]
  conv=>rhs;unfold uI
  rw[AL h,e]
end _e
variable{st:Stmt}
namespace _a
theorem pC:∀ {ys:L9 Str} {us:L9 V9},a8 (ys.map V.str) us->StrsAre us ys
 | [],_,.nil=>.nil
 | y::ys,_,.cons r t=>by obtain⟨t',rfl⟩:=r;exact .cons y t' (pC t)
def aPP(K:Frag):V->L9 V->Hp->VK->Prop:=λx vs H Q=>∃ (sep:Str) (a:Az) (ys:L9 Str),x=.str sep/\vs=[.ref a]/\SqL K H a (ys.map V.str)/\(ys.map λy=>y.length).sum+ys.length * sep.length<=16777216/\Q (.str (Txt.join sep ys)) H
theorem aQW{X:Cx}:MtR X "str.join" (aPP X.K):=by
 intro ap s Z H x vs v us Q I d f h
 obtain⟨g,a,ys,rfl,rfl,b⟩:=h
 obtain⟨t,rfl⟩:=d
 obtain⟨u,rfl,e⟩:=f.one
 cases((e))
 obtain⟨c,r⟩:=I.list b.1
 exact join_list r.2.1.isList (by simpa using pC r.1) b.2.1 λi k=>⟨.str _,H,I.tok _,⟨_,rfl⟩,b.2.2⟩
end _a
variable{S:Type}
namespace _e
noncomputable def one(c:Nat):Str:=⟨#[c]⟩
theorem aJ8(cs:L9 Nat):∀ (a:Array Nat),(foldl (λbx p=>bx++("":Str).cps++p.cps) a (cs.map one)).toList=a.toList++cs:=by
 induction cs with
 | nil=>simp
 | cons c t ih=>
  intro a
  rw[AW,D5,ih]
  have:("":Str).cps = #[]:=rfl
  rw[this]
  simp[one]
theorem aM9(cs:L9 Nat):(Txt.join "" (cs.map one)).cps.toList=cs:=by
 cases cs with
 | nil=>rfl
 | cons c t=>
  show(foldl _ (one c).cps (t.map one)).toList=_
  rw[aJ8];rfl
theorem aQX(cs:L9 Nat):((cs.map one).map λy=>y.length).sum=cs.length:=by
 induction cs with
 | nil=>rfl
 | cons c t ih=>rw[AW,AW,List.sum_cons,ih,AT];show 1+_=_;ext
theorem aQY{y:Str}(h:x.cps.toList=y.cps.toList):x=y:=by
 cases x;simp_all
theorem aQZ(cs:L9 Nat):Txt.join "" (cs.map one)=⟨cs.toArray⟩:=aQY (by rw[aM9])
theorem aQ0{k:Int}(h1:1<=sg)(d:sg<=3):∃ c,atI ("abc":Str).cps.toList (k % (sg:Int))=some c/\bD sg c=true:=by
 have a:=B2 k (show(sg:Int)≠0 by ext)
 have h2:=B3 k (show(0:Int) < sg by ext)
 obtain⟨j,b⟩:∃ j:Nat,k % sg=j:=⟨(k % sg).toNat,by ext⟩
 rw[b]at a h2 ⊢
 refine⟨97+j,?_,A2 (by ext)⟩
 obtain rfl|rfl|rfl:j=0\/j=1\/j=2:=by ext
 all_goals rfl
section
variable{S O:Type}
inductive Ex(st:S->Option (S⊕O)):Nat->S->O->Prop
 | out {s:S} {o:O} (h:st s=some (.inr o)):Ex st 0 s o
 | go {s s':S} {o:O} {n:Nat} (h:st s=some (.inl s')) (t:Ex st n s' o):Ex st (n+1) s o
inductive Rc(st:S->Option (S⊕O)):Nat->S->S->Prop
 | nil {s:S}:Rc st 0 s s
 | cons {s s' s'':S} {n:Nat} (h:st s=some (.inl s')) (t:Rc st n s' s''):Rc st (n+1) s s''
variable{st:S->O9 (S⊕O)}
theorem Ex.det{s:S}{o o':O}(a:Ex st n s o)(b:Ex st c s o'):n=c/\o=o':=by
 induction a generalizing c o' with
 | out h=>
  cases b with
  | out h'=>simp_all
  | go h' t=>ext
 | go h t ih=>
  cases b with
  | out h'=>ext
  | go h' t'=>
   ext
theorem Rc.ex{s s':S}{o:O}(a:Rc st k s s')(b:Ex st n s o):∃ n',n=n'+k/\Ex st n' s' o:=by
 induction a generalizing n with
 | nil=>simp_all
 | cons h t ih=>
  cases b with
  | out h'=>ext
  | go h' t'=>
   ext
theorem Rc.to{s s':S}{o:O}(a:Rc st k s s')(b:Ex st n s' o):Ex st (n+k) s o:=by
 induction a with
 | nil=>ext
 | cons h t ih=>exact .go h (ih b)
theorem Rc.snoc{s s' b:S}(a:Rc st k s s')(h:st s'=some (.inl b)):Rc st (k+1) s b:=by
 induction a with
 | nil=>exact .cons h .nil
 | cons h' t ih=>exact .cons h' (ih h)
theorem Rc.round{s:S}{o:O}(a:Rc st (m+1) s s):¬ Ex st n s o:=λb=>by
 obtain⟨c,e,q⟩:=a.ex b
 have:=(b.det q).1
 ext
def Res(st:S->O9 (S⊕O))(s:S)(r:O9 O):Prop:=∀ o,r=some o↔∃ n,Ex st n s o
theorem Res.det{s:S}{r c:O9 O}(a:Res st s r)(b:Res st s c):r=c:=by
 apply Option.ext
 intro o
 exact(a o).trans (b o).symm
theorem Res.out{s:S}{o:O}(h:st s=some (.inr o)):Res st s (some o):=λo'=>by
 constructor
 · intro e; cases e; exact⟨0, .out h⟩
 · rintro ⟨n, q⟩; rw [((Ex.out h).det q).2]
theorem Res.stuck{s:S}(h:st s=none):Res st s none:=λo'=>by
 constructor
 .simp
 .rintro ⟨n,q⟩
  cases q with
  | out h'=>simp_all
  | go h' t=>ext
theorem Res.step{s s':S}{r:O9 O}(h:st s=some (.inl s'))(a:Res st s' r):Res st s r:=λo=>by
 rw[a o]
 constructor
 .rintro ⟨n,q⟩;exact⟨n+1,.go h q⟩
 .rintro ⟨n,q⟩
  cases q with
  | out h'=>ext
  | go h' t=>ext
theorem Res.round{s:S}(a:Rc st (m+1) s s):Res st s none:=λo=>by
 constructor
 · ext
 · rintro ⟨n, q⟩; exact absurd q a.round
open Classical in
def aR(st:S->O9 (S⊕O))(s:S):O9 O:=if h:∃ o n,Ex st n s o then some h.choose else none
theorem g6(st:S->O9 (S⊕O))(s:S):Res st s (aR st s):=λo=>by
 unfold aR
 by_cases h:∃ o n,Ex st n s o
 .rw[dif_pos h]
  obtain⟨n,q⟩:=h.choose_spec
  constructor
  · ext
  · rintro ⟨n', q'⟩; rw [(q.det q').2]
 ext
theorem Res.eq{s:S}{r:O9 O}(a:Res st s r):r=aR st s:=a.det (g6 st s)
theorem vO{b:Type}{a:b->O9 (b⊕O)}{s:S}{s':b}(h:∀ o,(∃ n,Ex st n s o)↔∃ n,Ex a n s' o):aR st s=aR a s':=
 Option.ext λo=>((g6 st s) o).trans ((h o).trans ((g6 a s') o).symm)
structure Und2(st:S->Option (S⊕O))(s0:S)(ps:List S)(s:S):Prop where
 nd:ps.Nodup
 back:∀ p∈ps,∃ m,Rc st (m+1) p s
 res:∀ r,Res st s r->Res st s0 r
theorem Und2.start{a:S}:Und2 st a [] a:=⟨DO,λp b=>by simp_all,λr h=>h⟩
theorem Und2.next{c s s':S}{ps:L9 S}(U:Und2 st c ps s)(g:s∉ps)(h:st s=some (.inl s')):Und2 st c (ps++[s]) s' where
 nd:=by
  rw[CN]
  exact⟨U.nd,by simp,λa i b d e=>by rw[AZ.mp d]at e;exact g (e▸i)⟩
 back:=λp f=>by
  rcases BO.mp f with q|q
  · obtain⟨m, r⟩ := U.back p q; exact⟨m + 1, r.snoc h⟩
  · rw [AZ.mp q]; exact⟨0, .cons h .nil⟩
 res:=λr a=>U.res r (a.step h)
theorem Und2.met{a s:S}{ps:L9 S}(U:Und2 st a ps s)(h:s∈ps):aR st a=none:=by
 obtain⟨m,r⟩:=U.back s h
 exact((U.res _ (Res.round r)).eq).symm
theorem Und2.outs{a s:S}{ps:L9 S}{o:O}(U:Und2 st a ps s)(h:st s=some (.inr o)):aR st a=some o:=((U.res _ (Res.out h)).eq).symm
theorem Und2.sticks{a s:S}{ps:L9 S}(U:Und2 st a ps s)(h:st s=none):aR st a=none:=((U.res _ (Res.stuck h)).eq).symm
end
abbrev Th:=O9 (Int×Int)
structure Tb where
 f:List Th
 a:List Th
def Tb.at(t:Tb)(w q:Int):Th:=(if w=1 then t.f else t.a).getD q.toNat none
def nH(m:Nat):Th->Prop
 | none=>True
 | some (d,q)=>(d=1\/d = -1)/\0<=q/\q < (m:Int)
structure Tb.good(m:Nat)(t:Tb):Prop where
 lf:t.f.length=m
 la:t.a.length=m
 gf:∀ x∈t.f,nH m x
 ga:∀ x∈t.a,nH m x
theorem Tb.good.at{t:Tb}(h:t.good m){w q:Int}(h0:0<=q)(h1:q < m):(if w=1 then t.f else t.a)[q.toNat]? = some (t.at w q)/\nH m (t.at w q):=by
 have c:q.toNat < (if w=1 then t.f else t.a).length:=by
  split
  · rw [h.lf]; ext
  · rw [h.la]; ext
 have e:(if w=1 then t.f else t.a)[q.toNat]? = some (t.at w q):=by
  unfold Tb.at
  rw[AK,AI c];rfl
 refine⟨e,?_⟩
 have b:=AD e
 split at b
 .exact h.gf _ b
 .exact h.ga _ b
theorem oC(f:S->Nat)(N:Nat)(l:L9 S)(c:l.Nodup)(d:∀ s∈l,f s < N)(hi:∀ a∈l,∀ b∈l,f a=f b->a=b):l.length<=N:=by
 have h:=sG N (l.map f) ?_ ?_
 .simp_all
 .unfold Nodup
  rw[List.pairwise_map]
  exact F7 (λ{a b} ha hb hab e=>hab (hi a ha b hb e)) c
 simp_all
def eK(m:Nat)(s:Int×Int):Prop:=(s.1=1\/s.1 = -1)/\0<=s.2/\s.2 < (m:Int)
theorem qK(g:l.Nodup)(c:∀ s∈l,eK m s):l.length<=2 * m:=by
 refine oC (λs=>(if s.1=1 then 0 else m)+s.2.toNat) _ l g (λs f=>?_) (λa h b d e=>?_)
 .obtain ⟨h1,h2,j⟩:=c s f
  ext
 .obtain ⟨n,k⟩:=c a h
  obtain⟨o,i,p⟩:=c b d
  ext
def jT(a b:Tb)(s:Int×Int):O9 ((Int×Int)⊕(Int×Int)):=
 match (if s.1=1 then b.at 1 s.2 else a.at (-1) s.2)with
 | none=>none
 | some (w,q)=>if w = -s.1 then some (.inl (w,q))else some (.inr (w,q))
def lZ(a b:Tb)(th:Th)(w:Int):Th:=
 match th with
 | none=>none
 | some (d,q)=>if d=w then aR (jT a b) (d,q)else some (d,q)
theorem iW{O:Type}{st:S->O9 (S⊕O)}{s s':S}(h:st s=some (.inl s')):aR st s=aR st s':=(((g6 st s').step h).eq).symm
theorem resOf_out{O:Type}{st:S->O9 (S⊕O)}{s:S}{o:O}(h:st s=some (.inr o)):aR st s=some o:=((Res.out h).eq).symm
def thD:Th->D4
 | none=>.none
 | some (d,q)=>nF d q
def tbD(t:Tb):D4:=aHW (t.f.map thD) (t.a.map thD)
def pD(m:Nat):Tb:=⟨(range m).map λq:Nat=>some (1,(q:Int)),(range m).map λq:Nat=>some (-1,(q:Int))⟩
theorem aQ1(m:Nat):tbD (pD m)=aHW (aJ6 m) (aJ7 m):=by
 unfold tbD pD aJ6 aJ7
 rw[A6,A6];rfl
end _e
variable{n:Str}{c:Az}{ps xs:L9 Str}{cm:Str->O9 V9}{cs:L9 Az}{qs:L9 (Pos×Str)}
namespace _a
variable{H H':Hp}{params:Arguments}
def Its(z:Str):It:=⟨λi _=>i < z.cps.size,λi H x H'=>H'=H/\∃ c,z.cps[i]? = some c/\x=.str ⟨#[c]⟩,λi _=>i=z.cps.size⟩
theorem aCM{w:W9}{tg:Ez}(z:Str)(t:Tok)(T:String)(J:∀ A:U9,A.handled=none->∀ it,Walks P w A it [it] [it] z.cps.size (SignAt z) λi h=>h.IsStrIter it T z t i)
  (a:∀ (A:U9) (it:Az) (i:Nat) (s:S9) (Q E:V9->S9->Prop),s.heap.IsStrIter it T z t i->Q (.ref it) s->wpAny (model P w) A (pyIter (.ref it)) Q E s)
  (n:["enumerate","zip","dict_itemiterator","dict_reverseitemiterator","odict_iterator","itertools.zip_longest","itertools.pairwise"].contains T=false) (it:Az):Turn P w K tg (Its z) [it] it (λi h=>h.IsStrIter it T z t i) where
 mem:=by simp
 obj:=λi h st b f=>by
  obtain rfl:b=it:=by simpa using f
  obtain⟨o,e,c,d⟩:=st
  ext
 keep:=λi h h' st k=>by
  obtain⟨o,e,c,d⟩:=st
  exact⟨o,k it (by simp) o e,c,d⟩
 item:=by
  intro X C D B F i ap s Z H E I m st l
  subst C D B
  obtain⟨q,G,O,x,u,p⟩:=m it (by simp)
  refine(J X.A (I.ok.hd F) it).item i s _ E l st λv h' g M j r=>?_
  obtain⟨c,tc,y,rfl⟩:=M
  have N:Inv X ap Z H {s with heap:=h',toks:=g}:=I.turned (t':=g) (it:=it) (λb o f e=>r b o (by simpa using f) e) q G x u p
  obtain⟨o,e,L,d⟩:=id j
  exact⟨_,rfl,aBV (s:={s with heap:=h',toks:=g}) e L d n ⟨.str ⟨#[c]⟩,H,N,⟨_,rfl⟩,⟨rfl,c,y,rfl⟩,j,λb f=>(m b f).1⟩⟩
 done:=by
  intro X C D B F i ap s Z H E I m st l
  subst C D B
  obtain⟨q,G,O,x,u,p⟩:=m it (by simp)
  have l:i=z.cps.size:=l
  subst l
  exact(J X.A (I.ok.hd F) it).done s _ E st λh' g r=>⟨rfl,I.turned (t':=g) (it:=it) (λb o f e=>r b o (by simpa using f) e) q G x u p⟩
 self:=λA i s Q E st h=>a A it i s Q E st h
def aZP(te:TE):TI:=λZ H R=>te Z H λx H1=>∃ z,x=.str z/\R (Its z) H1
theorem aJ9{X:Cx}{tg l:Ez}{tl:TE}(r:PE X l tl):PI X tg l (aZP tl):=by
 intro ap s Z H R I h
 refine thn (r ap s Z H _ I h) λv s1 f=>?_
 obtain⟨x,H1,g,r1,p⟩:=f
 obtain⟨z,e,q⟩:=p
 subst e
 obtain⟨t,rfl⟩:=r1
 refine wpAny_pyIter_strU ?_
 have d:Inv X ap Z H1 {s1 with heap:=s1.heap.push {cls:=.type (strIterType z),data:=.fields #[.str z t,.int 0 0]}}:=g.kept λb o e=>AB _ e
 have st:(s1.heap.push {cls:=.type _,data:=.fields #[.str z t,.int 0 0]}).IsStrIter s1.heap.objs.size (strIterType z) z t 0:=⟨_,AY _ rfl,rfl,rfl⟩
 have c:∀ b∈[s1.heap.objs.size],iV X ap H1 b:=λb n=>by
  obtain rfl:=AZ.mp n
  exact g.fpOk (AM _) (g.hok.fresh (AM _))
 by_cases m:(z.cps.all λx=>decide (x < 128))=true
 .have j:strIterType z="str_ascii_iterator":=by unfold strIterType;rw[AJ m]
  rw[j]at st d ⊢
  exact⟨s1.heap.objs.size,[s1.heap.objs.size],_,_,H1,rfl,d,aCM z t "str_ascii_iterator" (λA k a=>Walks.strAscii k a z t) (λA a i s Q E st h=>wpAny_pyIter_striter_ascii st h) (by rfl) _,st,c,q⟩
 .have j:strIterType z="str_iterator":=by unfold strIterType;rw[AL m]
  rw[j]at st d ⊢
  exact⟨s1.heap.objs.size,[s1.heap.objs.size],_,_,H1,rfl,d,aCM z t "str_iterator" (λA k a=>Walks.strWide k a z t) (λA a i s Q E st h=>wpAny_pyIter_striter_wide st h) (by decide) _,st,c,q⟩
structure InK(env:Env)(s₀:S9)(m cm:Str->Option V9)(s:S9):Prop where
 ic:InCall s₀ env.locals m s
 cell:∀ n c,env.cells.lookup n=some c->s.heap.IsCell c (cm n)
 inj:∀ n n' c,env.cells.lookup n=some c->env.cells.lookup n'=some c->n=n'
 ne:∀ n c,env.cells.lookup n=some c->c≠env.locals
 up:∀ n c,env.kindOf n=some .cell->env.cells.lookup n=some c->env.locals < c
section
variable{M:Model}{A:U9}{E:V9->S9->Prop}{s₀ s:S9}{m cm:Str->O9 V9}{env:Env}
theorem InK.stL(x:InK env s₀ m cm s)(j:env.scope.kind=.function)(i:env.kindOf n=some .local)
  (h:∀ s',InK env s₀ (λy=>if y=n then some v else m y) cm s'->Q () s'):wpAny M A (storeName env n v) Q E s:=by
 refine wpAny_storeName_local i x.ic.ns (λh' d a=>h _ ⟨⟨?_,d,λb o e=>?_,x.ic.fresh⟩,λk c f=>?_,x.inj,x.ne,x.up⟩) (by rw[j];rfl)
 .obtain ⟨g,l,rfl⟩:=x.ic.same
  ext
 .exact a.extBut b o (BG (A3 (AQ e) x.ic.fresh)) (x.ic.keep b o e)
 .exact (x.cell k c f).sameBut a (x.ne k c f)
theorem InK.stC(x:InK env s₀ m cm s)(q:env.scope.kind=.function)(i:env.kindOf n=some .cell)
  (g:env.cells.lookup n=some c)
  (h:∀ s',InK env s₀ m (λy=>if y=n then some v else cm y) s'->Q () s'):wpAny M A (storeName env n v) Q E s:=by
 refine wpAny_storeName_cell q i g (x.cell n c g) λh' p a=>h _ ⟨⟨?_,x.ic.ns.sameBut a (BG (x.up n c i g)),λb o e=>?_,x.ic.fresh⟩,λk l d=>?_,x.inj,x.ne,x.up⟩
 .obtain ⟨j,r,rfl⟩:=x.ic.same
  ext
 .exact a.extBut b o (BG (EV (A3 (AQ e) x.ic.fresh) (x.up n c i g))) (x.ic.keep b o e)
 .by_cases f:k=n
  .grind
  .rw[AL f]
   exact(x.cell k l d).sameBut a λe=>f (x.inj k n l d (e▸g))
theorem InK.binds(f:Str×V9->PUnit->Sem (ForInStep PUnit))(b:∀ n v u,f (n,v) u=(do storeName env n v;pure (.yield ⟨⟩)))(a:env.scope.kind=.function) :
  ∀ (binds:L9 (Str×V9)) (m cm:Str->O9 V9) (s:S9) (Q:PUnit->S9->Prop),InK env s₀ m cm s->
   (∀ x∈binds,env.kindOf x.1=some .local\/(env.kindOf x.1=some .cell/\(env.cells.lookup x.1).isSome=true))->
   (∀ s',InK env s₀ (bindL env.kindOf binds m) (bindC env.kindOf binds cm) s'->Q ⟨⟩ s')->wpAny M A (forIn binds ⟨⟩ f) Q E s
 | [],m,cm,s,Q,x,_,h=>AH (h s x)
 | (n,v)::r,m,cm,s,Q,x,hkind,h=>by
  rw[DJ,b]
  rcases hkind _ A4 with hl|⟨hl,hc⟩
  .refine AA (AA (x.stL a hl λs' x'=>AH (InK.binds f b a r _ _ s' Q x' (λy hy=>hkind y (AU _ hy)) λs'' x''=>h s'' ?_)))
   unfold bindL bindC;simp_all
  .obtain ⟨c,hc⟩:=FY.mp hc
   refine AA (AA (x.stC a hl hc λs' x'=>AH (InK.binds f b a r _ _ s' Q x' (λy hy=>hkind y (AU _ hy)) λs'' x''=>h s'' ?_)))
   unfold bindL bindC;simp_all
end
theorem kF:∀ (names:L9 (Str×NameKind)) (n:Nat) (bx:L9 (Str×Az)),cellsFrom n names bx=cellsFrom n names []++bx
 | [],_,_=>rfl
 | (x,k)::r,n,bx=>by
  unfold cellsFrom
  split
  · rw [kF r _ _, kF r _ [(x, n)], FQ]; rfl
  · exact kF r n bx
theorem oE:∀ (names:L9 (Str×NameKind)) (n:Nat) {x:Str} {c:Az},(x,c)∈cellsFrom n names []->(x,NameKind.cell)∈names
 | [],_,_,_,h=>by simp[cellsFrom]at h
 | (y,k)::r,n,x,c,h=>by
  unfold cellsFrom at h
  split at h
  .rw[kF]at h
   rcases BO.mp h with h|h
   · exact AU _ (oE r _ h)
   ext
  .exact AU _ (oE r _ h)
theorem wD:∀ {l l':L9 (Str×α)},(l++l').lookup x=(l.lookup x).or (l'.lookup x)
 | [],l'=>by simp
 | (y,v)::r,l'=>by
  ext
theorem oF{l:L9 (Str×α)}(h:∀ v,(x,v)∉l):l.lookup x=none:=by ext
noncomputable def bX(qual:Str)(scope:Scope)(L f:Az)(cd:V9)(cl:L9 (Str×Az)):Env:=newEnv scope L mainGlobals (cellsFrom (L+1) scope.names cl) (qual++".<locals>.") (some f) cd none builtinsNs
structure ClAt(h:Heap)(scope:Scope)(cl:List (Str×Az))(cm:Str->Option V9):Prop where
 cell:∀ n c,cl.lookup n=some c->h.IsCell c (cm n)
 inj:∀ n n' c,cl.lookup n=some c->cl.lookup n'=some c->n=n'
 off:∀ y∈scope.names,y.2=.cell->cl.lookup y.1=none
section
variable{M:Model}{A:U9}{E:V9->S9->Prop}{s:S9}
theorem aFD{binds:L9 (Str×V9)}{Q:Env->S9->Prop}
  (t:scope.kind=.function) (C:ClAt s.heap scope cl cm)
  (j:∀ x∈binds,scope.names.lookup x.1=some .local\/scope.names.lookup x.1=some .cell)
  (u:∀ s',InK (bX qual scope s.heap.objs.size f cd cl) s (bindL (bX qual scope s.heap.objs.size f cd cl).kindOf binds λ_=>none) (bindC (bX qual scope s.heap.objs.size f cd cl).kindOf binds λn=>if (cl.lookup n).isSome then cm n else none) s'->Q (bX qual scope s.heap.objs.size f cd cl) s') :
  wpAny M A (newFunctionEnv scope mainGlobals cl binds (qual++".<locals>.") (some f) cd none builtinsNs) Q E s:=by
 simp only[newFunctionEnv,Option.isSome_none,BZ,C8]
 refine AA (wpAny_alloc ?_)
 refine AA (wpAny_layCells _ (λname kind cells=>by rfl) _ _ _ _ ?_)
 have ok:=cellsFrom_ok scope.names (s.heap.push {cls:=.type "frame",data:=.dict #[]}) _ [] ⟨λ_ _ p=>(nomatch p),List.Pairwise.nil⟩ (by exact AM _)
 rw[BP]at ok
 rw[(BP ..)]
 have h:(bX qual scope s.heap.objs.size f cd cl).cells=cellsFrom (s.heap.objs.size+1) scope.names []++cl:=kF _ _ _
 have i:∀ n c,(bX qual scope s.heap.objs.size f cd cl).cells.lookup n=some c->((cellsFrom _ scope.names []).lookup n=some c/\cl.lookup n=none)\/((cellsFrom _ scope.names []).lookup n=none/\cl.lookup n=some c):=λn c e=>by
  rw[h,wD]at e
  cases q:(cellsFrom _ scope.names []).lookup n with
  | none=>rw[q]at e;exact .inr ⟨rfl,by assumption⟩
  | some d=>
   rw[q]at e
   have k:=by simpa using e
   cases k
   exact .inl ⟨rfl,C.off _ (oE _ _ (BH q)) rfl⟩
 have big:=λn c e=>(ok.empty n c (BH e)).2
 have g:=λn c e=>(C.cell n c e).lt
 refine AA (InK.binds (s₀:=s)
  _ (λ_ _ _=>rfl) t binds (λ_=>none) (λn=>if (cl.lookup n).isSome then cm n else none) _ _
  ⟨⟨⟨_,_,rfl⟩,(Heap.Ns.new s.heap _).keeps (GL _ _),(λb o e=>GL _ _ b o (AB _ e)),AM _⟩,λn c e=>?_,λn m c e k=>?_,λn c e=>?_,λn c w e=>?_⟩
  (λx v=>?_) λs' x=>AH (u s' x))
 .rcases i n c e with ⟨q,a⟩|⟨q,a⟩
  .rw[a];exact(ok.empty n c (BH q)).1
  .rw[a];exact(C.cell n c a).keeps (λb o e=>GL _ _ b o (AB _ e))
 .rcases i n c e with ⟨q,a⟩|⟨q,a⟩<;>rcases i m c k with ⟨r,l⟩|⟨r,l⟩
  .exact name_of_addr ok.apart (BH q) (BH r)
  .exact absurd (big _ _ q) (FU.mpr (BS (g _ _ l)))
  .exact absurd (big _ _ r) (FU.mpr (BS (g _ _ a)))
  .exact C.inj n m c a l
 .rcases i n c e with ⟨q,a⟩|⟨q,a⟩
  .exact CJ (big _ _ q)
  .exact BG (g _ _ a)
 .rcases i n c e with ⟨q,a⟩|⟨q,a⟩
  .exact big _ _ q
  .rw[C.off (n,.cell) (BH w) rfl]at a;cases a
 .rcases j x v with q|q
  .exact .inl q
  .refine .inr ⟨q,?_⟩
   obtain⟨c,e⟩:=nE (n:=s.heap.objs.size+1) q
   rw[h,wD,e];rfl
end
noncomputable def hid(cs:L9 Az)(H:Hp):Hp:=λb=>if b∈cs then none else H b
noncomputable def shw(cs:L9 Az)(H H':Hp):Hp:=λb=>if b∈cs then H b else H' b
theorem pE(h:b∈cs):hid cs H b=none:=AJ h
theorem bC(h:b∉cs):hid cs H b=H b:=AL h
theorem sH(h:b∈cs):shw cs H H' b=H b:=AJ h
theorem eB(h:b∉cs):shw cs H H' b=H' b:=AL h
theorem iX(h:H b=none):hid cs H b=none:=by
 by_cases q:b∈cs
 · exact pE q
 · rw [bC q]; ext
theorem nI{o:HO}(h:hid cs H b=some o):H b=some o/\b∉cs:=by
 by_cases q:b∈cs
 · rw [pE q]at h; ext
 · rw [bC q]at h; exact⟨h, q⟩
def FnO(f:Az)(o:Obj):HO:=.ext λh=>h.get? f=some o
def fA(c:Az)(o:Obj)(v:V):HO:=.frz o (.ext λh=>∃ u,aV v u/\h.IsCell c (some u))
section
variable{P:P9}{w:W9}{H:Hp}{h:Hz}
theorem FnO.get{f:Az}{o:Obj}(x:HOk P w H h)(e:H f=some (FnO f o)):h.get? f=some o:=(x f _ e).1
theorem fA.get{c:Az}{o:Obj}{v:V}(x:HOk P w H h)(e:H c=some (fA c o v)):h.get? c=some o/\∃ u,aV v u/\h.IsCell c (some u):=⟨(x c _ e).1,(x c _ e).2.1⟩
theorem FnO.ok(e:h.get? f=some o):dF P w H h f (FnO f o):=⟨e,⟨o,e⟩,λh1 h2 q k=>k o q⟩
theorem fA.ok{v:V}(r:aV v u)(e:h.get? c=some o)(b:o.data=.cell (some u)):dF P w H h c (fA c o v):=
 ⟨e,⟨u,r,o,e,b⟩,⟨o,e⟩,λh1 h2 u k=>by obtain⟨u,r,o,a⟩:=u;exact⟨u,r,o,k o a.1,a.2⟩⟩
end
def Celd(cs:L9 Az)(H:Hp):Prop:=∀ c∈cs,∃ o v,H c=some (fA c o v)
theorem Celd.out{cs:L9 Az}{H:Hp}(h:Celd cs H){b:Az}{o:HO}(e:H b=some o)(n:∀ o' v,o≠fA b o' v):b∉cs:=λz=>by
 have o':=h b z
 ext
theorem HOk.hid{w:W9}{h:Hz}(x:HOk P w H h)(a:Celd cs H):HOk P w (hid cs H) h:=λb u e=>by
 exact(x b u (nI e).1).stay (λ_ _ _ q=>q) (λc q=>by rw[bC (a.out q λ_ v z=>nomatch z)];ext) (λc _ q=>by rw[bC (a.out q λ_ v z=>nomatch z)];ext) λc _ q=>by rw[bC (a.out q λ_ v z=>nomatch z)];ext
structure CloScope(N ps fr:List Str)(sc:Scope):Prop where
 kind:sc.kind=.function
 co:sc.isCoroutine=false
 gen:sc.isGenerator=false
 nd:N.Nodup
 pre:N.take (ps++fr).length=ps++fr
 par:∀ x∈ps,sc.names.lookup x=some .local\/sc.names.lookup x=some .cell
 cap:∀ x∈fr,sc.names.lookup x=some .free
 only:∀ y∈sc.names,y.2=.free->y.1∈fr
 off:∀ y∈sc.names,y.2=.cell->y.1∉fr
structure CapAt(H:Hp)(fr:List Str)(cl:List (Str×Az))(vs:List V):Prop where
 len:vs.length=fr.length
 only:∀ n c,cl.lookup n=some c->n∈fr
 inj:∀ n n' c,cl.lookup n=some c->cl.lookup n'=some c->n=n'
 at':∀ (i:Nat) x v,fr[i]? = some x->vs[i]? = some v->∃ c o,cl.lookup x=some c/\H c=some (fA c o v)
theorem CapAt.get{H:Hp}{fr:L9 Str}{cl:L9 (Str×Az)}{vs:L9 V}(a:CapAt H fr cl vs){n:Str}{c:Az}(e:cl.lookup n=some c):∃ o v,H c=some (fA c o v):=by
 obtain⟨i,hi,f⟩:=EW.mp (a.only n c e)
 obtain⟨d,o,b⟩:=a.at' i n (vs[i]'(by rw[a.len];ext)) (by simp_all) (AI _)
 ext
noncomputable def a6(fr:L9 Str)(cl:L9 (Str×Az)):L9 Az:=fr.filterMap λx=>cl.lookup x
theorem CapAt.celd{vs:L9 V}(a:CapAt H fr cl vs):Celd (a6 fr cl) H:=λc b=>by
 obtain⟨x,e⟩:=CZ.mp b
 exact a.get e.2
theorem CapAt.same{H':Hp}{vs:L9 V}(a:CapAt H fr cl vs)(s:aD H H'):CapAt H' fr cl vs:=⟨a.len,a.only,a.inj,λi x v h1 h2=>let ⟨c,o,e,q⟩:=a.at' i x v h1 h2;⟨c,o,e,s _ _ q⟩⟩
noncomputable def mU(CX:CXT)(P:P9)(w:W9)(K:Frag)(mg:Str->O9 V9)(base:Hz)(N fr:L9 Str)(qual:Str)(scope:Scope)(f:Az)(cd:V9)(cl:L9 (Str×Az))(A:U9)(outer:L9 Env)(s:S9)(H:Hp)(E:XK):Cx where
 prog:=P
 w:=w
 K:=K
 mg:=mg
 base:=base
 A:=A.deeper (bX qual scope s.heap.objs.size f cd cl)
 N:=N
 s₀:=s
 H₀:=hid (a6 fr cl) H
 env:=bX qual scope s.heap.objs.size f cd cl
 outer:=outer
 stack:=bX qual scope s.heap.objs.size f cd cl::outer
 ex:=[]
 calm:=true
 fn:=λx=>(cl.lookup x).isNone
 pn:=[]
 xe:=λe s'=>wpAny (model P w) (A.deeper (bX qual scope s.heap.objs.size f cd cl)) (leaving (bX qual scope s.heap.objs.size f cd cl) e) (λ_ s''=>CX outer H s E e s'') (λe' s''=>CX outer H s E e' s'') s'
section
variable{CX:CXT}{P:P9}{w:W9}{K:Frag}{mg:Str->O9 V9}{base:Hz}{N ps fr:L9 Str}{qual:Str}{scope:Scope}{f:Az}{cd:V9}{cl:L9 (Str×Az)}{A:U9}{outer:L9 Env}{s s1:S9}{H:Hp}{E:XK}{us:L9 V9}{vs cvs:L9 V}
theorem aFE{h:Hz}(hok:HOk P w H h)(C:CapAt H fr cl cvs):∃ cm:Str->O9 V9,(∀ n c,cl.lookup n=some c->∃ v u,(∃ o,H c=some (fA c o v))/\aV v u/\cm n=some u/\h.IsCell c (some u)):=by
 have a:∀ n,∃ x:O9 V9,∀ c,cl.lookup n=some c->∃ v u,(∃ o,H c=some (fA c o v))/\aV v u/\x=some u/\h.IsCell c (some u):=λn=>by
  cases e:cl.lookup n with
  | none=>simp
  | some c=>
   obtain⟨o,v,q⟩:=C.get e
   obtain⟨_,u,r⟩:=fA.get hok q
   exact⟨some u,λd b=>by cases b;exact⟨v,u,⟨o,q⟩,r.1,rfl,r.2⟩⟩
 exact⟨λn=>(a n).choose,λn c e=>(a n).choose_spec c e⟩
theorem qL{L:Nat}:(bX qual scope L f cd cl).cells.lookup n=((cellsFrom (L+1) scope.names []).lookup n).or (cl.lookup n):=by
 rw[show(bX qual scope L f cd cl).cells=cellsFrom _ scope.names []++cl from kF _ _ _,wD]
theorem uJ{L:Nat}(S:CloScope N ps fr scope)(C:CapAt H fr cl cvs)(e:cl.lookup n=some c):(bX qual scope L f cd cl).cells.lookup n=some c:=by
 rw[qL,oF λv a=>S.off _ (oE _ _ a) rfl (C.only n c e)]
 assumption
theorem xT(S:CloScope N ps fr scope)(C:CapAt H fr cl cvs)(O:A.handled=none)(d:Env0 P w K mg base A outer s H)(G:vs.length=ps.length)(r:a8 vs us)
  (V:∀ n c,cl.lookup n=some c->∃ v u,(∃ o,H c=some (fA c o v))/\aV v u/\cm n=some u/\s.heap.IsCell c (some u))
  (x:InK (bX qual scope s.heap.objs.size f cd cl) s (bindL (bX qual scope s.heap.objs.size f cd cl).kindOf (ps.zip us) λ_=>none) (bindC (bX qual scope s.heap.objs.size f cd cl).kindOf (ps.zip us) λn=>if (cl.lookup n).isSome then cm n else none) s1) :
  Inv (mU CX P w K mg base N fr qual scope f cd cl A outer s H E) [] (start N (vs++cvs)) (hid (a6 fr cl) H) s1:=by
 have T:(ps++fr).length<=N.length:=by have:=DD length S.pre;ext
 have U:(vs++cvs).length=(ps++fr).length:=by rw[A7,A7,G,C.len]
 obtain⟨h1,X,rfl,B⟩:=x.ic.done
 have t:∀ y c,cl.lookup y=none->(bX qual scope s.heap.objs.size f cd cl).cells.lookup y=some c->s.heap.objs.size < c:=λy c n e=>by
  rw[qL,n]at e
  have ok:=cellsFrom_ok scope.names (s.heap.push {cls:=.type "frame",data:=.dict #[]}) _ [] ⟨λ_ _ R=>(nomatch R),List.Pairwise.nil⟩ (by exact AM _)
  rw[BP]at ok
  exact(ok.empty y c (BH (by simpa using e))).2
 refine⟨⟨d.mod,S.kind,rfl,rfl,AM _,λy z c h1 h2=>x.inj y z c h1 h2,λy j=>?_,λy c J h=>?_,λ_=>O,Around.frames_deeper d.frames,.inr ⟨rfl,rfl⟩,λb z=>absurd z ((λb z=>absurd (show b∈([])from z) (by simp)) b),λb o e=>⟨(d.bs b o e).1,iX (d.bs b o e).2⟩,d.bsz,λb _ _=>(λb z=>absurd (show b∈([])from z) (by simp)) b,λb z=>absurd z ((λb z=>absurd (show b∈([])from z) (by simp)) b),d.funs,λb M=>iX (d.frf b M)⟩,
  rfl,d.bare,Un.kept B,⟨_,x.ic.ns,λi y v h1 h2 W=>?_⟩,λy c h=>⟨_,x.cell y c h⟩,iX (d.hok.fresh (AM _)),λy c h=>?_,λp g=>absurd (show p∈([])from g) (by simp),(d.hok.hid C.celd).kept B,?_⟩
 .have j:scope.names.lookup y=some .cell\/scope.names.lookup y=some .free:=j
  rcases j with j|j
  .obtain ⟨c,e⟩:=nE j
   exact⟨c,by show(bX qual scope s.heap.objs.size f cd cl).cells.lookup y=_;rw[qL,e];rfl⟩
  .obtain ⟨i,hi,Y⟩:=EW.mp (S.only _ (BH j) rfl)
   obtain⟨c,_,e⟩:=C.at' i y (cvs[i]'(by rw[C.len];ext)) (by simp_all) (AI _)
   exact⟨c,uJ S C e.1⟩
 .exact BS (t y c (FV.mp J) h)
 .have hi:i < (vs++cvs).length:=by
   unfold start at h2
   by_cases hi:i < (vs++cvs).length
   .exact hi
   .rw[CD (by simpa using hi)]at h2
    rw[CV]at h2
    split at h2<;>cases h2
  have l:(vs++cvs)[i]? = some v:=by
   unfold start at h2
   rw[BF (by simpa using hi),AE]at h2
   cases e:(vs++cvs)[i]? with
   | none=>rw[e]at h2;cases h2
   | some a=>rw[e]at h2;cases h2;rfl
  have g:(ps++fr)[i]? = some y:=by
   rw[<-S.pre,EA (by ext)];exact h1
  have m:ps.Nodup:=(CN.mp (by rw[<-S.pre];exact S.nd.sublist (List.take_sublist _ _))).1
  by_cases F:i < ps.length
  .rw[BF (by ext)]at l
   rw[BF F]at g
   obtain⟨u,D⟩:=r.get l
   refine⟨u,D.2,?_⟩
   rcases S.par y (AD g)with k|k
   .exact .inl ⟨k,sA m g D.1 k⟩
   .obtain ⟨c,e⟩:=nE (n:=s.heap.objs.size+1) k
    have I:(bX qual scope s.heap.objs.size f cd cl).cells.lookup y=some c:=by rw[qL,e];rfl
    refine .inr ⟨.inl k,c,I,?_⟩
    have q:=x.cell y c I
    rw[sB m g D.1 (by show scope.names.lookup y≠_;rw[k];decide)]at q
    exact q
  .rw[CD (by ext)]at l
   rw[CD (by ext)]at g
   rw[G]at l
   obtain⟨c,o,e⟩:=C.at' _ y v g l
   obtain⟨_,Q,r2⟩:=fA.get d.hok e.2
   refine⟨Q,r2.1,.inr ⟨.inr (S.cap y (AD g)),c,(uJ (qual:=qual) (f:=f) (cd:=cd) (L:=s.heap.objs.size) S C e.1),?_⟩⟩
   exact r2.2.keeps B
 .cases e:cl.lookup y with
  | none=>exact iX (d.hok.fresh (BS (t y c e h)))
  | some c'=>
   have h':=uJ (qual:=qual) (f:=f) (cd:=cd) (L:=s.heap.objs.size) S C e
   have h:(bX qual scope s.heap.objs.size f cd cl).cells.lookup y=some c:=h
   rw[h]at h';cases h'
   exact pE (CZ.mpr ⟨y,C.only y c e,e⟩)
 .unfold start
  show _=N.length
  rw[A7,AC,CI]
  ext
theorem nJ{Z:St}(S:CloScope N ps fr scope)(C:CapAt H fr cl cvs)(i:Env0 P w K mg base A outer s H)(J:Inv (mU CX P w K mg base N fr qual scope f cd cl A outer s H E) ap Z H' s') :
  (∀ c∈a6 fr cl,H' c=none)/\Un (frs outer) [] H (shw (a6 fr cl) H H') s.heap s'.heap/\HOk P w (shw (a6 fr cl) H H') s'.heap:=by
 have un:Un (frs outer) [] (hid _ H) H' s.heap s'.heap:=J.base
 have h:∀ c∈a6 fr cl,H' c=none:=λc l=>by
  obtain⟨x,e⟩:=CZ.mp l
  exact J.freeC x c (uJ S C e.2)
 have out:∀ b,H b=none->b∉a6 fr cl:=λb n z=>by
  obtain⟨o,v,q⟩:=C.celd b z
  ext
 refine⟨h,⟨λb o e n h1 h2=>un.keep b o e (iX n) h1 h2,λb o e n h1 h2=>un.slot b o e (iX n) h1 h2,λb o e n h2=>by rw[eB (out b n)];exact un.free b o e (iX n) h2,un.there,
  λb xs q=>?_,λb o u q=>?_,λb ps q=>?_⟩,λb u e=>?_⟩
 .have a:=C.celd.out q λ_ v z=>nomatch z
  rw[eB a];exact un.tups b xs (by rw[bC a];ext)
 .by_cases a:b∈a6 fr cl
  .rw[sH a];ext
  .rw[eB a];exact un.frzs b o u (by rw[bC a];ext)
 .have a:=C.celd.out q λ_ v z=>nomatch z
  rw[eB a];exact un.tbls b ps (by rw[bC a];ext)
 .by_cases a:b∈a6 fr cl
  .rw[sH a]at e
   obtain⟨o,v,q⟩:=C.celd b a
   rw[q]at e;cases e
   obtain⟨j,u,r,m,d,k⟩:=fA.get i.hok q
   rw[j]at d;cases d
   exact fA.ok r (un.keep b o j (pE a) (λz=>by have:=i.frf b z;simp_all) (by simp)) k
  .rw[eB a]at e
   have g:∀ c o,H' c=some o->c∉a6 fr cl:=λc o q z=>by simp_all
   exact(J.hok b u e).stay (λ_ _ _ q=>q) (λc q=>by rw[eB (g c _ q)];ext) (λc _ q=>by rw[eB (g c _ q)];ext) λc _ q=>by rw[eB (g c _ q)];ext
end
section
variable{P:P9}{w:W9}{K:Frag}{mg:Str->O9 V9}{base:Hz}{N ps fr:L9 Str}{qual:Str}{scope:Scope}{f:Az}{cd:V9}{cl:L9 (Str×Az)}{A:U9}{outer:L9 Env}{s:S9}{H:Hp}{E:XK}{cvs:L9 V}
theorem xU(S:CloScope N ps fr scope)(C:CapAt H fr cl cvs)(j:Env0 P w K mg base A outer s H)
  (h:Fly (mU (CXe P w) P w K mg base N fr qual scope f cd cl A outer s H E) (λc e H'=>(∀ a∈a6 fr cl,H' a=none)->E c e (shw (a6 fr cl) H H')) ev s'):(mU (CXe P w) P w K mg base N fr qual scope f cd cl A outer s H E).xe ev s':=by
 obtain⟨e,l,od,Z,H',rfl,I,p,q⟩:=h
 refine AA (wC (⟨rfl,rfl⟩) I p λu k n=>zH k n λr i g=>?_)
 obtain⟨vs,T,a,b,c,_⟩:=g.tb
 have d:=nJ S C j i
 have m:∀ c o,H' c=some o->c∉a6 fr cl:=λc o q z=>by simp_all
 refine⟨e,l,od,_,rfl,i.os,i.bare,d.2.1,d.2.2,by rw[eB (m _ _ g.tr)];exact g.tr,⟨vs,T,a,b,λt e1=>⟨?_,(c t e1).2.1⟩⟩,q d.1⟩
 rw[eB]
 .exact (c t e1).1
 .intro z
  obtain⟨o,v,q⟩:=C.celd t z
  exact absurd (A3 (j.hok.lt q) (c t e1).2.1) (B0 _)
end
structure ClSt where
 name:Str
 qual:Str
 params:Arguments
 body:FuncBody
 scope:Scope
noncomputable def ClSt.fd(S:ClSt)(cl:L9 (Str×Az))(doc pm:V9)(c:Az)(ct:V9):FuncData:=
 {name:=S.name,qualname:=S.qual,params:=S.params,body:=S.body,scope:=S.scope,globals:=mainGlobals,closure:=cl,defaults:=.none,kwdefaults:=.none,doc:=doc,pyModule:=pm,annotations:=none,code:=.ref c,closureTuple:=ct,builtins:=builtinsNs}
abbrev ClSt.obj(S:ClSt)(cl:L9 (Str×Az))(doc pm:V9)(c:Az)(ct:V9):Obj:={cls:=.type "function",data:=.func (S.fd cl doc pm c ct)}
section
variable{P:P9}{w:W9}{K:Frag}{mg:Str->O9 V9}{base:Hz}{N ps fr:L9 Str}{S:ClSt}{f c:Az}{cl:L9 (Str×Az)}{A:U9}{outer:L9 Env}{s:S9}{H:Hp}{E:XK}{Q:VK}{cvs vs:L9 V}{us:L9 V9}{args:Args}{doc pm ct:V9}{k:Nat}
theorem aCN(Sc:CloScope N ps fr S.scope):∀ y∈ps.zip us,S.scope.names.lookup y.1=some .local\/S.scope.names.lookup y.1=some .cell:=λn a=>Sc.par n.1 (DZ a).1
theorem aKA{h:Hz}(hok:HOk P w H h)(Sc:CloScope N ps fr S.scope)(C:CapAt H fr cl cvs)(d:∀ n c,cl.lookup n=some c->∃ v u,(∃ o,H c=some (fA c o v))/\aV v u/\cm n=some u/\h.IsCell c (some u)):ClAt h S.scope cl cm where
 cell:=λn c e=>by
  ext
 inj:=C.inj
 off:=λy a b=>by
  cases e:cl.lookup y.1 with
  | none=>rfl
  | some c=>exact absurd (C.only _ _ e) (Sc.off y a b)
theorem aKB(hb:S.body=.stmts body)(B:H f=some (FnO f (S.obj cl doc pm c ct)))(F:H c=some (.cod S.qual))(Sc:CloScope N ps fr S.scope)(C:CapAt H fr cl cvs)(hr:Room (k+1) A)
  (d:Env0 P w K mg base A outer s H) (n:BindsTo s (S.fd cl doc pm c ct) args (ps.zip us)) (r:a8 vs us) (y:vs.length=ps.length)
  (g:Room k (A.deeper (bX S.qual S.scope s.heap.objs.size f (.ref c) cl))->∃ t,PSs ((mU (CXe P w) P w K mg base N fr S.qual S.scope f (.ref c) cl A outer s H E).fly λc e H'=>(∀ a∈a6 fr cl,H' a=none)->E c e (shw (a6 fr cl) H H')) body t /\
   t {nx:=λ_ H'=>(∀ a∈a6 fr cl,H' a=none)->Q .non (shw (a6 fr cl) H H'),rt:=λv H'=>(∀ a∈a6 fr cl,H' a=none)->Q v (shw (a6 fr cl) H H')} (start N (vs++cvs)) (hid (a6 fr cl) H)) :
  codeAny (model P w) A (.call (.ref f) args) (CR (CXe P w) outer P w H s Q E) s:=by
 obtain⟨cm,j⟩:=aFE d.hok C
 refine EQ hr.depth (FnO.get d.hok B) rfl Sc.co Sc.gen hb (d.hok c _ F) (n _ _ _ _ ?_)
 refine aFD Sc.kind (aKA d.hok Sc C j) (aCN Sc) λs1 x=>?_
 refine⟨(d.mod.nolimit.keeps λb o e=>(d.bs b o e).1).keeps x.ic.keep,codeAny_func ?_⟩
 obtain⟨t,p⟩:=g (hr.deeper _)
 refine BW ((p.1.unfly λ_ _ z=>xU Sc C d z) [] s1 _ _ _ (xT Sc C hr.hd d y r j x) p.2) (λD s' h=>?_) λe s' h=>h
 have i:∀ {l:St} {H':Hp} {v:V} {u:V9},Inv (mU (CXe P w) P w K mg base N fr S.qual S.scope f (.ref c) cl A outer s H E) [] l H' s'->aV v u->((∀ a∈a6 fr cl,H' a=none)->Q v _)->CE outer P w H s Q u s':=
  λ{l H' v u} J rv q=>by
   have m:=nJ Sc C d J
   exact⟨v,_,J.os,J.bare,m.2.1,m.2.2,rv,q m.1⟩
 cases D with
 | ret u=>
  obtain⟨v,l,H',J⟩:=h
  exact i J.1 J.2.1 J.2.2
 | next=>
  obtain⟨l,H',J⟩:=h
  exact i (v:=V.non) J.1 rfl J.2
 | brk=>
  obtain⟨_,_,q⟩:=h
  simp_all
 | cont=>
  obtain⟨_,_,q⟩:=h
  exact False.elim q.2
theorem aNA{body:Ez}(hb:S.body=.expr body)(m:H f=some (FnO f (S.obj cl doc pm c ct)))(p:H c=some (.cod S.qual))(Sc:CloScope N ps fr S.scope)(C:CapAt H fr cl cvs)(hr:Room (k+1) A)
  (d:Env0 P w K mg base A outer s H) (i:BindsTo s (S.fd cl doc pm c ct) args (ps.zip us)) (r:a8 vs us) (n:vs.length=ps.length)
  (g:Room k (A.deeper (bX S.qual S.scope s.heap.objs.size f (.ref c) cl))->∃ t,PE ((mU (CXe P w) P w K mg base N fr S.qual S.scope f (.ref c) cl A outer s H E).fly λc e H'=>(∀ a∈a6 fr cl,H' a=none)->E c e (shw (a6 fr cl) H H')) body t /\
   t (start N (vs++cvs)) (hid (a6 fr cl) H) λv H'=>(∀ a∈a6 fr cl,H' a=none)->Q v (shw (a6 fr cl) H H')) :
  codeAny (model P w) A (.call (.ref f) args) (CR (CXe P w) outer P w H s Q E) s:=by
 obtain⟨cm,h⟩:=aFE d.hok C
 refine PySem.W.kla_callFunE hr.depth (FnO.get d.hok m) rfl Sc.co Sc.gen hb (d.hok c _ p) (i _ _ _ _ ?_)
 refine aFD Sc.kind (aKA d.hok Sc C h) (aCN Sc) λs1 x=>?_
 refine⟨(d.mod.nolimit.keeps λb o e=>(d.bs b o e).1).keeps x.ic.keep,PySem.W.kla_codeExpr ?_⟩
 obtain⟨t,l⟩:=g (hr.deeper _)
 refine BW (l.1 [] s1 _ _ _ ((xT Sc C hr.hd d n r h x).wish _) l.2) (λu s' j=>?_) λe s' j=>xU Sc C d j
 obtain⟨v,H',J⟩:=j
 exact⟨v,_,J.1.os,J.1.bare,(nJ Sc C d J.1.unwish).2.1,(nJ Sc C d J.1.unwish).2.2,J.2.1,J.2.2 (nJ Sc C d J.1.unwish).1⟩
end
theorem aHZ:∀ (names:L9 (Str×NameKind)) (bx:L9 (Str×Az)),(∀ x∈names,x.2=.free->∃ c,env.cells.lookup x.1=some c)->
  (∀ x c,bx.lookup x=some c->env.cells.lookup x=some c)->
  ∃ cl,(forIn names bx λx r=>(if (x.2 == NameKind.free)=true then(do let a <-cellOf env x.1;pure (ForInStep.yield ((x.1,a)::r)))else pure (ForInStep.yield r)):Sem (L9 (Str×Az)))=pure cl /\
   (∀ x c,cl.lookup x=some c->env.cells.lookup x=some c)/\(∀ x∈names,x.2=.free->∃ c,cl.lookup x.1=some c)/\(∀ x c,bx.lookup x=some c->∃ c',cl.lookup x=some c') /\
   (∀ x c,cl.lookup x=some c->(∃ c',bx.lookup x=some c')\/(x,NameKind.free)∈names):=by
 intro names
 induction names with
 | nil=>intro bx _ h;exact⟨bx,rfl,h,λx i=>absurd i (by simp),λx c e=>⟨c,e⟩,λx c e=>.inl ⟨c,e⟩⟩
 | cons x r ih=>
  intro bx f h
  obtain⟨n,k⟩:=x
  by_cases m:k=.free
  .subst m
   obtain⟨c,g⟩:=f _ A4 rfl
   obtain⟨cl,e1,e2,o,l⟩:=ih _ (λy b=>f y (AU _ b)) (λy d e=>by
    rw[B7]at e
    cases q:y == n with
    | true=>rw[q]at e;cases e;have:=eq_of_beq q;subst this;exact g
    | false=>rw[q]at e;exact h y d e)
   refine⟨cl,?_,e2,λy b j=>?_,λy d e=>?_,λy d e=>?_⟩
   .rw[DJ]
    simp only[DT,BR]
    unfold cellOf
    simp only[g,pure_bind]
    exact e1
   .rcases AV.mp b with z|z
    · simp_all
    · ext
   .by_cases q:y=n
    · simp_all
    · exact l.1 y d (by rw [B7, C6 q]; exact e)
   .grind
  .obtain ⟨cl,e1,e2⟩:=ih bx (λy b=>f y (AU _ b)) h
   ext
structure ClOf(cells:List (Str×Az))(sc:Scope)(cl:List (Str×Az)):Prop where
 of:∀ x c,cl.lookup x=some c->cells.lookup x=some c
 all:∀ x∈sc.names,x.2=.free->∃ c,cl.lookup x.1=some c
 only:∀ x c,cl.lookup x=some c->(x,NameKind.free)∈sc.names
theorem aCO(b:∀ x∈scope.names,x.2=.free->∃ c,env.cells.lookup x.1=some c) :
  ∃ cl,closureFor scope env=pure cl/\ClOf env.cells scope cl:=by
 obtain⟨cl,e1,e2,a,_,d⟩:=aHZ scope.names [] b (λx c e=>by simp_all)
 refine⟨cl,?_,e2,a,λx c e=>?_⟩
 .unfold closureFor
  ext
 ext
theorem aKC{pos:Pos}{r:L9 V9}(l:L9 V9)(h:TriplesOk l):codeAmong pos (l++r)=(codeAmong pos l).or (codeAmong pos r):=by
 fun_induction TriplesOk l with
 | case1=>rfl
 | case2 a t b u x rest ih=>
  simp only[A8,codeAmong]
  split
  · rfl
  · exact ih h
 | case3 l h1 h2=>exact h.elim
structure Tb(mg:Str->Option V9)(base:Heap)(c0 P0:Az):Prop where
 hd:CodeHd base c0 P0
 bt:∃ bm ob,mg "__builtins__"=some (.ref bm)/\bm≠builtinsNs/\base.get? bm=some ob/\ob.cls=.type "module"/\ob.dict=some builtinsNs/\ob.data=.plain
section
variable{X:Cx}{ap:L9 (Az×Obj)}{Z:St}{H:Hp}{s:S9}{c0 P0:Az}{qs:L9 (Pos×Str)}{pos:Pos}{q:Str}
theorem aKD{ps:Array V9}{h h':Hz}(t:HOk X.prog X.w H h)(A:H P0=some (.tbl qs))(y:h.get? P0=some (tabObj ps))(m:TriplesOk ps.toList)(a:∀ p∈qs,codeAmong p.1 ps.toList=none\/∃ c,codeAmong p.1 ps.toList=some (.ref c)/\H c=some (.cod p.2))
  (o:∀ p∈qs,p.1.line=pos.line->p.1.col=pos.col->p.2=q) (x:codeAmong pos ps.toList=none) (f:H c=none) (hx:Heap.ExtBut P0 h h') (i:h'.CodeRec (.ref c) q) (j:h'.get? P0=some (tabObj (ps ++ #[rawInt pos.line,rawInt pos.col,.ref c]))) :
  HOk X.prog X.w (upd H c (.cod q)) h':=λb u e=>by
 by_cases l:b=c
 .subst l;rw[aO]at e;cases e;exact i
 .rw[aG l]at e
  by_cases k:b=P0
  .subst k
   rw[A]at e;cases e
   refine⟨_,j,?_,λp n=>?_⟩
   .rw[Array.toList_append];exact TriplesOk_snoc _ _ _ _ m
   .rw[Array.toList_append,aKC _ m]
    rcases a p n with z|⟨d,z,s⟩
    .rw[z]
     by_cases g:p.1.line=pos.line/\p.1.col=pos.col
     .refine .inr ⟨c,?_,?_⟩
      .rw[<-g.1,<-g.2]
       exact codeAmong_snoc [] trivial rfl
      .rw[o p n g.1 g.2];exact aO
     .refine .inl ?_
      simp[codeAmong,rawInt]
      ext
    .refine .inr ⟨d,by rw[z];rfl,?_⟩
     rw[aG (a9 s f)];ext
  .refine (t b u e).stay (λd v B r=>hx d v ?_ r) (λd r=>by rw[aG (a9 r f)];ext) (λd _ r=>by rw[aG (a9 r f)];ext) λd _ r=>by rw[aG (a9 r f)];ext
   ext
def Mkd(H:Hp)(q:Str)(c:Az)(H1:Hp):Prop:=(H c=some (.cod q)/\H1=H)\/(H c=none/\H1=upd H c (.cod q))
theorem aFF {S : ClSt} {M : Model} {A : U9} {E : V9 -> S9 -> Prop} {Q : V9 -> S9 -> Prop} {g : Nat} (I : Inv X ap Z H s) (d : X.env.code = .ref c0) (T : Tb X.mg X.base c0 P0) (Y : H P0 = some (.tbl qs)) (hq : (pos, S.qual) ∈ qs)
    (hu : ∀ p ∈ qs, p.1.line = pos.line -> p.1.col = pos.col -> p.2 = S.qual) (y : ∀ x ∈ S.scope.names, x.2 = .free -> ∃ c, X.env.cells.lookup x.1 = some c)
    (h : ∀ f c cl doc pm ct H1 s', Mkd H S.qual c H1 -> H1 f = none -> ClOf X.env.cells S.scope cl -> Inv X ap Z (upd H1 f (FnO f (S.obj cl doc pm c ct))) s' -> Q (.ref f) s') :
    wpAny M A (makeFunction S.name S.qual S.params S.body S.scope X.env [] [] [] pos g) Q E s := by
  obtain⟨cl, i⟩ := aCO y
  obtain⟨ps, l, G, v⟩ := ((I.hok P0 _ Y))
  have C := T.hd.keeps I.bk
  have B := I.mod.glob.keeps I.bk
  have N : mainGlobals ≠ P0 := λz => by
    obtain⟨o, es, ep, e, hd, _⟩ := B
    ext
  obtain⟨bm, ob, b1, b2, b3, b4, b5⟩ := T.bt
  have R := I.bk _ _ b3
  have U : bm ≠ mainGlobals := λz => by
    obtain⟨o, es, ep, e, hd, _⟩ := B
    ext
  have P : s.heap.BuiltinsAt X.mg P0 := ⟨bm, ob, b1, b2, U, (λz => by ext), R, b4, b5.1, b5.2⟩
  rcases v _ hq with w | ⟨c, V, hc⟩
  · have k : ∀ m a doc h' q, Heap.ExtBut P0 s.heap h' -> s.heap.objs.size <= m -> m < h'.objs.size -> h'.CodeRec (.ref m) S.qual -> h'.get? P0 = some (tabObj (ps ++ #[rawInt pos.line, rawInt pos.col, .ref m])) ->
        Q (.ref h'.objs.size) { s with heap := h'.push (S.obj cl doc ((X.mg "__name__").getD .none) m a), toks := q } := by
      intro m a doc h' q O j L F K
      have t := aKD I.hok Y l G v hu w (I.hok.fresh j) O F K
      have r := t.fresh (AM _)
      refine h h'.objs.size m cl doc ((X.mg "__name__").getD .none) a _ _ (.inr ⟨(I.hok.fresh j), rfl⟩) r i.2 ?_
      have D : ∀ b o, H b = some o -> b ≠ m /\ b ≠ h'.objs.size := λb o e => ⟨a9 e (I.hok.fresh j), λz => by
        rw [z]at e
        rw [aG (CJ L), e]at r; ext⟩
      refine I.un ⟨λb o e n _ _ => AB _ (O b o ((λb n z => by ext) b n) e), λb o e n _ _ => ⟨o.slots, AB _ (O b o ((λb n z => by ext) b n) e)⟩, λb o e n _ => ?_, λb o e _ => ?_, λb xs e => ?_, λb o u e => ?_, λb qs e => ?_⟩ ?_
      · rw [aG (BG (A3 (AQ e) (BB j (BS L)))), aG (BG (A3 (AQ e) j))]; ext
      · by_cases z : b = P0
        · subst z; exact⟨_, AB _ K⟩
        · exact⟨o, AB _ (O b o z e)⟩
      · rw [aG (D b _ e).2, aG (D b _ e).1]; exact e
      · rw [aG (D b _ e).2, aG (D b _ e).1]; exact e
      · rw [aG (D b _ e).2, aG (D b _ e).1]; exact e
      · exact t.laid (λb u e => AB _ e) (AM _) (FnO.ok (AY _ rfl))
    obtain⟨name, qual, params, body, scope⟩ := S
    cases body with
    | stmts body => exact PySem.W.makeFunction_K i.1 I.ok.glob B d C l G w N P k
    | expr body => exact PySem.W.kla_makeFunction i.1 I.ok.glob B d C l G w N P λm a h' q => k m a .none h' q
  · have k : ∀ (a doc : V9) (h' : Hz) (q : Tok), (∀ b o, s.heap.get? b = some o -> h'.get? b = some o) -> s.heap.objs.size <= h'.objs.size ->
        Q (.ref h'.objs.size) { s with heap := h'.push (S.obj cl doc ((X.mg "__name__").getD .none) c a), toks := q } := by
      intro a doc h' q hk J
      refine h h'.objs.size c cl doc ((X.mg "__name__").getD .none) a H _ (.inl ⟨hc, rfl⟩) (I.hok.fresh J) i.2 ?_
      exact I.laid (λb u e => AB _ (hk b u e)) J (FnO.ok (AY _ rfl))
    obtain⟨name, qual, params, body, scope⟩ := S
    cases body with
    | stmts body => exact PySem.W.makeFunction_hit i.1 I.ok.glob B d C l G V P k
    | expr body => exact PySem.W.kla_makeFunctionHit i.1 I.ok.glob B d C l G V P λa h' q => k a .none h' q
def tMk(cells:L9 (Str×Az))(S:ClSt)(P0:Az)(qs:L9 (Pos×Str)):TE:=λZ H Q=>H P0=some (.tbl qs)/\∀ f c cl doc pm ct H1,Mkd H S.qual c H1->H1 f=none->ClOf cells S.scope cl->Q (.ref f) (upd H1 f (FnO f (S.obj cl doc pm c ct)))
theorem aCP(a:X.env.code=.ref c0)(T:Tb X.mg X.base c0 P0)(j:qualnameIn X.env x x=q)(r:(pos,q)∈qs)
  (m:∀ p∈qs,p.1.line=pos.line->p.1.col=pos.col->p.2=q) (b:∀ y∈scope.names,y.2=.free->X.env.kindOf y.1=some .cell\/X.env.kindOf y.1=some .free)
  (g:params.defaults=[]) (k:params.kw_defaults=[]) (t:annTrees params none X.env=[])
  (z:X.N.Nodup) (hi:X.N[i]? = some x) (hx:Loc X.env.scope x) (w:X.fn x=true\/X.env.scope.names.lookup x=some .local:=by exact .inl rfl) :
  PS X (.FunctionDef x params body [] none [] scope none x pos) (lH (tMk X.env.cells ⟨x,q,params,.stmts body,scope⟩ P0 qs) (jG i)):=by
 intro ap s Z H D I h
 refine PySem.W.nestDef_K g k t ?_
 rw[j]
 refine aFF (S:=⟨x,q,params,.stmts body,scope⟩) I a T h.1 r m (λy u d=>I.ok.has _ (b y u d)) λf c cl doc pm ct H1 s' o n B A=>?_
 exact v6 A z hi hx (v:=.ref f) rfl (λl e=>⟨_,_,e,h.2 f c cl doc pm ct H1 o n B⟩) w
theorem aU7{body:Ez}(a:X.env.code=.ref c0)(T:Tb X.mg X.base c0 P0)(e:X.env.qual++("<lambda>":Str)=q)(m:(pos,q)∈qs)
  (j:∀ p∈qs,p.1.line=pos.line->p.1.col=pos.col->p.2=q) (b:∀ y∈scope.names,y.2=.free->X.env.kindOf y.1=some .cell\/X.env.kindOf y.1=some .free)
  (d:defaultsOf params X.env=([],[])) :
  PE X (.Lambda params body scope pos) (tMk X.env.cells ⟨"<lambda>",q,params,.expr body,scope⟩ P0 qs):=by
 intro ap s Z H Q I h
 refine PySem.W.kla_eval d ?_
 rw[e]
 exact aFF (S:=⟨"<lambda>",q,params,.expr body,scope⟩) I a T h.1 m j (λy o g=>I.ok.has _ (b y o g)) λf c cl doc pm ct H1 s' l k i n=>⟨.ref f,_,n,rfl,h.2 f c cl doc pm ct H1 l k i⟩
end
abbrev Cv:=L9 (Az×Obj×V)
noncomputable def pub(cv:Cv)(H:Hp):Hp:=λb=>match cv.lookup b with
 | some p=>some (fA b p.1 p.2)
 | none=>H b
noncomputable def cQ(cv:Cv):L9 Az:=cv.map (·.1)
theorem gM{c:Cv}:b∈cQ c↔∃ p,c.lookup b=some p:=by
 unfold cQ
 induction c with
 | nil=>simp
 | cons a r ih=>
  rw[AW,AV,ih,B7]
  by_cases h:b=a.1
  .subst h;simp
  .rw[C6 h]
   simp[h]
theorem pF{a:Cv}{H:Hp}{p:Obj×V}(h:a.lookup b=some p):pub a H b=some (fA b p.1 p.2):=by unfold pub;rw[h]
theorem dD{a:Cv}(h:b∉cQ a):pub a H b=H b:=by
 unfold pub
 cases e:a.lookup b with
 | none=>rfl
 | some p=>exact absurd (gM.mpr ⟨p,e⟩) h
theorem eD{a:Cv}(c:∀ b∈cQ a,H b=none):aD H (pub a H):=λb o e=>by
 rw[dD λz=>by simp_all];ext
theorem aBY{w:W9}{fs:L9 Az}{a:Cv}{H1:Hp}{h h':Hz}(l:∀ b∈cQ a,H b=none)(k:HOk P w (pub a H) h)(un:Un fs [] (pub a H) H1 h h')(hk1:HOk P w H1 h') :
  Un fs [] H (hid (cQ a) H1) h h'/\HOk P w (hid (cQ a) H1) h':=by
 have inn:∀ b,b∈cQ a->∃ o v,h.get? b=some o/\h'.get? b=some o/\H1 b=some (fA b o v):=λb d=>by
  obtain⟨⟨o,v⟩,e⟩:=gM.mp d
  have g:=un.frzs b o _ (pF (H:=H) e)
  exact⟨o,v,(fA.get k (pF (H:=H) e)).1,(fA.get hk1 g).1,g⟩
 have out:∀ b u,H b=some u->b∉cQ a:=λb u e z=>by simp_all
 refine⟨⟨λb o e n h1 h2=>?_,λb o e n h1 h2=>?_,λb o e n h2=>?_,un.there,λb xs q=>?_,λb o u q=>?_,λb ps q=>?_⟩,λb u e=>?_⟩
 .by_cases d:b∈cQ a
  .grind
  .exact un.keep b o e (by rw[dD d];ext) h1 h2
 .by_cases d:b∈cQ a
  .obtain ⟨o',v,i,j⟩:=inn b d
   rw[e]at i;cases i;exact⟨o.slots,j.1⟩
  .exact un.slot b o e (by rw[dD d];ext) h1 h2
 .by_cases d:b∈cQ a
  .exact pE d
  .rw[bC d];exact un.free b o e (by rw[dD d];ext) h2
 .rw[bC (out b _ q)];exact un.tups b xs (by rw[dD (out b _ q)];ext)
 .rw[bC (out b _ q)];exact un.frzs b o u (by rw[dD (out b _ q)];ext)
 .rw[bC (out b _ q)];exact un.tbls b ps (by rw[dD (out b _ q)];ext)
 .have f:∀ c o,H1 c=some o->(∀ o' v,o≠fA c o' v)->c∉cQ a:=λc o q n z=>by
   ext
  exact(hk1 b u (nI e).1).stay (λ_ _ _ q=>q) (λc q=>by rw[bC (f c _ q λ_ _ z=>nomatch z)];ext) (λc _ q=>by rw[bC (f c _ q λ_ _ z=>nomatch z)];ext) λc _ q=>by rw[bC (f c _ q λ_ _ z=>nomatch z)];ext
structure PubRel(X:Cx)(Z:St)(H:Hp)(js:List Nat)(cv:Cv):Prop where
 at':∀ b o v,cv.lookup b=some (o,v)->∃ x j,j∈js/\X.N[j]? = some x/\X.env.cells.lookup x=some b/\Z[j]? = some (some v)
 all:∀ j∈js,∃ x c o v,X.N[j]? = some x/\X.env.cells.lookup x=some c/\Z[j]? = some (some v)/\cv.lookup c=some (o,v)
 free:∀ b∈cQ cv,H b=none
 inj:∀ x y c,X.env.cells.lookup x=some c->X.env.cells.lookup y=some c->x=y
section
variable{X:Cx}{ap:L9 (Az×Obj)}{Z:St}{H:Hp}{s:S9}
def wE(X:Cx)(Z:St)(j:Nat):Prop:=∃ x v,X.N[j]? = some x/\X.env.kindOf x=some .cell/\X.fn x=true/\Z[j]? = some (some v)
theorem aCQ(I:Inv X ap Z H s):∀ (js:L9 Nat),(∀ j∈js,wE X Z j)->∃ cv,PubRel X Z H js cv/\∀ b o v,cv.lookup b=some (o,v)->(∃ u,s.heap.get? b=some o/\o.data=.cell (some u)/\aV v u)/\X.s₀.heap.objs.size<=b/\∃ x,X.env.cells.lookup x=some b
 | [],_=>⟨[],⟨λb o v e=>by simp_all,λj hj=>by simp_all,λb hb=>by simp[cQ]at hb,I.ok.inj⟩,λb o v e=>by simp_all⟩
 | j::js,hj=>by
  obtain⟨cv,R,ok⟩:=aCQ I js λB h'=>hj B (AU _ h')
  obtain⟨x,v,l,g,h⟩:=hj j A4
  obtain⟨m,K⟩:=I.loc
  obtain⟨u,r⟩:=K.2 j x v l h.2 (.inr (.inl g))
  rcases r.2 with ⟨M,_⟩|⟨_,c,d,o,D,C⟩
  .grind
  .have f:=I.ok.cab x c h.1 d
   by_cases i:c∈cQ cv
   .obtain ⟨⟨o',a⟩,e⟩:=gM.mp i
    obtain⟨p,B,q⟩:=R.at' c o' a e
    have y:=I.ok.inj x p c d q.2.2.1
    subst y
    refine⟨cv,⟨λb o v e=>?_,λk g=>?_,R.free,R.inj⟩,ok⟩
    .obtain ⟨x,j,h1⟩:=R.at' b o v e
     exact⟨x,j,AU _ h1.1,h1.2⟩
    .rcases AV.mp g with z|z
     .subst z
      obtain⟨⟨G,E,L,J⟩,_⟩:=ok c o' a e
      rw[D]at E;cases E
      rw[C]at L
      have:u=G:=by ext
      subst this
      have n:=aV.inj r.1 J
      subst n
      exact⟨x,c,_,v,l,d,h.2,e⟩
     .exact R.all k z
   .refine ⟨(c,o,v)::cv,⟨λb o' a e=>?_,λk g=>?_,λb hb=>?_,R.inj⟩,λb o' a e=>?_⟩
    .rw[B7]at e
     by_cases hb:b=c
     .subst hb
      simp only[DT]at e
      cases e
      exact⟨x,j,A4,l,d,h.2⟩
     .rw[C6 hb]at e
      obtain⟨x,j,h1⟩:=R.at' b o' a e
      exact⟨x,j,AU _ h1.1,h1.2⟩
    .rcases AV.mp g with z|z
     .subst z
      exact⟨x,c,o,v,l,d,h.2,by rw[B7];simp⟩
     .obtain ⟨p,A,o',a,h1,h2,F,t⟩:=R.all k z
      refine⟨p,A,o',a,h1,h2,F,?_⟩
      rw[B7,C6 (show A≠c from λz=>by rw[z]at t;exact i (gM.mpr ⟨_,t⟩))];exact t
    .have w:b=c\/b∈cQ cv:=by simpa[cQ] using hb
     rcases w with z|z
     .subst z;exact I.freeC x b d
     .exact R.free b z
    .rw[B7]at e
     by_cases hb:b=c
     .subst hb
      simp only[DT]at e
      cases e
      exact⟨⟨u,D,C,r.1⟩,f,x,d⟩
     .rw[C6 hb]at e
      exact ok b o' a e
theorem aFG(I:Inv X ap Z H s){js:L9 Nat}{d:Cv}(R:PubRel X Z H js d)(ok:∀ b o v,d.lookup b=some (o,v)->(∃ u,s.heap.get? b=some o/\o.data=.cell (some u)/\aV v u)/\X.s₀.heap.objs.size<=b/\∃ x,X.env.cells.lookup x=some b) :
  Env0 X.prog X.w X.K X.mg X.base X.A X.stack s (pub d H) where
 frames:=I.ok.frames
 mod:=I.ok.mod
 bs:=λb o e=>⟨(I.bs b o e).1,by
  rw[dD]
  .exact (I.bs b o e).2
  .intro z
   obtain⟨⟨o',v⟩,q⟩:=gM.mp z
   have h1:=(ok b o' v q).2.1
   have h2:=AQ e
   exact absurd (A3 h2 (BB I.ok.bsz h1)) (B0 _)⟩
 bsz:=BB I.ok.bsz I.sz
 funs:=I.stack
 frf:=λb a=>by
  rw[dD]
  .exact I.stkFree b a
  .intro z
   obtain⟨⟨o',v⟩,q⟩:=gM.mp z
   obtain⟨_,h1,x,i⟩:=ok b o' v q
   rcases AV.mp (I.stkSub b a)with f|f
   .exact I.cne x b i f
   .obtain ⟨_,o,h,_⟩:=I.ok.funs.mem f
    exact absurd (A3 (AQ h) h1) (B0 _)
 hok:=λb u e=>by
  by_cases a:b∈cQ d
  .obtain ⟨⟨o,v⟩,q⟩:=gM.mp a
   rw[pF q]at e;cases e
   obtain⟨⟨u,h1,h2,g⟩,_⟩:=ok b o v q
   exact fA.ok g h1 h2
  .rw[dD a]at e
   exact(I.hok b u e).stay (λ_ _ _ q=>q) (λc q=>eD R.free _ _ q) (λc _ q=>eD R.free _ _ q) λc _ q=>eD R.free _ _ q
 bare:=I.bare
def aKE(X:Cx)(js:L9 Nat)(sp:Sp)(E:XK)(t:TA):TE:=λZ H Q=>t Z H λvs H1=>(∀ j∈js,wE X Z j)/\∀ cv,PubRel X Z H1 js cv->sp vs (pub cv H1) (λv H2=>Q v (hid (cQ cv) H2)) (λc e H2=>E c e (hid (cQ cv) H2)/\∀ a,e=some a->a∉cQ cv)
theorem aKF{sp:Sp}{E:XK}{p pos:Pos}{e:Ez}{es:L9 Ez}{t:TA}{js:L9 Nat}(C:Calls X.prog X.w X.K X.mg X.base (CXe X.prog X.w) k x ps sp)(hr:Room k X.A)(o:Gl X x)(hx:fU (CXe X.prog X.w) X E)(z:PA X (e::es) t)(g:autoParam ((x == ("__debug__":Str))=false) z5)
  (he:autoParam (starEach (e::es) X.env=(false,eval e X.env)::starEach es X.env) z3) (hpl:autoParam ((backTo pos (starEach es X.env)).any (·.1)=false) z3):PE X (.Call (.Name x p) (e::es) [] pos) (aKE X js sp E t):=by
 obtain⟨f,fd,F⟩:=C
 intro ap s Z H Q I h
 refine C0 (uB I o F.2.2.1 ?_ g)
 refine C3 I.ok.mod.kin F.2.2.2 (thn (z pos ap s Z H _ I h) λus s1 ⟨vs,H1,a,r,d,q⟩=>⟨a.kIn,?_⟩) he hpl
 obtain⟨n,R,ok⟩:=aCQ a js d
 have b:=aFG a R ok
 have M:us.length=ps.length:=by rw[<-r.length];exact F.1.len _ _ _ _ (q n R)
 have l:=F.2.1 s1 us a.kIn (by simp_all)
 rw[C5]at l
 refine FS (D9 (F.1.run X.A X.stack s1 _ _ us vs _ _ hr b l r (q n R)) λB s' m=>?_)
 cases B with
 | error ev=>
  obtain⟨e,C,od,H',rfl,os,c,un,hok,y,⟨i,T,J,L,j⟩,G,D⟩:=m
  refine hx ap Z H1 s1 _ s' a ⟨e,C,od,hid _ H',rfl,os,c,(aBY R.free b.hok un hok).1,(aBY R.free b.hok un hok).2,?_,⟨i,T,J,L,λt e1=>?_⟩,G⟩
  .rw[bC (D e rfl)];ext
  .exact ⟨iX (j t e1).1,(j t e1).2⟩
 | ok fl=>
  cases fl with
  | ret u=>
   obtain⟨v,H',os⟩:=m
   exact a.after ⟨v,hid _ H',os.1,os.2.1,(aBY R.free b.hok os.2.2.1 os.2.2.2.1).1,(aBY R.free b.hok os.2.2.1 os.2.2.2.1).2,os.2.2.2.2.1,os.2.2.2.2.2⟩
  | next=>assumption
  | brk=>assumption
  | cont=>assumption
end
noncomputable def aCR(Ps:L9 Az)(qs:L9 (Pos×Str)):Hp:=λb=>if b∈Ps then some (.tbl qs)else none
def aCS(mg:Str->O9 V9)(h base:Hz)(T:Hp)(qs:L9 (Pos×Str))(xs:L9 Str):Prop:=
 ∀ x∈xs,∃ c0 P0,T P0=some (.tbl qs)/\Tb mg base c0 P0/\∀ f o fd,mg x=some (.ref f)->h.get? f=some o->o.data=.func fd->fd.code=.ref c0
theorem aKG{w:W9}{mb:Str->O9 V9}{CX:CXT}{fa:Az}{fd:FuncData}{c:S9}{vs:L9 V9}{ns:L9 Int}{qs:L9 (Pos×Str)}{tb:Str->Az×Az}
  (U:∀ x∈xs,CodeHd c.heap (tb x).1 (tb x).2/\c.heap.get? (tb x).2=some (tabObj #[])) (ae:∀ x∈xs,∀ f o fd,mg x=some (.ref f)->c.heap.get? f=some o->o.data=.func fd->fd.code=.ref (tb x).1)
  (ah:∃ bm ob,mg "__builtins__"=some (.ref bm)/\bm≠builtinsNs/\c.heap.get? bm=some ob/\ob.cls=.type "module"/\ob.dict=some builtinsNs/\ob.data=.plain) (hNT:noTabs K=true)
  (KX:K.In c.heap) (Q:c.heap.Ns mainGlobals mg) (hb:c.heap.Ns builtinsNs mb) (ac:∀ x:Str,x≠"__name__"->mb x=bootBuiltins x) (O:c.heap.NoLimit) (hg:c.gens = #[])
  (Z:c.heap.get? a=some {cls:=.type "list",data:=.seq vs.toArray}) (hi:IntsAre vs ns) (hl:ns.length<=sizeLine) (hr:Room k callerA)
  (F:∀ (base:Hz) (T:Hp),K.In base->base.Ns mainGlobals mg->aCS mg c.heap base T qs xs->∃ sp,FnOk P w K mg base CX k fa fd [x] sp/\∀ H:Hp,aD T H->SqL K H a (ns.map V.int)->sp [.ref a] H (λv _=>v=.bl true) λ_ _ _=>False) (hbind:∀ (s:S9) (u:V9),BindsTo s fd ⟨[u],[]⟩ [(x,u)])
  (hCX:∀ H e s',CX [] H c (λ_ _ _=>False) e s'->False) :
  codeAny (model P w) callerA (.call (.ref fa) ⟨[.ref a],[]⟩) (λr s'=>r=.ok (.ret (.bool true))/\OldK c.heap s'.heap/\s'.os=c.os/\AllBare s'.gens) c:=by
 let Ps:=xs.map λx=>(tb x).2
 have A:∀ b∈Ps,c.heap.get? b=some _/\isCodeTable c.heap b:=λb hb=>by
  obtain⟨y,E,rfl⟩:=A1.mp hb
  exact⟨(U y E).2,((U y E).1.tab (U y E).2).isCodeTable⟩
 have I:a∉Ps:=λz=>by simp_all
 have af:∀ b∈Ps,K.lookup b=none:=λb hb=>by
  cases e:K.lookup b with
  | none=>rfl
  | some o=>
   have e2:=KX b o e
   rw[(A b hb).1]at e2
   cases e2
   have h2:=CK.mp hNT (b,_) (PySem.W.mem_of_lookupK e)
   ext
 have D:∀ H:Hp,(∀ b∈Ps,H b=some (.tbl qs))->(∀ b,H b≠none->b=a\/b∈Ps)->(H a=none\/∃ o xs,H a=some (.frz o (.lst xs)))->SqL K H a (ns.map V.int)->HOk P w H c.heap->(H a≠none->K.lookup a=none)->
   codeAny (model P w) callerA (.call (.ref fa) ⟨[.ref a],[]⟩) (λr s'=>r=.ok (.ret (.bool true))/\OldK c.heap s'.heap/\s'.os=c.os/\AllBare s'.gens) c:=by
  intro H hP hA hO hS L hK
  have g:∀ {b:Az} {o:Obj},c.heap.get? b=some o->H b=none->(rX c.heap H).get? b=some o:=λe n=>aMP e n
  have i:∀ {b:Az} {o:Obj},c.heap.get? b=some o->(∀ vs,o.data≠.seq vs)->o≠tabObj #[]->H b=none:=λ{b o} e d d2=>by
   ext
  have aa:∀ {b:Az} {o:Obj} {es:Array DictEntry} {S:Nat},c.heap.get? b=some o->o.data=.dict es S->H b=none:=λ{b o es S} e d=>i e (λvs z=>by rw[d]at z;cases z) λz=>by rw[z]at d;cases d
  have B:∀ {b:Az} {m:Str->O9 V9},c.heap.Ns b m->(rX c.heap H).Ns b m:=λ{b m} o=>by obtain⟨o,es,S,e⟩:=o;exact⟨o,es,S,g e.1 (aa e.1 e.2.1),e.2.1,e.2.2⟩
  have J:K.In (rX c.heap H):=λb o e=>g (KX b o e) (by
   cases q:H b with
   | none=>rfl
   | some u=>
    rcases hA b (by rw[q];simp)with e'|e'
    .grind
    .rw[af b e']at e;cases e)
  have Y:aCS mg c.heap (rX c.heap H) (aCR Ps qs) qs xs:=λy E=>by
   refine⟨(tb y).1,(tb y).2,AJ (A1.mpr ⟨y,E,rfl⟩),⟨?_,?_⟩,ae y E⟩
   .obtain ⟨o,vs,M,tf,G,tg,X,R,tt,e1,r1,r2⟩:=(U y E).1
    exact⟨o,vs,M,tf,G,tg,X,R,tt,g e1 (i e1 (λvs z=>by rw[r2.1]at z;cases z) λz=>by rw[z]at r1;cases r1),r1,r2.1,r2.2⟩
   .grind
  have ag:aD (aCR Ps qs) H:=λb o e=>by
   unfold aCR at e
   ext
  obtain⟨sp,FO⟩:=F _ _ J (B Q) Y
  refine D9 (FO.1.run callerA [] c H ⟨[.ref a],[]⟩ [.ref a] [.ref a] _ _ hr (⟨rfl,(⟨J,B Q,⟨mb,B hb,ac⟩,let ⟨mc,h1,h2⟩:=O;⟨mc,B h1,h2⟩⟩),λb o e=>aQG e,D8 (aJI _ _),trivial,λb hb=>absurd (show b∈([]:L9 Az)from hb) (by simp),L,.of_eq hg⟩) (hbind c (.ref a)) (.cons rfl .nil) (FO.2 H ag hS)) λr s' h=>?_
  cases r with
  | error e=>exact(hCX H e s' h).elim
  | ok fl=>
   cases fl with
   | next=>exact False.elim h
   | brk=>exact False.elim h
   | cont=>exact False.elim h
   | ret u=>
    obtain⟨v,H',os,N,un,l,r',q⟩:=h
    subst q
    obtain rfl:u=Value.bool true:=r'
    have kept:∀ b o,c.heap.get? b=some o->b∉Ps->s'.heap.get? b=some o:=λb o e hb=>by
     cases q:H b with
     | none=>exact un.keep b o e q (by intro z;exact absurd (show b∈([]:L9 Az)from z) (by simp)) (by simp)
     | some u=>
      rcases hA b (by rw[q];simp)with z|z
      .subst z
       rcases hO with z|⟨ob,xs,z⟩
       .grind
       .obtain ⟨e1,_⟩:=L b _ z
        obtain⟨e2,_⟩:=l b _ (un.frzs b ob _ z)
        ext
      .grind
    refine⟨rfl,⟨λb o e=>?_,λb o e=>?_⟩,os,N⟩
    .by_cases hb:b∈Ps
     .obtain ⟨ps,e2,_⟩:=(show dF P w H' s'.heap b (.tbl qs)from l b _ (un.tbls b _ (hP b hb)))
      have e1:=(A b hb).1
      rw[e]at e1;cases e1
      exact .inr (.inl ⟨(A b hb).2,rfl,#[],ps,rfl,by rw[Array.empty_append];exact e2⟩)
     .exact .inl (kept b o e hb)
    .by_cases hb:b∈Ps
     .obtain ⟨ps,e2,_⟩:=(show dF P w H' s'.heap b (.tbl qs)from l b _ (un.tbls b _ (hP b hb)))
      ext
     .grind
 have t:∀ (H:Hp) b,b∈Ps->dF P w H c.heap b (.tbl qs):=λH b hb=>⟨#[],(A b hb).1,trivial,λp _=>.inl rfl⟩
 cases hk:K.lookup a with
 | some o=>
  have e:=KX a o hk
  rw[Z]at e
  cases e
  refine D (aCR Ps qs) (λb hb=>AJ hb) (λb z=>?_) (.inl (AL I)) (.inr ⟨_,vs.toArray,_,hk,rfl,rfl,rfl,by rw[CA,hi.length];exact hl,by simpa using (sC hi)⟩) (λb u z=>?_) λz=>absurd (AL I) z
  .by_cases hb:b∈Ps
   .grind
   .exact absurd (AL hb) z
  .by_cases hb:b∈Ps
   .have C:=(AJ hb).symm.trans z
    cases C
    exact t _ b hb
   .have C:=(AL hb).symm.trans z
    cases C
 | none=>
  refine D (λb=>if b=a then some (.frz {cls:=.type "list",data:=.seq vs.toArray} (.lst (ns.map V.int)))else aCR Ps qs b) (λb hb=>?_) (λb z=>?_) (.inr ⟨_,_,AJ rfl⟩) (.inl (.inr ⟨{cls:=.type "list",data:=.seq vs.toArray},AJ rfl⟩)) (λb u z=>?_) λ_=>hk
  .rw[AL (show ¬ b=a from λz=>I (by rw[<-z];exact hb))];exact AJ hb
  .by_cases hb:b=a
   .exact .inl hb
   .rw[AL hb]at z
    by_cases j:b∈Ps
    .exact .inr j
    .exact absurd (AL j) z
  .by_cases hb:b=a
   .have C:=(AJ hb).symm.trans z
    cases C
    subst hb
    exact⟨Z,by rw[AC];exact hl,vs,_,(sC hi),Z⟩
   .have C:=(AL hb).symm.trans z
    by_cases j:b∈Ps
    .have z2:=(AJ j).symm.trans C
     cases z2
     exact t _ b j
    .have z2:=(AL j).symm.trans C
     cases z2
theorem aQ2{p:P9}{e:L9 Str}{g:ExcName->O9 V9}{l:Str->O9 V9}{h:Hz}(T:Top p e g mg l h)(xs:L9 Str)(hx:∀ x∈xs,∃ d∈recsOf p,d.name=x) :
  ∃ tb:Str->Az×Az,(∀ x∈xs,CodeHd h (tb x).1 (tb x).2/\h.get? (tb x).2=some (tabObj #[]))/\∀ x∈xs,∀ f o fd,mg x=some (.ref f)->h.get? f=some o->o.data=.func fd->fd.code=.ref (tb x).1:=by
 have b:∀ x,∃ t:Az×Az,x∈xs->(CodeHd h t.1 t.2/\h.get? t.2=some _)/\∀ f o fd,mg x=some (.ref f)->h.get? f=some o->o.data=.func fd->fd.code=.ref t.1:=λx=>by
  by_cases k:x∈xs
  .obtain ⟨d,j,rfl⟩:=hx x k
   obtain⟨a,o,fd,c,m,h1⟩:=T.tab d j
   refine⟨(c,m),λ_=>⟨⟨PySem.W.CodeHd.of h1.2.2.2.2.1 h1.2.2.2.2.2,h1.2.2.2.2.2.2⟩,λf o' i e1 e2 n=>?_⟩⟩
   ext
  simp_all
 exact⟨λx=>(b x).choose,λx hx=>((b x).choose_spec hx).1,λx hx=>((b x).choose_spec hx).2⟩
theorem aNB{l:OpenLaw}{n:Nat}{c:L9 Str}{E:(Str->O9 V9)->Hz->Prop}{B:W9->Hz->Prop}{d:DefRec}{K:Params->Frag}{CX:W9->CXT}
  (r:∀ x∈xs,∃ d∈recsOf q,d.name=x) (hNT:∀ w:W9,noTabs (K w.params)=true)
  (M:l.most=some n) (z:n<=sizeLine) (y:d.params.defaults=[]) (hr:Room k callerA)
  (C:∀ (w:W9) (h:Hz),B w h->(K w.params).In h)
  (F:∀ (w:W9) (mg:Str->O9 V9) (fa:Az) (h:Hz),(K w.params).In h->h.Ns mainGlobals mg->mg d.name=some (.ref fa)->
   ∃ fd:FuncData,(∀ (s:S9) (u:V9),BindsTo s fd ⟨[u],[]⟩ [(x,u)]) /\
    ∀ (base:Hz) (T:Hp),(K w.params).In base->base.Ns mainGlobals mg->aCS mg h base T qs xs->∃ sp,FnOk l.prog w (K w.params) mg base (CX w) k fa fd [x] sp /\
     ∀ (H:Hp) (a:Az) (ns:L9 Int),ns.length<=n->aD T H->SqL (K w.params) H a (ns.map V.int)->sp [.ref a] H (λv _=>v=.bl true) λ_ _ _=>False)
  (A:∀ (w:W9) (H:Hp) (s:S9) (e:V9) (s':S9),CX w [] H s (λ_ _ _=>False) e s'->False) :
  WalkO q c E B l.row.toRowW d [] (λf vs=>PySem.call f vs):=by
 refine _c.attach_call M y λw s₀ j mg R fa o pm cd doc a vs ns G Yq Q P I t p i m J=>?_
 obtain⟨fd,L,U⟩:=F w mg fa _ (C w _ Yq) G.T.g t
 obtain⟨tb,D⟩:=aQ2 G.T xs r
 refine aKG (qs:=qs) D.1 D.2 G.T.bmain (hNT w) (C w _ Yq) G.T.g G.T.b G.T.builtins G.T.nolimit J p i (BB m z) hr (λbase T N O S=>?_) L λH e s'=>A w H j e s'
 ext
end _a
variable{Q:V9->S9->Prop}{n c:Nat}{q:Int}{is:L9 Nat}
namespace _f
mutual
noncomputable def fB:D4->Bool
 | .none=>true
 | .int _=>true
 | .str x=>PyData.strOk x
 | .tuple xs=>dX xs
 | _=>false
noncomputable def dX:L9 D4->Bool
 | []=>true
 | x::t=>fB x && dX t
end
mutual
noncomputable def uK(w:W9):D4->Int
 | .none=>reduceHash 0xFCA86420
 | .int i=>hashInt i
 | .str x=>hashStr w x
 | .tuple xs=>reduceHash (Builtin.Tuple.tupleHashOf (pG w xs))
 | _=>0
noncomputable def pG(w:W9):L9 D4->L9 Int
 | []=>[]
 | x::t=>uK w x::pG w t
end
mutual
noncomputable def sI:D4->Nat
 | .tuple xs=>sJ xs+1
 | _=>1
noncomputable def sJ:L9 D4->Nat
 | []=>0
 | x::t=>sI x+sJ t
end
mutual
theorem pH:∀ {d:D4},fB d=true->d.canLay0=true
 | .none,_=>rfl
 | .int _,_=>rfl
 | .str x,h=>h
 | .tuple xs,h=>by
  have h':dX xs=true:=h
  exact aCT h'
theorem aCT:∀ {xs:L9 D4},dX xs=true->PyData.canLayAll0 xs=true
 | [],_=>rfl
 | x::t,h=>by
  have h':(fB x && dX t)=true:=h
  rw[BJ]at h'
  show(x.canLay0 && PyData.canLayAll0 t)=true
  rw[pH h'.1,aCT h'.2];rfl
end
mutual
theorem zL:∀ {d e:D4},fB d=true->fB e=true->(PyData.eqv d e=true↔d=e)
 | .none,e,_,he=>by cases e<;>simp[PyData.eqv]<;>cases he
 | .int i,e,_,he=>by cases e<;>simp[PyData.eqv]<;>cases he
 | .str x,e,_,he=>by cases e<;>simp[PyData.eqv]<;>cases he
 | .tuple xs,e,hd,he=>by
  have hd':dX xs=true:=hd
  cases e with
  | tuple ys=>
   have a:dX ys=true:=he
   have:=aCU hd' a
   show PyData.eqvAll xs ys=true↔_
   rw[this]
   exact⟨λz=>by rw[z],λz=>by cases z;rfl⟩
  | _=>simp[PyData.eqv]<;>cases he
theorem aCU:∀ {xs ys:L9 D4},dX xs=true->dX ys=true->(PyData.eqvAll xs ys=true↔xs=ys)
 | [],ys,_,_=>by cases ys<;>simp[PyData.eqvAll]
 | x::t,ys,hx,hy=>by
  have hx':(fB x && dX t)=true:=hx
  rw[BJ]at hx'
  cases ys with
  | nil=>simp[PyData.eqvAll]
  | cons y u=>
   have c:(fB y && dX u)=true:=hy
   rw[BJ]at c
   rw[PyData.eqvAll,BJ,zL hx'.1 c.1,aCU hx'.2 c.2]
   exact⟨λ⟨a,b⟩=>by rw[a,b],λz=>by cases z;exact⟨rfl,rfl⟩⟩
end
noncomputable instance decPyData:DecidableEq D4:=λa b=>Classical.propDecidable (a=b)
theorem aQ3{d e:D4}(b:fB d=true)(a:fB e=true):PyData.eqv d e=decide (d=e):=by
 by_cases h:d=e
 .rw[A2 h,(zL b a).mpr h]
 .rw[BA h]
  cases q:PyData.eqv d e with
  | false=>rfl
  | true=>exact absurd ((zL b a).mp q) h
def mF(prog:P9)(w:W9)(E:V9->S9->Prop)(d:D4):Prop:=∀ (v:V9) (as:L9 Az) (A:U9) (s:S9) (Q:Int->S9->Prop),fB d=true->Reads s.heap v d as->A.units+d.depth < cLine->Q (uK w d) {s with toks:=s.toks+sI d}->
 wpAny (model prog w) A (pyHash v) Q E s
theorem aU8{prog:P9}{w:W9}{E:V9->S9->Prop}:∀ (xs:L9 D4) (ih:∀ x∈xs,mF prog w E x) (vs:L9 V9) (as:L9 Az) (A:U9) (s:S9) (b:Array Int) (Q:Array Int->S9->Prop),dX xs=true->ReadsAll s.heap vs xs as->A.units+PyData.depthAll xs < cLine->
  (∀ b',b'.toList=b.toList++pG w xs->Q b' {s with toks:=s.toks+sJ xs})->
  wpAny (model prog w) A (forIn vs b λx r=>do let h <-pyHash x;pure PUnit.unit;pure (ForInStep.yield (r.push h))) Q E s:=by
 intro xs
 induction xs with
 | nil=>
  intro ih vs as A s b Q _ x _ h
  cases x
  exact AH (h b (by simp[pG]))
 | cons k xs ih0=>
  intro ih vs as A s b Q f x d h
  cases x with
  | @cons v vs _ _ as bs x1 x2=>
   have a:(fB k && dX xs)=true:=f
   rw[BJ]at a
   have e:A.units+max k.depth _ < cLine:=d
   rw[DJ]
   refine AA (AA (ih k A4 _ _ A s _ a.1 x1 (by ext) ?_))
   refine AA (AH (AH ?_))
   refine ih0 (λx g=>ih x (AU _ g)) _ _ A {s with toks:=s.toks+sI k} _ Q a.2 x2 (by ext) λb' c=>?_
   have q:=h b' (by rw[c];simp[pG])
   rw[show sJ _=sI k+sJ xs by rfl,<-Nat.add_assoc]at q
   ext
theorem aNC{prog:P9}{w:W9}{E:V9->S9->Prop}(i:Int):mF prog w E (.int i):=λv a A s Q _ r _ h=>by
 cases r
 exact wpAny_pyHash_int h
theorem aND{prog:P9}{w:W9}{E:V9->S9->Prop}(i:Str):mF prog w E (.str i):=λv a A s Q _ r _ h=>by
 cases r
 exact wpAny_pyHash_str h
theorem aNE{prog:P9}{w:W9}{E:V9->S9->Prop}(xs:L9 D4)(d:∀ x∈xs,mF prog w E x):mF prog w E (.tuple xs):=λv c A s Q i r f h=>by
 cases r with
 | @tuple a o vs n _ c h1 h2 h3 h4=>
  have g:A.units+(PyData.depthAll xs+1) < cLine:=f
  refine pyHash_slot ⟨o,h1,h2⟩ F.slot_tuple_hash F.entry_tuple_hash (F.args_tuple_hash_1 _) (beq_builtin_none _) (.inr (by ext)) ?_
  show wpAny _ _ (Builtin.Tuple.tupleItemsOf _ >>= _) _ _ s
  refine AA (wpAny_tupleItemsOf h1 h3 ?_)
  refine AA ?_
  rw[<-Array.forIn_toList]
  refine aU8 xs d vs.toList c A.in1 s #[] _ i h4 (by ext) λb e=>?_
  show wpAny _ _ (retInt _) _ _ _
  rw[e]
  exact AA (wpAny_mkInt (AH ⟨_,_,rfl,h⟩))
theorem aH0(w:W9):uK w .none=reduceHash 0xFCA86420:=by rfl
theorem aNF{prog:P9}{w:W9}{E:V9->S9->Prop}:mF prog w E .none:=λv b A s Q _ r c h=>by
 rw[aH0]at h
 generalize a:reduceHash 0xFCA86420=g at h
 cases r
 refine pyHash_slot rfl F.slot_NoneType_hash F.entry_NoneType_hash (F.args_NoneType_hash_1 _) (beq_builtin_none _) (.inr (by ext)) (AA (AH (AA (wpAny_mkInt (AH ⟨0xFCA86420,_,rfl,?_⟩)))))
 rw[a]
 exact h
theorem aU9{prog:P9}{w:W9}{E:V9->S9->Prop}:∀ (n:Nat) (d:D4),sizeOf d<=n->mF prog w E d:=by
 intro n
 induction n with
 | zero=>intro d h;cases d<;>simp at h
 | succ n ih=>
  intro d h
  cases d with
  | none=>exact aNF
  | int i=>exact aNC i
  | str x=>exact aND x
  | tuple xs=>
   refine aNE xs λx e=>ih x ?_
   have:=List.sizeOf_lt_of_mem e
   ext
  | bool b=>exact λv c A s Q a=>nomatch a
  | list xs=>exact λv c A s Q a=>nomatch a
  | dict xs=>exact λv c A s Q a=>nomatch a
theorem aVA{prog:P9}{w:W9}{E:V9->S9->Prop}(d:D4):mF prog w E d:=aU9 _ d (AM _)
theorem aQ4{M:Model}{A:U9}{E:V9->S9->Prop}{s:S9}:∀ (n:Nat) (d:D4) (v:V9) (as:L9 Az) (Q:Bool->S9->Prop),fB d=true->Reads s.heap v d as->d.depth<=n->Q true s->wpAny M A (eqIsQuiet n v) Q E s:=by
 intro n
 induction n with
 | zero=>
  intro d v as Q c r f h
  cases d with
  | none=>cases r;exact AH h
  | int i=>cases r;exact AH h
  | str x=>cases r;exact AH h
  | tuple xs=>
   have g:PyData.depthAll xs+1<=0:=f
   ext
  | bool b=>exact nomatch c
  | list xs=>exact nomatch c
  | dict xs=>exact nomatch c
 | succ n ih=>
  intro d v as Q c r f h
  cases d with
  | none=>cases r;exact AH h
  | int i=>cases r;exact AH h
  | str x=>cases r;exact AH h
  | bool b=>exact nomatch c
  | list xs=>exact nomatch c
  | dict xs=>exact nomatch c
  | tuple xs=>
   cases r with
   | @tuple a o vs m _ as h1 h2 h3 h4=>
    have g:PyData.depthAll xs+1<=n+1:=f
    unfold eqIsQuiet
    refine AA (wpAny_specialOf (⟨o,h1,h2⟩) F.slot_tuple_eq.lookup ?_)
    refine AA (wpAny_isInstance (⟨o,h1,h2⟩) isSubtype_tuple_tuple ?_)
    refine AA (DB h1 h3 ?_)
    refine AA ?_
    rw[<-Array.forIn_toList]
    refine wpAny_forIn_list _ (λrest r s'=>r.1=none/\s'=s/\∃ ys bs,dX ys=true/\PyData.depthAll ys<=n/\ReadsAll s.heap rest ys bs) _ ?_ ?_ _ _ ⟨rfl,rfl,xs,_,c,by ext,h4⟩
    .rintro v rest r s' ⟨hr,rfl,ys,bs,hy,hdy,ry⟩
     cases ry with
     | @cons _ _ y yt cs ds r1 r2=>
      have e:(fB y && dX yt)=true:=hy
      rw[BJ]at e
      have j:max y.depth _<=n:=hdy
      refine AA (ih y v _ _ e.1 r1 (by ext) ?_)
      exact AH ⟨rfl,rfl,yt,_,e.2,by ext,r2⟩
    .rintro ⟨r1,r2⟩ s' ⟨hr,rfl,_⟩
     subst hr
     exact AH h
def aZQ(h:Hz)(d:D4)(a:Az):Prop:=fB d=true/\d.depth<=8/\∃ as,Reads h (.ref a) d as
theorem aH1{h h':Hz}{a:Az}{o:Obj}{es:Array DictEntry}{ep:Nat}(q:h.get? a=some o)(m:o.data=.dict es ep)(p:Heap.SameBut a h h'){v:V9}{d:D4}{e:L9 Az}(c:fB d=true)(r:Reads h v d e):Reads h' v d e:=by
 refine Reads.rec (motive_1:=λv d e _=>fB d=true->Reads h' v d e) (motive_2:=λvs xs e _=>dX xs=true->ReadsAll h' vs xs e) ?_ ?_ ?_ ?_ ?_ ?_ ?_ ?_ ?_ r c
 .exact λ_=>.none
 .intro b c;cases c
 .exact λi t _=>.int i t
 .exact λi t _=>.str i t
 .intro b o' vs n xs e h1 h2 f l k c;cases c
 .intro b o' vs n xs e h1 h2 f l k c
  exact .tuple ((p.2 b (λz=>by subst z;rw[q]at h1;cases h1;rw[m]at f;cases f)).trans h1) h2 f (k c)
 .intro b o' s n u e bs h1 h2 f l w g j c;cases c
 .exact λ_=>.nil
 .intro v vs d ds e bs r1 r2 g j c
  exact .cons (g ((BJ ..).mp c).1) (j ((BJ ..).mp c).2)
def j6(prog:P9)(w:W9):HeapKind prog w D4 where
 is:=aZQ
 hash:=uK w
 draws:=sI
 room:=λA=>A.units+9 < cLine
 inj:=λ{h a x y} hx hy=>by
  obtain⟨k1,_,as,r1⟩:=hx
  obtain⟨k2,_,bs,r2⟩:=hy
  exact PySem.SeqAt.Reads.unique x y _ _ _ (pH k1) r1 r2
 keeps:=λ{h h' k a d o es ep} hx ho hd hs=>by
  obtain⟨k1,k2,as,r1⟩:=hx
  exact⟨k1,k2,as,aH1 ho hd hs k1 r1⟩
 pyHash:=λ{A E s k a Q} hu hk h=>by
  obtain⟨k1,k2,as,r1⟩:=hk
  exact aVA k _ as A s Q k1 r1 (by ext) h
 eqBool:=λ{A E s x y a b Q} hu hx hy h=>by
  obtain⟨k1,k2,as,r1⟩:=hx
  obtain⟨l1,l2,bs,r2⟩:=hy
  refine PySem.SeqAt.eqAt_reads x y A s _ _ as bs r1 r2 (pH k1) (pH l1) ?_ prog w E Q ?_
  .have:min x.depth y.depth<=8:=BB (GM _ _) k2
   ext
  .rw[aQ3 k1 l1];exact h
 quiet:=λ{A E s k a Q} hk h=>by
  obtain⟨k1,k2,as,r1⟩:=hk
  exact aQ4 8 k _ as Q k1 r1 k2 h
abbrev Ent:=D4×V×V
def uL(w:W9)(p:Ent)(en:DictEntry):Prop:=en.hash=uK w p.1/\aV p.2.1 en.key/\aV p.2.2 en.val
def gN(w:W9)(a:Az)(es:L9 Ent)(ep:Nat):HO:=.ext λh=>(a == sysModules)=false/\∃ o ar,h.get? a=some o/\o.ExactDict/\o.data=.dict ar ep/\Paired (uL w) es ar.toList
theorem kG{P:P9}{w:W9}{H:Hp}{h:Hz}{a:Az}{es:L9 Ent}{ep:Nat}(d:(a == sysModules)=false)(b:∃ o ar,h.get? a=some o/\o.ExactDict/\o.data=.dict ar ep/\Paired (uL w) es ar.toList):dF P w H h a (gN w a es ep):=
 ⟨⟨d,b⟩,let ⟨o,_,e,_⟩:=b;⟨o,e⟩,λh1 h2 q c=>by obtain⟨q,o,es,e⟩:=q;exact⟨q,o,es,c _ e.1,e.2⟩⟩
noncomputable def g8:D4->Bool
 | .tuple xs=>fB (.tuple xs) && decide ((PyData.tuple xs).depth<=8)
 | _=>false
noncomputable def sK:D4->Bool
 | .int _=>true
 | .str _=>true
 | _=>false
def bU(k:D4)(ks:L9 D4):Bool:=(g8 k && ks.all g8) || (sK k && ks.all sK)
theorem aQ5{d:D4}(h:g8 d=true):∃ xs,d=.tuple xs/\fB d=true/\d.depth<=8:=by
 cases d with
 | tuple xs=>
  have h':(fB _ && decide _)=true:=h
  ext
 | _=>cases h
def iQ:Key->D4
 | .inl i=>.int i
 | .inr x=>.str x
theorem aFH{d:D4}(h:sK d=true):∃ k,d=iQ k:=by
 cases d with
 | int i=>exact⟨.inl i,rfl⟩
 | str i=>exact⟨.inr i,rfl⟩
 | _=>cases h
theorem aA6{a b:Key}(h:iQ a=iQ b):a=b:=by
 cases a<;>cases b<;>cases h<;>rfl
theorem aFI{K:Frag}{H:Hp}{v:V}{k:Key}(h:DatV K H v (iQ k)):v=kV k:=by
 cases k with
 | inl i=>exact h.int_of
 | inr x=>exact h.str_of
theorem aCV{P:P9}{w:W9}(k:Key):uK w (iQ k)=(dP P w).hash k:=by
 cases k with
 | inl i=>rfl
 | inr x=>rfl
def zM:Ent->(D4×Az×V9)->Prop:=λe x=>e.1=x.1/\e.2.1=.ref x.2.1/\aV e.2.2 x.2.2
def zN:Ent->(Key×V9)->Prop:=λe x=>e.1=iQ x.1/\e.2.1=kV x.1/\aV e.2.2 x.2
theorem aKH{P:P9}{w:W9}:∀ {es:L9 Ent} {ens:L9 DictEntry},Paired (uL w) es ens->(∀ e∈es,∃ b,e.2.1=.ref b)->∃ xs,ens=xs.map (entryOfKey (j6 P w))/\Paired zM es xs
 | _,_,.nil,_=>⟨[],rfl,.nil⟩
 | e::es,en::ens,.cons h t,hb=>by
  obtain⟨xs,h1⟩:=aKH (P:=P) t λe j=>hb e (AU _ j)
  obtain⟨b,a⟩:=hb e A4
  obtain⟨k,f,g⟩:=h
  rw[a]at f
  obtain⟨d,i,c⟩:=en
  subst f k
  exact⟨(e.1,b,c)::xs,by rw[h1.1];rfl,.cons ⟨rfl,a,g⟩ h1.2⟩
theorem qM{P:P9}{w:W9}:∀ {es:L9 Ent} {xs:L9 (D4×Az×V9)},Paired zM es xs->Paired (uL w) es (xs.map (entryOfKey (j6 P w)))
 | _,_,.nil=>.nil
 | _,_,.cons h t=>.cons ⟨by rw[h.1];rfl,by rw[h.2.1];rfl,h.2.2⟩ (qM t)
theorem aKI{P:P9}{w:W9}:∀ {es:L9 Ent} {ens:L9 DictEntry},Paired (uL w) es ens->(∀ e∈es,∃ k,e.1=iQ k/\e.2.1=kV k)->∃ xs,Pairs (dP P w) ens xs/\Paired zN es xs/\∀ en∈ens,∃ k,(dP P w).is k en.key=true/\en.hash=(dP P w).hash k
 | _,_,.nil,_=>⟨[],.nil,.nil,λ_ h=>by cases h⟩
 | e::es,en::ens,.cons h t,hb=>by
  obtain⟨xs,h1⟩:=aKI (P:=P) t λe d=>hb e (AU _ d)
  obtain⟨k,a⟩:=hb e A4
  obtain⟨f,g⟩:=h
  refine⟨(k,en.val)::xs,.cons (aHY (by simp_all)) rfl h1.1,.cons ⟨a.1,a.2,g.2⟩ h1.2.1,λb c=>?_⟩
  rcases AV.mp c with z|z
  · subst z; exact⟨k, (aHY (by simp_all)), by rw [f, a.1, aCV ]⟩
  · exact h1.2.2 b z
theorem aQ6{P:P9}{w:W9}{k:Key}{v:V9}(h:(dP P w).is k v=true):aV (kV k) v:=by
 rcases keyIs_shape h with ⟨i,t,rfl,rfl⟩|⟨x,t,rfl,rfl⟩
 all_goals exact⟨t,rfl⟩
theorem qN{P:P9}{w:W9}:∀ {es:L9 Ent} {xs:L9 (Key×V9)} {ens:L9 DictEntry},Paired zN es xs->Pairs (dP P w) ens xs->(∀ en∈ens,∃ k,(dP P w).is k en.key=true/\en.hash=(dP P w).hash k)->Paired (uL w) es ens
 | _,_,_,.nil,.nil,_=>.nil
 | _,_,_,.cons h t,.cons p1 p2 ps,hk=>by
  obtain⟨k,hk1⟩:=hk _ A4
  obtain rfl:=(dP P w).inj _ _ _ hk1.1 p1
  refine .cons ⟨by rw[hk1.2,h.1,aCV ],by rw[h.2.1];exact aQ6 hk1.1,by rw[p2];exact h.2.2⟩ (qN t ps λen a=>hk en (AU _ a))
def atE(es:L9 Ent)(k:D4):O9 V:=(es.find? λe=>decide (e.1=k)).map (·.2.2)
def oW(es:L9 Ent)(k:D4)(kv v:V):L9 Ent:=if (atE es k).isSome then es.map (λe=>if e.1=k then(e.1,e.2.1,v)else e)else es++[(k,kv,v)]
theorem pI{k:D4}:∀ {es:L9 Ent} {xs:L9 (D4×Az×V9)},Paired zM es xs->lG (atE es k) ((atKey xs k).map (·.2))
 | _,_,.nil=>trivial
 | e::es,x::xs,.cons h t=>by
  have ih:=pI (k:=k) t
  unfold atE atKey at ih ⊢
  rw[C7,C7,h.1]
  by_cases q:x.1=k
  · rw [A2 q]; exact h.2.2
  · rw [BA q]; ext
theorem pJ{k:Key}:∀ {es:L9 Ent} {xs:L9 (Key×V9)},Paired zN es xs->lG (atE es (iQ k)) (valueAt xs k)
 | _,_,.nil=>trivial
 | e::es,x::xs,.cons h t=>by
  have ih:=pJ (k:=k) t
  unfold atE valueAt at ih ⊢
  rw[C7,C7,h.1]
  by_cases q:x.1=k
  · rw [A2 q, A2 (by rw [q])]; exact h.2.2
  · rw [BA q, BA (λz => q (aA6 z))]; ext
theorem kH{o:O9 V}{u:O9 V9}(h:lG o u):o.isSome=u.isSome:=by
 cases o<;>cases u<;>first|rfl|exact h.elim
theorem qO{α β:Type}{f:α->β->Prop}{g:α->α}{k:β->β}(hg:∀ a b,f a b->f (g a) (k b)):∀ {xs:L9 α} {ys:L9 β},Paired f xs ys->Paired f (xs.map g) (ys.map k)
 | _,_,.nil=>.nil
 | _,_,.cons h t=>.cons (hg _ _ h) (qO hg t)
theorem qP{α β:Type}{f:α->β->Prop}{a:α}{b:β}(h:f a b):∀ {xs:L9 α} {ys:L9 β},Paired f xs ys->Paired f (xs++[a]) (ys++[b])
 | _,_,.nil=>.cons h .nil
 | _,_,.cons q t=>.cons q (qP h t)
theorem aH2{k:D4}{b:Az}{v:V}{u:V9}{es:L9 Ent}{xs:L9 (D4×Az×V9)}(r:aV v u)(h:Paired zM es xs):Paired zM (oW es k (.ref b) v) (storedH xs k b u):=by
 have q:=kH (pI (k:=k) h)
 rw[FR]at q
 unfold oW storedH
 rw[q]
 cases(atKey xs k).isSome with
 | true=>
  refine qO (λe x a=>?_) h
  unfold putAt
  rw[a.1]
  by_cases z:x.1=k
  · rw [AJ z, AJ z]; exact⟨rfl, a.2.1, r⟩
  ext
 | false=>exact qP ⟨rfl,rfl,r⟩ h
theorem aPQ{k:Key}:∀ {xs:L9 (Key×V9)},xs.any (λkv=>decide (kv.1=k))=(valueAt xs k).isSome
 | []=>rfl
 | x::xs=>by
  have ih:=aPQ (k:=k) (xs:=xs)
  unfold valueAt at ih ⊢
  rw[List.any_cons,C7]
  by_cases q:x.1=k
  · rw [A2 q]; rfl
  · rw [BA q]; exact ih
theorem aH3{k:Key}{v:V}{u:V9}{es:L9 Ent}{xs:L9 (Key×V9)}(r:aV v u)(h:Paired zN es xs):Paired zN (oW es (iQ k) (kV k) v) (stored xs k u):=by
 unfold oW stored
 rw[(kH (pJ (k:=k) h)),aPQ]
 cases(valueAt xs k).isSome with
 | true=>
  refine qO (λe x a=>?_) h
  by_cases z:x.1=k
  · rw [AJ z, AJ (by rw [a.1, z])]; exact⟨by rw [a.1], a.2.1, r⟩
  · rw [AL z, AL (λy => z (aA6 (a.1.symm.trans y)))]; ext
 | false=>exact qP ⟨rfl,rfl,r⟩ h
section
variable{X:Cx}{ap:L9 (Az×Obj)}{Z:_a.St}{H:Hp}{s:S9}{a:Az}{es:L9 Ent}{k:D4}{kv v:V}{ku u:V9}{A:U9}{E:V9->S9->Prop}
structure DicAt(X:Cx)(H:Hp)(a:Az)(es:List Ent)(k:D4)(kv:V):Prop where
 o:∃ ep,H a=some (gN X.w a es ep)
 ks:∀ e∈es,DatV X.K H e.2.1 e.1
 nd:(es.map (·.1)).Nodup
 dk:DatV X.K H kv k
 one:bU k (es.map (·.1))=true
theorem xV{f:α->β->Prop}{y:β}:∀ {xs:L9 α} {ys:L9 β},Paired f xs ys->y∈ys->∃ x,x∈xs/\f x y
 | _,_,.nil,h=>by cases h
 | _,_,.cons q t,h=>by
  rcases AV.mp h with z|z
  .grind
  .obtain ⟨x,h1⟩:=xV t z
   ext
theorem qQ{γ:Type}{f:α->β->Prop}{g:α->γ}{k:β->γ}(h:∀ a b,f a b->g a=k b):∀ {xs:L9 α} {ys:L9 β},Paired f xs ys->xs.map g=ys.map k
 | _,_,.nil=>rfl
 | _,_,.cons q t=>by rw[AW,AW,h _ _ q,qQ h t]
theorem aA7{f:α->β}:∀ {xs:L9 α},(xs.map f).Nodup->xs.Nodup
 | [],_=>DO
 | x::t,h=>by
  rw[AW,CO]at h
  exact CO.mpr ⟨λz=>h.1 (DF z),aA7 h.2⟩
theorem DicAt.cases (D : DicAt X H a es k kv) (I : Inv X ap Z H s) (M : aV kv ku) : (a == sysModules) = false /\
    ((∃ b xs, kv = .ref b /\ ku = .ref b /\ Paired zM es xs /\ (j6 X.prog X.w).is s.heap k b /\ s.heap.DictOfH (j6 X.prog X.w) a xs) \/
     (∃ kk xs, k = iQ kk /\ kv = kV kk /\ Paired zN es xs /\ (dP X.prog X.w).is kk ku = true /\ s.heap.DictOf (dP X.prog X.w) a xs)) := by
  obtain⟨F, O⟩ := D.o
  obtain⟨⟨t, o, C, h1, h2, A, B⟩, _, _⟩ := ((I.hok a _ O))
  refine⟨t, ?_⟩
  have f := D.one
  unfold bU at f
  rw [DL, BJ, BJ, CK, CK]at f
  rcases f with ⟨p, m⟩ | ⟨p, m⟩
  · have j : ∀ d v, g8 d = true -> DatV X.K H v d -> ∃ i, v = .ref i /\ (j6 X.prog X.w).is s.heap d i := λd v t E => by
      obtain⟨ws, rfl, y⟩ := aQ5 t
      obtain⟨i, vs, rfl, _, _⟩ := E.tup_of
      obtain⟨G, r⟩ := E.reads I (pH y.1) rfl
      exact⟨i, rfl, y.1, y.2, G, r⟩
    obtain⟨b, rfl, n⟩ := j _ _ p D.dk
    cases((M))
    obtain⟨xs, c⟩ := aKH B λe g => by
      obtain⟨i, e1⟩ := j e.1 e.2.1 (m _ (DF g)) (D.ks e g)
      exact⟨i, e1.1⟩
    refine .inl ⟨b, xs, rfl, rfl, c.2, n, o, C, F, h1, h2, A, c.1, λx L => ?_, ?_⟩
    · obtain⟨e, g⟩ := xV c.2 L
      obtain⟨i, e1, q⟩ := j e.1 e.2.1 (m _ (DF g.1)) (D.ks e g.1)
      rw [g.2.2.1]at e1
      cases e1
      rw [<- g.2.1]; ext
    · rw [<- qQ (λa b h => h.1) c.2]; exact D.nd
  · obtain⟨kk, rfl⟩ := aFH p
    have z := aFI D.dk
    obtain⟨xs, c⟩ := aKI B λe g => by
      obtain⟨N, l⟩ := aFH (m _ (DF g))
      have q := D.ks e g
      rw [l]at q
      exact⟨N, l, aFI q⟩
    refine .inr ⟨kk, xs, rfl, z, c.2.1, aHY (by simp_all), o, C, F, h1, h2, A, λJ u => c.2.2 J (by simpa using u), c.1, ?_⟩
    have : es.map (·.1) = (xs.map (·.1)).map iQ := by rw [A6]; exact qQ (λa b h => h.1) c.2.1
    have nd := D.nd
    rw [this]at nd
    exact aA7 nd
theorem mG{A:U9}(a:A.units+64 < cLine):(j6 X.prog X.w).room A.in1:=by show A.in1.units+9 < cLine;ext
theorem aVB(f:A.units+64 < cLine)(D:DicAt X H a es k kv)(I:Inv X ap Z H s)(g:aV kv ku)(h:∀ s',Inv X ap Z H s'->Q (.bool (atE es k).isSome) s'):wpAny (model X.prog X.w) A (compareOp .In ku (.ref a)) Q E s:=by
 obtain⟨e,⟨b,xs,rfl,rfl,d,c,dd⟩|⟨i,xs,rfl,rfl,d,c,dd⟩⟩:=D.cases I g
 .refine wpAny_in_heap (mG f) c e dd ?_
  have q:=kH (pI (k:=k) d)
  rw[FR]at q
  rw[<-q];exact h _ (I.tok _)
 .refine wpAny_in_of c e dd.mapOf ?_
  rw[<-kH (pJ d)];exact h _ (I.tok _)
theorem aQ7(f:A.units+64 < cLine)(D:DicAt X H a es k kv)(I:Inv X ap Z H s)(g:aV kv ku)(h:∀ s',Inv X ap Z H s'->Q (.bool (!(atE es k).isSome)) s'):wpAny (model X.prog X.w) A (compareOp .NotIn ku (.ref a)) Q E s:=by
 obtain⟨e,⟨b,xs,rfl,rfl,d,c,dd⟩|⟨i,xs,rfl,rfl,d,c,dd⟩⟩:=D.cases I g
 .refine wpAny_notIn_heap (mG f) c e dd ?_
  have q:=kH (pI (k:=k) d)
  rw[FR]at q
  rw[<-q];exact h _ (I.tok _)
 .refine wpAny_notIn_of c e dd.mapOf ?_
  rw[<-kH (pJ d)];exact h _ (I.tok _)
theorem aQ8(i:A.units+64 < cLine)(D:DicAt X H a es k kv)(I:Inv X ap Z H s)(l:aV kv ku)(f:atE es k=some v)(h:∀ w' s',Inv X ap Z H s'->aV v w'->Q w' s'):wpAny (model X.prog X.w) A (getItem (.ref a) ku) Q E s:=by
 obtain⟨m,⟨b,xs,rfl,rfl,d,e,dd⟩|⟨j,xs,rfl,rfl,d,e,dd⟩⟩:=D.cases I l
 .have q:=pI (k:=k) d
  rw[f]at q
  obtain⟨w',c⟩:=lG.some_of q
  obtain⟨p,g⟩:=Option.map_eq_some_iff.mp c.1
  refine wpAny_getItem_heap (mG i) e dd g.1 ?_
  rw[g.2];exact h w' _ (I.tok _) c.2
 .have q:=pJ (k:=j) d
  rw[f]at q
  obtain⟨w',c⟩:=lG.some_of q
  exact wpAny_getItem_of e dd.mapOf c.1 (h w' _ (I.tok _) c.2)
theorem aQ9{Q:Unit->S9->Prop}(r:A.units+64 < cLine)(D:DicAt X H a es k kv)(I:Inv X ap Z H s)(t:aV kv ku)(q:aV v u)(hz:es.length<=sizeLine)(h:∀ ep s',Inv X ap Z (upd H a (gN X.w a (oW es k kv v) ep)) s'->Q () s') :
  wpAny (model X.prog X.w) A (setItem (.ref a) ku u) Q E s:=by
 obtain⟨p,⟨b,xs,rfl,rfl,f,j,dd⟩|⟨z,xs,rfl,rfl,f,j,dd⟩⟩:=D.cases I t
 .have x:xs.length<=sizeLine:=by rw[<-Paired.length f];ext
  refine wpAny_setItem_heap (mG r) j dd λh' d i=>?_
  obtain⟨e,g,ep,c⟩:=d
  obtain⟨n,m⟩:=D.o
  refine h ep _ (m6 I (by rw[m];exact True.intro) i ⟨e,c.1⟩ (kG p ⟨e,g,c.1,c.2.1,c.2.2.1,?_⟩))
  rw[c.2.2.2.1]
  exact qM (aH2 q f)
 .have x:xs.length<=sizeLine:=by rw[<-Paired.length f];ext
  refine wpAny_setItem_pairs j dd λh' d i=>?_
  obtain⟨e,g,ep,c⟩:=d
  obtain⟨n,m⟩:=D.o
  refine h ep _ (m6 I (by rw[m];exact True.intro) i ⟨e,c.1⟩ (kG p ⟨e,g,c.1,c.2.1,c.2.2.1,?_⟩))
  exact qN (aH3 q f) c.2.2.2.2.1 λy l=>c.2.2.2.1 y (by simpa using l)
end
structure Er where
 c:Str
 fs:List (Str×D4)
inductive R(α:Type) where
 | bad|ok (a:α)|ex (e:Er)
noncomputable def R.bind{α β:Type}:R α->(α->R β)->R β
 | .bad,_=>.bad
 | .ok a,f=>f a
 | .ex e,_=>.ex e
@[simp] theorem R.bind_ok{α β:Type}(a:α)(f:α->R β):(R.ok a).bind f=f a:=id rfl
@[simp] theorem R.bind_bad{α β:Type}(f:α->R β):(R.bad:R α).bind f=.bad:=id rfl
@[simp] theorem R.bind_ex{α β:Type}(e:Er)(f:α->R β):(R.ex e:R α).bind f=.ex e:=id rfl
inductive A where
 | d (x:D4)|l (xs:List D4)|m (a0:List (D4×D4))|x (e:Er)|g (k n:Nat) (f:List D4->R D4)|k (q:Str)|f (a0:List (D4×D4))|o (e:Er)|w (a:Az)|h (k n:Nat) (f:List D4->R D4) (ds:List D4)
abbrev Sg:=L9 (O9 A)
structure Gb where
 B:Az->Hp->Nat->Nat->(List D4->R D4)->Prop
 T:Hp
 w:World
structure Ct where
 K:Frag
 mg:Str->Option V9
 w:World
 F0:Hp
 H0:Hp
 g:Gb
 cells:List (Str×Az)
 cls:Str->Option ClSt
theorem aCW{w:W9}{p:Az}{es:L9 Ent}{ep:Nat}{q:Str}(h:gN w p es ep=.cod q):False:=by cases h
theorem bF(H:Hp):aD H H:=λ_ _ h=>h
theorem aU{H H':Hp}(s:aD H H'){a:Az}(h:H' a=none):H a=none:=by
 cases e:H a with
 | none=>rfl
 | some o=>rw[s a o e]at h;ext
def oG(H:Hp)(a:Az):Prop:=H a=none\/∃ q,H a=some (.cod q)
theorem oG.back{H H1:Hp}{a:Az}(s:aD H H1)(h:oG H1 a):oG H a:=by
 cases e:H a with
 | none=>exact .inl e
 | some o=>
  have e1:=s a o e
  rcases h with z|⟨q,z⟩
  · ext
  · rw [e1]at z; cases z; exact .inr ⟨q, e⟩
structure Ext(F H F' H':Hp):Prop where
 hh:aD H H'
 ff:aD F F'
 fh:aD F' H'
 nw:∀ a,F a=none->F' a≠none->oG H a
theorem Ext.refl{F H:Hp}(h:aD F H):Ext F H F H:=⟨bF H,bF F,h,λa e n=>absurd e n⟩
theorem Ext.trans{F H c H1 d H2:Hp}(a:Ext F H c H1)(b:Ext c H1 d H2):Ext F H d H2:=
 ⟨λx o e=>b.hh x o (a.hh x o e),λx o e=>b.ff x o (a.ff x o e),b.fh,λx e n=>by
  cases q:c x with
  | none=>exact(b.nw x q n).back a.hh
  | some o=>exact a.nw x e (by ext)⟩
theorem Ext.stay{F H a H':Hp}(s:Ext F H a H'){p:Az}{o:HO}(b:F p=none)(h2:H p=some o)(c:∀ q,o≠.cod q):a p=none:=by
 cases q:a p with
 | none=>rfl
 | some o=>
  rcases s.nw p b (by ext)with z|⟨d,z⟩<;>ext
theorem aNG{F H:Hp}{p:Az}{o:HO}(s:aD F H):aD (upd F p o) (upd H p o):=λa u e=>by
 by_cases q:a=p
 · subst q; rw [aO]at e ⊢; ext
 · rw [aG q]at e ⊢; exact s a u e
theorem Ext.new{F H:Hp}{p:Az}{o:HO}(s:aD F H)(b:H p=none):Ext F H (upd F p o) (upd H p o):=
 ⟨aD.upd b,aD.upd (aU s b),aNG s,λa e n=>by
  by_cases q:a=p
  · subst q; exact .inl b
  · rw [aG q]at n; simp_all⟩
theorem Ext.own{F H:Hp}{p:Az}{o:HO}(s:aD F H)(b:H p=none):Ext F H F (upd H p o):=
 ⟨aD.upd b,bF F,λa u e=>by
  rw[aG (a9 (s a u e) b)];exact s a u e,λa e n=>absurd e n⟩
def lL(K:Frag)(mg:Str->O9 V9)(F:Hp)(e:Er)(a C:Az):Prop:=mg e.c=some (.ref C)/\∃ od,F a=some (ExO a C od)/\((e.fs=[]/\od=none)\/∃ d fvs,od=some d/\F d=some (.xd fvs)/\fvs.map (·.1)=e.fs.map (·.1)/\DatVs K F (fvs.map (·.2)) (e.fs.map (·.2)))
theorem lL.same{K:Frag}{mg:Str->O9 V9}{F b:Hp}{e:Er}{a C:Az}(s:aD F b)(h:lL K mg F e a C):lL K mg b e a C:=by
 obtain⟨m,od,h1⟩:=h
 refine⟨m,od,s _ _ h1.1,h1.2.imp id ?_⟩
 rintro ⟨d,fvs,e1,e2,e3,e4⟩
 exact⟨d,fvs,e1,s _ _ e2,e3,e4.same s⟩
def aH4(K:Frag)(mg:Str->O9 V9)(F:Hp)(e:Er)(a:Az):Prop:=∃ C dx fvs,mg e.c=some (.ref C)/\F a=some (.ins C dx fvs)/\fvs.map (·.1)=e.fs.map (·.1)/\DatVs K F (fvs.map (·.2)) (e.fs.map (·.2))
theorem aH4.same{K:Frag}{mg:Str->O9 V9}{F c:Hp}{e:Er}{a:Az}(s:aD F c)(h:aH4 K mg F e a):aH4 K mg c e a:=by
 obtain⟨C,dx,b,h1⟩:=h
 exact⟨C,dx,b,h1.1,s _ _ h1.2.1,h1.2.2.1,h1.2.2.2.same s⟩
structure MapRel(K:Frag)(F:Hp)(es:List Ent)(a0:List (D4×D4)):Prop where
 k1:es.map (·.1)=a0.map (·.1)
 k2:DatVs K F (es.map (·.2.1)) (a0.map (·.1))
 vs:DatVs K F (es.map (·.2.2)) (a0.map (·.2))
 nd:(a0.map (·.1)).Nodup
theorem MapRel.same{K:Frag}{F b:Hp}{es:L9 Ent}{a:L9 (D4×D4)}(s:aD F b)(h:MapRel K F es a):MapRel K b es a:=⟨h.k1,h.k2.same s,h.vs.same s,h.nd⟩
def AF(g:Gb)(K:Frag)(mg:Str->O9 V9)(F:Hp):A->V->Prop
 | .d x,v=>DatV K F v x
 | .x e,v=>∃ a C,v=.ref a/\lL K mg F e a C
 | .g k n G,v=>∃ f F1,v=.ref f/\aD F1 F/\g.B f F1 k n G
 | .f a0,v=>∃ p es,v=.ref p/\(∃ ep,F p=some (gN g.w p es ep))/\MapRel K F es a0
 | .o e,v=>∃ a,v=.ref a/\aH4 K mg F e a
 | .w a,v=>v=.ref a
 | .h k n G ds,v=>∃ p f F1 vs,v=.ref p/\F p=some (.lst (.ref f::vs))/\aD F1 F/\g.B f F1 k n G/\DatVs K F vs ds
 | _,_=>False
theorem AF.same{g:Gb}{K:Frag}{mg:Str->O9 V9}{F F':Hp}(s:aD F F'):∀ {a:A} {v:V},AF g K mg F a v->AF g K mg F' a v
 | .d x,v,h=>DatV.same s h
 | .x e,v,⟨a,C,h1,h2⟩=>⟨a,C,h1,h2.same s⟩
 | .g k n G,v,⟨f,F1,h1,h2,h3⟩=>⟨f,F1,h1,λa o z=>s a o (h2 a o z),h3⟩
 | .f a0,v,⟨p,es,h1,⟨ep,h2⟩,h3⟩=>⟨p,es,h1,⟨ep,s _ _ h2⟩,h3.same s⟩
 | .o e,v,⟨a,h1,h2⟩=>⟨a,h1,h2.same s⟩
 | .w a,v,h=>h
 | .h k n G ds,v,⟨p,f,F1,vs,h1,h2,h3,h4,h5⟩=>⟨p,f,F1,vs,h1,s _ _ h2,λa o z=>s a o (h3 a o z),h4,h5.same s⟩
noncomputable def A.own:A->Bool
 | .l _=>true
 | .m _=>true
 | _=>false
def AO(c:Ct)(F H:Hp):A->V->Prop
 | .l xs,v=>∃ p vs,v=.ref p/\H p=some (.lst vs)/\F p=none/\c.H0 p=none/\DatVs c.K F vs xs
 | .m a0,v=>∃ p es,v=.ref p/\(∃ ep,H p=some (gN c.w p es ep))/\F p=none/\c.H0 p=none/\MapRel c.K F es a0
 | .k q,v=>∃ S f cl doc pm cc ct,c.cls q=some S/\v=.ref f/\F f=some (FnO f (S.obj cl doc pm cc ct))/\F cc=some (.cod S.qual)/\ClOf c.cells S.scope cl
 | a,v=>AF c.g c.K c.mg F a v
theorem AO.ext{c:Ct}{F H b H':Hp}(s:Ext F H b H'):∀ {a:A} {v:V},AO c F H a v->AO c b H' a v
 | .d x,v,h=>DatV.same s.ff h
 | .x e,v,h=>AF.same (g:=c.g) (a:=.x e) s.ff h
 | .g k n G,v,h=>AF.same (K:=c.K) (mg:=c.mg) (a:=.g k n G) s.ff h
 | .f a0,v,h=>AF.same (mg:=c.mg) (a:=.f a0) s.ff h
 | .o e,v,h=>AF.same (g:=c.g) (a:=.o e) s.ff h
 | .w a,v,h=>h
 | .h k n G ds,v,h=>AF.same (mg:=c.mg) (a:=.h k n G ds) s.ff h
 | .k q,v,⟨S,f,cl,doc,pm,cc,ct,h0,h1,h2,h3,h4⟩=>⟨S,f,cl,doc,pm,cc,ct,h0,h1,s.ff _ _ h2,s.ff _ _ h3,h4⟩
 | .l xs,v,⟨p,vs,h1,h2,h3,h4,h5⟩=>⟨p,vs,h1,s.hh _ _ h2,s.stay h3 h2 (λ_ z=>nomatch z),h4,h5.same s.ff⟩
 | .m a0,v,⟨p,vs,h1,⟨ep,h2⟩,h3,h4,h5⟩=>⟨p,vs,h1,⟨ep,s.hh _ _ h2⟩,s.stay h3 h2 (λ_ z=>aCW z),h4,h5.same s.ff⟩
theorem AO.at{c:Ct}{F H:Hp}{a:A}{v:V}(h:AO c F H a v)(o:a.own=true):∃ p o,v=.ref p/\H p=some o/\F p=none/\c.H0 p=none:=by
 cases a with
 | l xs=>obtain⟨p,vs,h1⟩:=h;exact⟨p,_,h1.1,h1.2.1,h1.2.2.1,h1.2.2.2.1⟩
 | m xs=>obtain⟨p,vs,h1,⟨j,h2⟩,b,i,q⟩:=h;exact⟨p,_,h1,h2,b,i⟩
 | d x=>cases o
 | x e=>cases o
 | g k n f=>cases o
 | k S=>cases o
 | f S=>cases o
 | o S=>cases o
 | w S=>cases o
 | h _ _ _ _=>cases o
theorem AO.off{c:Ct}{F H:Hp}{p:Az}{o:HO}:∀ {a:A} {v:V},AO c F H a v->v≠.ref p->AO c F (upd H p o) a v
 | .l xs,v,⟨q,vs,h1,h2,h3,h4,h5⟩,n=>⟨q,vs,h1,by rw[aG (λz=>n (by simp_all))];ext,h3,h4,h5⟩
 | .m xs,v,⟨q,vs,h1,⟨ep,h2⟩,h3,h4,h5⟩,n=>⟨q,vs,h1,⟨ep,by rw[aG (λz=>n (by simp_all))];ext⟩,h3,h4,h5⟩
 | .d x,v,h,_=>h
 | .x e,v,h,_=>h
 | .g k n G,v,h,_=>h
 | .k S,v,h,_=>h
 | .f S,v,h,_=>h
 | .o S,v,h,_=>h
 | .w S,v,h,_=>h
 | .h _ _ _ _,v,h,_=>h
structure Ab(c:Ct)(Y:Sg)(Z:_a.St)(F H:Hp):Prop where
 len:Y.length=Z.length
 fh:aD F H
 slot:∀ (i:Nat) (a:A),Y[i]? = some (some a)->∃ v,Z[i]? = some (some v)/\AO c F H a v
 apart:∀ (i j:Nat) (a b:A),i≠j->Y[i]? = some (some a)->Y[j]? = some (some b)->a.own=true->b.own=true->Z[i]? ≠ Z[j]?
 f0:aD c.F0 F
 h0:aD c.H0 H
 n0:∀ a,c.F0 a=none->F a≠none->oG c.H0 a
 t0:aD c.g.T c.F0
theorem Ab.all{c:Ct}{Y:Sg}{Z:_a.St}{F H:Hp}(b:Ab c Y Z F H):Ext c.F0 c.H0 F H:=⟨b.h0,b.f0,b.fh,b.n0⟩
theorem Ab.ext{c:Ct}{Y:Sg}{Z:_a.St}{F H d H':Hp}(b:Ab c Y Z F H)(e:Ext F H d H'):Ab c Y Z d H' where
 len:=b.len
 fh:=e.fh
 slot:=λi a h=>let ⟨v,h1,h2⟩:=b.slot i a h;⟨v,h1,h2.ext e⟩
 apart:=b.apart
 f0:=λx o h=>e.ff x o (b.f0 x o h)
 h0:=λx o h=>e.hh x o (b.h0 x o h)
 n0:=λa h n=>by
  cases q:F a with
  | none=>exact(e.nw a q n).back b.h0
  | some o=>exact b.n0 a h (by rw[q];exact λz=>nomatch z)
 t0:=b.t0
def XW(c:Ct)(E:XK)(e:Er):Prop:=∀ a C F' H',Ext c.F0 c.H0 F' H'->lL c.K c.mg F' e a C->E (.ref C) (some a) H'
def Rk{α:Type}(c:Ct)(E:XK)(F H:Hp)(r:R α)(k:α->Prop):Prop:=match r with
 | .bad=>False
 | .ok a=>k a
 | .ex e=>XW c E e
abbrev VR(α:Type):=α->V->Hp->Hp->Hp->Prop
def tV{α:Type}(Rel:VR α)(c:Ct)(E:XK)(f:Sg->R α):TE:=λZ H Q=>∃ Y F,Ab c Y Z F H/\Rk c E F H (f Y) λd=>∀ v F' H',Ext F H F' H'->Rel d v H F' H'->Q v H'
def bO(c:Ct):VR D4:=λd v _ F _=>DatV c.K F v d
def aQ(K:Frag)(F H:Hp)(v:V)(d:D4):Prop:=DatV K F v d\/∃ p vs xs,v=.ref p/\d=.list xs/\H p=some (.lst vs)/\DatVs K F vs xs
def aZ(c:Ct):VR D4:=λd v _ F H=>aQ c.K F H v d
def aH5(c:Ct):VR A:=λa v _ F _=>AF c.g c.K c.mg F a v
def zO(c:Ct):VR (L9 D4):=λxs v H F H'=>∃ p vs,v=.ref p/\H p=none/\H' p=some (.lst vs)/\F p=none/\DatVs c.K F vs xs
abbrev PD(X:Cx)(c:Ct)(E:XK)(e:Ez)(f:Sg->R D4):Prop:=PE X e (tV (bO c) c E f)
abbrev PR(X:Cx)(c:Ct)(E:XK)(e:Ez)(f:Sg->R D4):Prop:=PE X e (tV (aZ c) c E f)
abbrev PV(X:Cx)(c:Ct)(E:XK)(e:Ez)(f:Sg->R A):Prop:=PE X e (tV (aH5 c) c E f)
abbrev PN(X:Cx)(c:Ct)(E:XK)(e:Ez)(f:Sg->R (L9 D4)):Prop:=PE X e (tV (zO c) c E f)
theorem PE.imp{X:Cx}{e:Ez}{t t':TE}(h:PE X e t)(i:∀ Z H Q,t' Z H Q->t Z H Q):PE X e t':=λap s Z H Q I q=>h ap s Z H Q I (i Z H Q q)
theorem PT.imp{X:Cx}{e:Ez}{t t':TT}(h:PT X e t)(i:∀ Z H Q,t' Z H Q->t Z H Q):PT X e t':=λap s Z H Q I q=>h ap s Z H Q I (i Z H Q q)
theorem PS.imp{X:Cx}{e:Stmt}{t t':TS}(h:PS X e t)(i:∀ D Z H,t' D Z H->t D Z H):PS X e t':=λap s Z H D I q=>h ap s Z H D I (i D Z H q)
theorem PSs.imp{X:Cx}{e:L9 Stmt}{t t':TS}(h:PSs X e t)(i:∀ D Z H,t' D Z H->t D Z H):PSs X e t':=λap s Z H D I q=>h ap s Z H D I (i D Z H q)
def aPR{α:Type}(Rel:VR α):Prop:=∀ d v H F H1 F2 H2,Ext F H1 F2 H2->Rel d v H F H1->Rel d v H F2 H2
theorem aQ.ext{K:Frag}{F H a H':Hp}{v:V}{d:D4}(e:Ext F H a H')(h:aQ K F H v d):aQ K a H' v d:=by
 rcases h with h|⟨p,vs,xs,h1,h2,b,c⟩
 · exact .inl (h.same e.ff)
 · exact .inr ⟨p, vs, xs, h1, h2, e.hh _ _ b, c.same e.ff⟩
theorem sL(c:Ct):aPR (aZ c):=λd v H F H1 a H2 e h=>aQ.ext e h
theorem aQ.heap{K:Frag}{F H:Hp}{v:V}{d:D4}(s:aD F H)(h:aQ K F H v d):DatV K H v d:=by
 rcases h with h|⟨p,vs,xs,h1,h2,a,b⟩
 · exact h.same s
 · subst h1 h2; exact .lst (SqL.of a) (b.same s)
section
variable{X:Cx}{c:Ct}{E:XK}{α β γ:Type}{Ra:VR α}{Rb:VR β}{Rc:VR γ}{Z:_a.St}{H:Hp}{Q:VK}
theorem Rk.ok{F:Hp}{a:α}{k:α->Prop}(h:Rk c E F H (.ok a) k):k a:=h
theorem Rk.imp{F:Hp}{r:R α}{k b:α->Prop}(h:Rk c E F H r k)(i:∀ a,r=.ok a->k a->b a):Rk c E F H r b:=by
 cases r with
 | bad=>exact h
 | ok a=>exact i a rfl h
 | ex e=>exact h
theorem Rk.bind{F:Hp}{r:R α}{f:α->R β}{k:β->Prop}(h:Rk c E F H (r.bind f) k):Rk c E F H r λa=>Rk c E F H (f a) k:=by
 cases r with
 | bad=>exact h
 | ok a=>exact h
 | ex e=>exact h
theorem Rk.ext{F a H':Hp}{r:R α}{k:α->Prop}(e:Ext F H a H')(h:Rk c E F H r k):Rk c E a H' r k:=by
 assumption
end
def aCX{α:Type}(Rel:VR α):Prop:=∀ d v H H1 F' H',aD H H1->Rel d v H1 F' H'->Rel d v H F' H'
theorem l5(c:Ct):aCX (bO c):=λ_ _ _ _ _ _ _ h=>h
theorem aX6(c:Ct):aCX (zO c):=λ_ _ _ _ _ _ s h=>by
 obtain⟨p,vs,h1⟩:=h
 exact⟨p,vs,h1.1,aU s h1.2.1,h1.2.2⟩
section
variable{X:Cx}{c:Ct}{E:XK}{α β γ:Type}{Ra:VR α}{Rb:VR β}{Rc:VR γ}
def Op1(c:Ct)(Ra:VR α)(Rb:VR β)(g:α->R β)(r:V->Hp->VK->Prop):Prop:=
 ∀ (H0 F H:Hp) (a:α) (b:β) (v:V) (Q:VK),aD F H->Ra a v H0 F H->g a=.ok b->(∀ w F' H',Ext F H F' H'->Rb b w H F' H'->Q w H')->r v H Q
def Op2(c:Ct)(Ra:VR α)(Rb:VR β)(Rc:VR γ)(g:α->β->R γ)(r:R2):Prop:=
 ∀ (H0 H1 F H:Hp) (a:α) (b:β) (d:γ) (v u:V) (Q:VK),aD F H->Ra a v H0 F H->Rb b u H1 F H->g a b=.ok d->(∀ w F' H',Ext F H F' H'->Rc d w H F' H'->Q w H')->r v u H Q
def pK(g:α->R β):Prop:=∀ a e,g a≠.ex e
def cJ(g:α->β->R γ):Prop:=∀ a b e,g a b≠.ex e
theorem tV1{f:Sg->R α}{g:α->R β}{r:V->Hp->VK->Prop}(n:Op1 c Ra Rb g r)(o:pK g)(m:aCX Rb){Z:_a.St}{H:Hp}{Q:VK}(h:tV Rb c E (λY=>(f Y).bind g) Z H Q) :
  tV Ra c E f Z H λv H1=>r v H1 Q:=by
 obtain⟨Y,F,ab⟩:=h
 refine⟨Y,F,ab.1,(Rk.bind ab.2).imp λa p q v j H1 e1 l=>?_⟩
 cases d:g a with
 | bad=>rw[d]at q;exact q.elim
 | ex e=>exact absurd d (o a e)
 | ok b=>
  rw[d]at q
  exact n H j H1 a b v Q e1.fh l d λw k H' e2 i=>q w k H' (e1.trans e2) (m _ _ _ _ _ _ e1.hh i)
theorem tV2{f:Sg->R α}{k:Sg->R β}{g:α->β->R γ}{r:R2}(p:Op2 c Ra Rb Rc g r)(C:cJ g)(t:aPR Ra)(s:aCX Rc){Z:_a.St}{H:Hp}{Q:VK}(h:tV Rc c E (λY=>(f Y).bind λa=>(k Y).bind λb=>g a b) Z H Q) :
  tOp r (tV Ra c E f) (tV Rb c E k) Z H Q:=by
 obtain⟨Y,F,ab⟩:=h
 refine⟨Y,F,ab.1,(Rk.bind ab.2).imp λa D q v m H1 e1 n=>?_⟩
 refine⟨Y,m,ab.1.ext e1,((Rk.bind q).ext e1).imp λb G q u y H2 e2 B=>?_⟩
 cases i:g a b with
 | bad=>rw[i]at q;exact q.elim
 | ex e=>exact absurd i (C a b e)
 | ok d=>
  rw[i]at q
  exact p H H1 y H2 a b d v u Q e2.fh (t _ _ _ _ _ _ _ e2 n) B i λw A H' l j=>q w A H' ((e1.trans e2).trans l) (s _ _ _ _ _ _ (λx o z=>e2.hh x o (e1.hh x o z)) j)
end
section
variable{K:Frag}{F H:Hp}{v:V}
theorem DatV.bl_of{b:Bool}(h:DatV K H v (.bool b)):v=.bl b:=by cases h;rfl
theorem DatV.non_of(h:DatV K H v .none):v=.non:=by cases h;rfl
theorem aQ.int_of{i:Int}(h:aQ K F H v (.int i)):v=.int i:=by
 rcases h with h|⟨_,_,_,_,h,_⟩
 · exact h.int_of
 simp_all
theorem aQ.str_of{i:Str}(h:aQ K F H v (.str i)):v=.str i:=by
 rcases h with h|⟨_,_,_,_,h,_⟩
 · exact h.str_of
 simp_all
theorem aQ.bl_of{i:Bool}(h:aQ K F H v (.bool i)):v=.bl i:=by
 rcases h with h|⟨_,_,_,_,h,_⟩
 · exact DatV.bl_of h
 simp_all
theorem aQ.non_of(h:aQ K F H v .none):v=.non:=by
 rcases h with h|⟨_,_,_,_,h,_⟩
 · exact DatV.non_of h
 simp_all
theorem aQ.tup_of{xs:L9 D4}(s:aD F H)(h:aQ K F H v (.tuple xs)):∃ a vs,v=.ref a/\SqT K F a vs/\SqT K H a vs/\DatVs K F vs xs:=by
 rcases h with h|⟨_,_,_,_,h,_⟩
 .obtain ⟨a,vs,h1⟩:=h.tup_of
  exact⟨a,vs,h1.1,h1.2.1,h1.2.1.same s,h1.2.2⟩
 simp_all
theorem aQ.lst_of{xs:L9 D4}(s:aD F H)(h:aQ K F H v (.list xs)):∃ a vs,v=.ref a/\SqL K H a vs/\DatVs K F vs xs:=by
 rcases h with h|⟨p,vs,ys,h1,h2,b,c⟩
 .obtain ⟨a,vs,h1⟩:=h.lst_of
  exact⟨a,vs,h1.1,h1.2.1.same s,h1.2.2⟩
 .cases h2
  exact⟨p,vs,h1,SqL.of b,c⟩
theorem aCY{vs:L9 V}{xs:L9 D4}{i:Int}{d:D4}(h:DatVs K F vs xs)(e:atI xs i=some d):∃ x,atI vs i=some x/\DatV K F x d:=by
 unfold atI at e ⊢
 rw[h.length]
 cases q:ixN xs.length i with
 | none=>simp_all
 | some j=>
  rw[q]at e
  exact h.get' e
end
noncomputable def eV(i:Nat):Sg->R D4:=λY=>match Y[i]? with
 | some (some (.d x))=>.ok x
 | _=>.bad
noncomputable def rV(i:Nat):Sg->R D4:=λY=>match Y[i]? with
 | some (some (.d x))=>.ok x
 | some (some (.l xs))=>.ok (.list xs)
 | _=>.bad
noncomputable def vV(i:Nat):Sg->R A:=λY=>match Y[i]? with
 | some (some (.d x))=>.ok (.d x)
 | some (some (.x e))=>.ok (.x e)
 | some (some (.g k n f))=>.ok (.g k n f)
 | some (some (.f a0))=>.ok (.f a0)
 | _=>.bad
def eC(d:D4):Sg->R D4:=λ_=>.ok d
section
variable{X:Cx}{c:Ct}{E:XK}{e a b:Ez}
theorem aKJ(h:PE X e (g7 i)):PD X c E e (eV i):=PE.imp h λZ H Q ⟨Y,F,ab,k⟩=>by
 unfold eV at k
 split at k
 .rename_i x a
  obtain⟨v,h1⟩:=ab.slot i _ a
  exact⟨v,h1.1,k v F H (Ext.refl ab.fh) h1.2⟩
 .exact k.elim
theorem mH(h:PE X e (g7 i)):PR X c E e (rV i):=PE.imp h λZ H Q ⟨Y,F,ab,k⟩=>by
 unfold rV at k
 split at k
 .rename_i x a
  obtain⟨v,h1⟩:=ab.slot i _ a
  exact⟨v,h1.1,k v F H (Ext.refl ab.fh) (.inl h1.2)⟩
 .rename_i x a
  obtain⟨v,h1,p,vs,h2⟩:=ab.slot i _ a
  exact⟨v,h1,k v F H (Ext.refl ab.fh) (.inr ⟨p,vs,x,h2.1,rfl,h2.2.1,h2.2.2.2.2⟩)⟩
 .exact k.elim
theorem aVC(h:PE X e (g7 i)):PV X c E e (vV i):=PE.imp h λZ H Q ⟨Y,F,ab,k⟩=>by
 unfold vV at k
 split at k
 .rename_i x a
  obtain⟨v,h1,h2⟩:=ab.slot i _ a
  exact⟨v,h1,k v F H (Ext.refl ab.fh) h2⟩
 .rename_i x a
  obtain⟨v,h1,h2⟩:=ab.slot i _ a
  exact⟨v,h1,k v F H (Ext.refl ab.fh) h2⟩
 .rename_i f d g a
  obtain⟨v,h1⟩:=ab.slot i _ a
  exact⟨v,h1.1,k v F H (Ext.refl ab.fh) h1.2⟩
 .rename_i b a
  obtain⟨v,h1,h2⟩:=ab.slot i _ a
  exact⟨v,h1,k v F H (Ext.refl ab.fh) h2⟩
 .exact k.elim
theorem g9{v:V}{d:D4}(h:PE X e (tC v))(a:∀ F,DatV c.K F v d):PD X c E e (eC d):=PE.imp h λZ H Q Y=>by obtain⟨Y,F,ab⟩:=Y;exact ab.2 v F H (Ext.refl ab.1.fh) (a F)
theorem pM{i j pos}:PD X c E (.Constant (.int i) j pos) (eC (.int i)):=g9 o6 λ_=>.int i
theorem aX7{i j pos}:PD X c E (.Constant (.bool i) j pos) (eC (.bool i)):=g9 aXW λ_=>.bl i
theorem xW{i j pos}:PD X c E (.Constant (.str i) j pos) (eC (.str i)):=g9 aUF λ_=>.str i
theorem aVD{j pos}:PD X c E (.Constant .none j pos) (eC .none):=g9 aUE λ_=>.non
theorem fV{f:Sg->R D4}(h:PD X c E e f):PR X c E e f:=PE.imp h λZ H Q Y=>by obtain⟨Y,F,ab⟩:=Y;exact⟨Y,F,ab.1,ab.2.imp λd _ q v a H' s r=>q v a H' s (.inl r)⟩
def vD(f:Sg->R D4):Sg->R A:=λY=>(f Y).bind λx=>.ok (.d x)
theorem jI{f:Sg->R D4}(h:PD X c E e f):PV X c E e (vD f):=PE.imp h λZ H Q Y=>by obtain⟨Y,F,ab⟩:=Y;exact⟨Y,F,ab.1,(Rk.bind ab.2).imp λd _ q v a H' s r=>Rk.ok q v a H' s r⟩
def getD:A->R D4
 | .d x=>.ok x
 | _=>.bad
def eA(f:Sg->R A):Sg->R D4:=λY=>(f Y).bind getD
theorem uM{f:Sg->R A}(h:PV X c E e f):PD X c E e (eA f):=PE.imp h λZ H Q ⟨Y,F,ab,k⟩=>⟨Y,F,ab,(Rk.bind k).imp λd _ q v a H' s r=>by
 cases d with
 | d x=>exact Rk.ok q v a H' s r
 | _=>exact False.elim q⟩
def eL(f:Sg->R (L9 D4)):Sg->R D4:=λY=>(f Y).bind λxs=>.ok (.list xs)
theorem xX{f:Sg->R (L9 D4)}(h:PN X c E e f):PD X c E e (eL f):=PE.imp h λZ H Q ⟨Y,F,ab,k⟩=>⟨Y,F,ab,(Rk.bind k).imp λxs _ q v b H' s r=>by
 obtain⟨p,vs,h1,h2⟩:=r
 subst h1
 refine Rk.ok q _ _ H' ⟨s.hh,λa o z=>?_,λa o z=>?_,λa z n=>?_⟩ (.lst (SqL.of aO) (h2.2.2.2.same (aD.upd h2.2.2.1)))
 .rw[aG (a9 (s.ff a o z) h2.2.2.1)];exact s.ff a o z
 .by_cases w:a=p
  · subst w; rw [aO]at z; rw [h2.2.1]; ext
  · rw [aG w]at z; exact s.fh a o z
 .by_cases w:a=p
  · subst w; exact .inl h2.1
  · rw [aG w]at n; exact s.nw a z n⟩
def e1(g:α->R β)(f:Sg->R α):Sg->R β:=λY=>(f Y).bind g
def e2{γ:Type}(g:α->β->R γ)(f:Sg->R α)(f':Sg->R β):Sg->R γ:=λY=>(f Y).bind λx=>(f' Y).bind λy=>g x y
noncomputable def bJ:D4->D4->R D4
 | .int i,.int j=>.ok (.int (i+j))
 | .str x,.str y=>if x.length+y.length<=sizeLine then .ok (.str (x++y))else .bad
 | .tuple xs,.tuple ys=>if xs.isEmpty=false/\xs.length+ys.length<=sizeLine then .ok (.tuple (xs++ys))else .bad
 | _,_=>.bad
def dSub:D4->D4->R D4
 | .int i,.int j=>.ok (.int (i - j))
 | _,_=>.bad
noncomputable def dMul:D4->D4->R D4
 | .int i,.int j=>if (-18446744073709551616 < i/\i < 18446744073709551616)\/(-18446744073709551616 < j/\j < 18446744073709551616)then .ok (.int (i * j))else .bad
 | _,_=>.bad
def dDiv:D4->D4->R D4
 | .int i,.int j=>if 0 < j/\j < 18446744073709551616 then .ok (.int (i / j))else .bad
 | _,_=>.bad
def dMod:D4->D4->R D4
 | .int i,.int j=>if 0 < j then .ok (.int (i % j))else .bad
 | _,_=>.bad
def dNeg:D4->R D4
 | .int i=>.ok (.int (-i))
 | _=>.bad
def dLt:D4->D4->R D4
 | .int i,.int j=>.ok (.bool (decide (i < j)))
 | _,_=>.bad
def dLe:D4->D4->R D4
 | .int i,.int j=>.ok (.bool (decide (i<=j)))
 | _,_=>.bad
def dGt:D4->D4->R D4
 | .int i,.int j=>.ok (.bool (decide (j < i)))
 | _,_=>.bad
def dGe:D4->D4->R D4
 | .int i,.int j=>.ok (.bool (decide (j<=i)))
 | _,_=>.bad
def dEq(x y:D4):R D4:=if shaped x=true/\shaped y=true then .ok (.bool (PyData.eqv x y))else .bad
def dNe(x y:D4):R D4:=if shaped x=true/\shaped y=true then .ok (.bool (!PyData.eqv x y))else .bad
def iR:D4->Bool
 | .none=>true
 | _=>false
def dIs(x y:D4):R D4:=if iR y=true then .ok (.bool (iR x))else .bad
def dIsnt(x y:D4):R D4:=if iR y=true then .ok (.bool (!iR x))else .bad
noncomputable def inD:D4->D4->O9 Bool
 | .str i,.str j=>some (!(Builtin.Str.occurrences j i 0 j.length 1).isEmpty)
 | x,.list xs=>if shaped x=true/\shaped (.list xs)=true then some (xs.any λy=>PyData.eqv y x)else none
 | x,.tuple xs=>if shaped x=true/\shaped (.tuple xs)=true then some (xs.any λy=>PyData.eqv y x)else none
 | _,_=>none
def dIn(x y:D4):R D4:=match inD x y with
 | some b=>.ok (.bool b)
 | none=>.bad
def dNin(x y:D4):R D4:=match inD x y with
 | some b=>.ok (.bool (!b))
 | none=>.bad
noncomputable def dIx:D4->D4->R D4
 | .list xs,.int i=>match atI xs i with
  | some v=>.ok v
  | none=>.bad
 | .tuple xs,.int i=>match atI xs i with
  | some v=>.ok v
  | none=>.bad
 | .str z,.int i=>if z.length<=sizeLine then match atI z.cps.toList i with
  | some u=>.ok (.str ⟨#[u]⟩)
  | none=>.bad else .bad
 | _,_=>.bad
end
section
variable{X:Cx}{c:Ct}{E:XK}{e a b:Ez}{α β γ:Type}{Ra:VR α}{Rb:VR β}{Rc:VR γ}{pos:Pos}
def r2D(Ra:VR α)(Rb:VR β)(Rc:VR γ)(g:α->β->R γ):R2:=λv u H Q=>∃ H0 H1 F a b d,aD F H/\Ra a v H0 F H/\Rb b u H1 F H/\g a b=.ok d/\∀ w F' H',Ext F H F' H'->Rc d w H F' H'->Q w H'
def r1D(Ra:VR α)(Rb:VR β)(g:α->R β):V->Hp->VK->Prop:=λv H Q=>∃ H0 F a b,aD F H/\Ra a v H0 F H/\g a=.ok b/\∀ w F' H',Ext F H F' H'->Rb b w H F' H'->Q w H'
theorem xY{g:α->β->R γ}:Op2 c Ra Rb Rc g (r2D Ra Rb Rc g):=λh H1 F H a b d v u Q i e j f q=>⟨h,H1,F,a,b,d,i,e,j,f,q⟩
theorem aBZ{g:α->R β}:Op1 c Ra Rb g (r1D Ra Rb g):=λf F H a b v Q h d e q=>⟨f,F,a,b,h,d,e,q⟩
theorem nK{e:Operator}{g:D4->D4->R D4}{d fb:Sg->R D4}(f:OpR X (binaryOp e) (r2D (aZ c) (aZ c) (bO c) g))(i:cJ g)(j:PR X c E a d)(hb:PR X c E b fb):PD X c E (.BinOp a e b pos) (e2 g d fb):=
 PE.imp (aHE f j hb) λZ H Q h=>tV2 xY i (sL c) (l5 c) h
theorem aX8{d:UnaryOp}{g:D4->R D4}{b:Sg->R D4}(e:UnR X (unaryOp d) (r1D (aZ c) (bO c) g))(f:pK g)(i:PR X c E a b):PD X c E (.UnaryOp d a pos) (e1 g b):=
 PE.imp (aXY e i) λZ H Q h=>tV1 aBZ f (l5 c) h
theorem nL{d:CmpOp}{g:D4->D4->R D4}{e fb:Sg->R D4}(f:OpR X (compareOp d) (r2D (aZ c) (aZ c) (bO c) g))(i:cJ g)(k:PR X c E a e)(hb:PR X c E b fb)(j:behindInMarks d b=false):PD X c E (.Compare a [d] [b] pos) (e2 g e fb):=
 PE.imp (aQJ f k hb j) λZ H Q h=>tV2 xY i (sL c) (l5 c) h
theorem aB0{g:D4->D4->R D4}{d fb:Sg->R D4}(e:IxR X (r2D (aZ c) (aZ c) (bO c) g))(i:cJ g)(j:PR X c E a d)(hb:PR X c E b fb)(f:uD b:=by exact λ_ _=>rfl):PD X c E (.Subscript a b pos) (e2 g d fb):=
 PE.imp (_a.aBW e j hb f) λZ H Q h=>tV2 xY i (sL c) (l5 c) h
theorem aFJ(D:X.K=c.K):OpR X (binaryOp .Add) (r2D (aZ c) (aZ c) (bO c) bJ):=by
 intro ap s Z H v u x y Q I k r h
 obtain⟨G,H1,F,a,b,d,f,m,l,e,q⟩:=h
 unfold bJ at e
 split at e
 .rename_i i j
  cases e
  obtain rfl:=aQ.int_of m
  obtain rfl:=aQ.int_of l
  exact aUM ap s Z H _ _ x y Q I k r ⟨i,j,rfl,rfl,q _ F H (Ext.refl f) (.int _)⟩
 .rename_i i j
  split at e
  .rename_i n
   cases e
   obtain rfl:=aQ.str_of m
   obtain rfl:=aQ.str_of l
   exact aHG ap s Z H _ _ x y Q I k r ⟨i,j,rfl,rfl,n,q _ F H (Ext.refl f) (.str _)⟩
  simp_all
 .rename_i xs ys
  split at e
  .rename_i n
   cases e
   obtain⟨C,vs,rfl,B,A,g⟩:=aQ.tup_of f m
   obtain⟨E,us,rfl,fb,t,o⟩:=aQ.tup_of f l
   rw[<-D]at A t
   refine aQS ap s Z H _ _ x y Q I k r ⟨C,E,vs,us,rfl,rfl,A,t,?_,by rw[g.length,o.length];exact n.2,λz=>?_,λz p w=>?_⟩
   .intro z;subst z;obtain rfl:xs=[]:=by cases g;rfl
    ext
   .subst z
    obtain rfl:ys=[]:=by cases o;rfl
    exact q _ F H (Ext.refl f) (by rw[C5];exact .tup B g)
   .exact q _ _ _ (Ext.new f w) (.tup (SqT.of aO) ((g.append o).same (aD.upd (aU f w))))
  simp_all
 simp_all
theorem aA8:cJ bJ:=by
 intro a b e h
 unfold bJ at h
 ext
theorem mI{f:V9->V9->Sem V9}{g:D4->D4->R D4}{C:Int->Int->Prop}{k:Int->Int->D4}{kv:Int->Int->V}(m:OpR X f (rI C kv))(o:∀ i j F,DatV c.K F (kv i j) (k i j))
  (e:∀ a b d,g a b=.ok d->∃ i j,a=.int i/\b=.int j/\C i j/\d=k i j):OpR X f (r2D (aZ c) (aZ c) (bO c) g):=by
 intro ap s Z H v u x y Q I l w h
 obtain⟨A,H1,F,a,b,d,t,p,n,r,q⟩:=h
 obtain⟨i,j,rfl,rfl,z,rfl⟩:=e a b d r
 obtain rfl:=aQ.int_of p
 obtain rfl:=aQ.int_of n
 exact m ap s Z H _ _ x y Q I l w ⟨i,j,rfl,rfl,z,q _ F H (Ext.refl t) (o i j F)⟩
theorem xZ{f:V9->V9->Sem V9}{kv:Int->Int->V}(a:OpR X f (rI0 kv)):OpR X f (rI (λ_ _=>True) kv):=λap s Z H x y v u Q I b c i=>by obtain⟨i,j,h1⟩:=i;exact a ap s Z H x y v u Q I b c ⟨i,j,h1.1,h1.2.1,h1.2.2.2⟩
theorem aRA:OpR X (binaryOp .Sub) (r2D (aZ c) (aZ c) (bO c) dSub):=mI (xZ aUN) (λ_ _ _=>.int _) λa b d h=>by
 unfold dSub at h;split at h<;>simp_all
theorem aRB:OpR X (binaryOp .Mult) (r2D (aZ c) (aZ c) (bO c) dMul):=mI aUO (λ_ _ _=>.int _) λa b d h=>by
 unfold dMul at h;split at h
 .split at h
  · rename_i e; cases h; exact⟨_, _, rfl, rfl, e, rfl⟩
  simp_all
 simp_all
theorem aRC:OpR X (binaryOp .FloorDiv) (r2D (aZ c) (aZ c) (bO c) dDiv):=mI aM5 (λ_ _ _=>.int _) λa b d h=>by
 unfold dDiv at h;split at h
 .split at h
  · rename_i e; cases h; exact⟨_, _, rfl, rfl, e, rfl⟩
  simp_all
 simp_all
theorem aRD:OpR X (binaryOp .Mod) (r2D (aZ c) (aZ c) (bO c) dMod):=mI aUP (λ_ _ _=>.int _) λa b d h=>by
 unfold dMod at h;split at h
 · ext
 simp_all
theorem aKK:OpR X (compareOp .Lt) (r2D (aZ c) (aZ c) (bO c) dLt):=mI (xZ aXZ) (λ_ _ _=>.bl _) λa b d h=>by
 unfold dLt at h;split at h<;>simp_all
theorem aVE:OpR X (compareOp .LtE) (r2D (aZ c) (aZ c) (bO c) dLe):=mI (xZ aX0) (λ_ _ _=>.bl _) λa b d h=>by
 unfold dLe at h;split at h<;>simp_all
theorem aKL:OpR X (compareOp .Gt) (r2D (aZ c) (aZ c) (bO c) dGt):=mI (xZ aX1) (λ_ _ _=>.bl _) λa b d h=>by
 unfold dGt at h;split at h<;>simp_all
theorem aVF:OpR X (compareOp .GtE) (r2D (aZ c) (aZ c) (bO c) dGe):=mI (xZ aX2) (λ_ _ _=>.bl _) λa b d h=>by
 unfold dGe at h;split at h<;>simp_all
theorem aKM:cJ dSub:=by intro a b e h;unfold dSub at h;split at h<;>cases h
theorem aKN:cJ dMul:=by intro a b e h;unfold dMul at h;split at h<;>(try split at h)<;>cases h
theorem aKO:cJ dDiv:=by intro a b e h;unfold dDiv at h;split at h<;>(try split at h)<;>cases h
theorem aKP:cJ dMod:=by intro a b e h;unfold dMod at h;split at h<;>(try split at h)<;>cases h
theorem aCZ:cJ dLt:=by intro a b e h;unfold dLt at h;split at h<;>cases h
theorem aNH:cJ dLe:=by intro a b e h;unfold dLe at h;split at h<;>cases h
theorem aC0:cJ dGt:=by intro a b e h;unfold dGt at h;split at h<;>cases h
theorem aNI:cJ dGe:=by intro a b e h;unfold dGe at h;split at h<;>cases h
theorem wF:cJ dEq:=by intro a b e h;unfold dEq at h;ext
theorem wG:cJ dNe:=by intro a b e h;unfold dNe at h;ext
theorem aNJ:cJ dIs:=by intro a b e h;unfold dIs at h;ext
theorem aH6:cJ dIsnt:=by intro a b e h;unfold dIsnt at h;ext
theorem aC1:cJ dIn:=by intro a b e h;unfold dIn at h;split at h<;>cases h
theorem aA9:cJ dNin:=by intro a b e h;unfold dNin at h;split at h<;>cases h
theorem aKQ:pK dNeg:=by intro a e h;unfold dNeg at h;split at h<;>cases h
theorem qR:cJ dIx:=by
 intro a b e h
 unfold dIx at h
 ext
theorem aRE:UnR X (unaryOp .USub) (r1D (aZ c) (bO c) dNeg):=by
 intro ap s Z H v x Q I f h
 obtain⟨j,F,a,d,g,e,b,q⟩:=h
 unfold dNeg at b
 split at b
 .rename_i i
  cases b
  obtain rfl:=aQ.int_of e
  exact aUQ ap s Z H _ x Q I f ⟨i,rfl,q _ F H (Ext.refl g) (.int _)⟩
 simp_all
theorem aC2(i:X.K=c.K)(l:X.A.units+64 < cLine):OpR X (compareOp .Eq) (r2D (aZ c) (aZ c) (bO c) dEq):=by
 intro ap s Z H v u x y Q I k n h
 obtain⟨o,H1,F,a,b,d,f,j,m,e,q⟩:=h
 unfold dEq at e
 split at e
 .rename_i g
  cases e
  exact aU1 l ap s Z H _ _ x y Q I k n ⟨a,b,by rw[i];exact aQ.heap f j,by rw[i];exact aQ.heap f m,g.1,g.2,q _ F H (Ext.refl f) (.bl _)⟩
 simp_all
theorem aC3(i:X.K=c.K)(l:X.A.units+64 < cLine):OpR X (compareOp .NotEq) (r2D (aZ c) (aZ c) (bO c) dNe):=by
 intro ap s Z H v u x y Q I k n h
 obtain⟨o,H1,F,a,b,d,f,j,m,e,q⟩:=h
 unfold dNe at e
 split at e
 .rename_i g
  cases e
  exact aU2 l ap s Z H _ _ x y Q I k n ⟨a,b,by rw[i];exact aQ.heap f j,by rw[i];exact aQ.heap f m,g.1,g.2,q _ F H (Ext.refl f) (.bl _)⟩
 simp_all
theorem oH{F H:Hp}{v:V}{d:D4}(h:aQ K F H v d):decide (v=.non)=iR d:=by
 rcases h with h|⟨p,vs,xs,h1,h2,_⟩
 · cases h <;> rfl
 · subst h1 h2; rfl
theorem aVG:OpR X (compareOp .Is) (r2D (aZ c) (aZ c) (bO c) dIs):=by
 intro ap s Z H v u x y Q I i l h
 obtain⟨m,H1,F,a,b,d,j,f,k,e,q⟩:=h
 unfold dIs at e
 split at e
 .rename_i g
  cases e
  have e2:=oH k
  rw[g]at e2
  refine aUR ap s Z H _ _ x y Q I i l ⟨BC e2,q _ F H (Ext.refl j) ?_⟩
  rw[oH f];exact .bl _
 simp_all
theorem aNK:OpR X (compareOp .IsNot) (r2D (aZ c) (aZ c) (bO c) dIsnt):=by
 intro ap s Z H v u x y Q I i l h
 obtain⟨m,H1,F,a,b,d,j,f,k,e,q⟩:=h
 unfold dIsnt at e
 split at e
 .rename_i g
  cases e
  have e2:=oH k
  rw[g]at e2
  refine aQI ap s Z H _ _ x y Q I i l ⟨BC e2,q _ F H (Ext.refl j) ?_⟩
  rw[oH f];exact .bl _
 simp_all
theorem hJ{xs:L9 D4}(h:shaped (.list xs)=true):PyData.canLayAll0 xs=true/\PyData.depthAll xs<=63:=by
 have h':(PyData.canLay0 _ && decide _)=true:=h
 rw[BJ]at h'
 have a:PyData.depthAll xs+1<=64:=BC h'.2
 exact⟨h'.1,by ext⟩
theorem l6{xs:L9 D4}(h:shaped (.tuple xs)=true):PyData.canLayAll0 xs=true/\PyData.depthAll xs<=63:=by
 have h':(PyData.canLay0 _ && decide _)=true:=h
 rw[BJ]at h'
 have a:PyData.depthAll xs+1<=64:=BC h'.2
 exact⟨h'.1,by ext⟩
theorem cR{d:D4}(h:shaped d=true):d.canLay0=true:=by
 have h':(PyData.canLay0 d && decide _)=true:=h
 ext
theorem inD_cases{x y:D4}{b:Bool}(h:inD x y=some b):(∃ i j,x=.str i/\y=.str j/\b = !(Builtin.Str.occurrences j i 0 j.length 1).isEmpty) \/
  (∃ xs,y=.list xs/\shaped x=true/\shaped (.list xs)=true/\b=xs.any λz=>PyData.eqv z x)\/(∃ xs,y=.tuple xs/\shaped x=true/\shaped (.tuple xs)=true/\b=xs.any λz=>PyData.eqv z x):=by
 unfold inD at h
 ext
theorem nM{a b:Nat}(h:a<=63):min a b<=63:=BB (GM _ _) h
theorem aKR(g:X.K=c.K)(z:X.A.units+64 < cLine):OpR X (compareOp .In) (r2D (aZ c) (aZ c) (bO c) dIn):=by
 intro ap s Z H v u x y Q I k o h
 obtain⟨B,H1,F,a,b,d,e,m,l,n,q⟩:=h
 unfold dIn at n
 split at n
 .rename_i t p
  cases n
  have f:EP X ap Z Q _ s:=⟨.bl t,H,I,rfl,q _ F H (Ext.refl e) (.bl _)⟩
  rcases inD_cases p with ⟨i,j,rfl,rfl,rfl⟩|⟨xs,rfl,h1,h2,rfl⟩|⟨xs,rfl,h1,h2,rfl⟩
  .obtain rfl:=aQ.str_of m
   obtain rfl:=aQ.str_of l
   exact aJO ap s Z H _ _ x y Q I k o ⟨i,j,rfl,rfl,q _ F H (Ext.refl e) (.bl _)⟩
  .obtain ⟨w,r1⟩:=DatV.reads I (by rw[g];exact aQ.heap e m) (cR h1) k
   obtain⟨bs,r2⟩:=DatV.reads I (by rw[g];exact aQ.heap e l) (cR h2) o
   have r:=nM (b:=a.depth) (hJ h2).2
   exact SeqAt.in_list_reads r2 r1 (hJ h2).1 (cR h1) (by ext) f
  .obtain ⟨w,r1⟩:=DatV.reads I (by rw[g];exact aQ.heap e m) (cR h1) k
   obtain⟨bs,r2⟩:=DatV.reads I (by rw[g];exact aQ.heap e l) (cR h2) o
   have r:=nM (b:=a.depth) (l6 h2).2
   exact SeqAt.in_tuple_reads r2 r1 (l6 h2).1 (cR h1) (by ext) f
 simp_all
theorem aFK(f:X.K=c.K)(t:X.A.units+64 < cLine):OpR X (compareOp .NotIn) (r2D (aZ c) (aZ c) (bO c) dNin):=by
 intro ap s Z H v u x y Q I g n h
 obtain⟨w,H1,F,a,b,d,e,l,k,m,q⟩:=h
 unfold dNin at m
 split at m
 .rename_i z o
  cases m
  rcases inD_cases o with ⟨i,j,rfl,rfl,rfl⟩|⟨xs,rfl,h1,h2,rfl⟩|⟨xs,rfl,h1,h2,rfl⟩
  .obtain rfl:=aQ.str_of l
   obtain rfl:=aQ.str_of k
   exact aCC ap s Z H _ _ x y Q I g n ⟨i,j,rfl,rfl,q _ F H (Ext.refl e) (.bl _)⟩
  .obtain ⟨r,r1⟩:=DatV.reads I (by rw[f];exact aQ.heap e l) (cR h1) g
   obtain⟨bs,r2⟩:=DatV.reads I (by rw[f];exact aQ.heap e k) (cR h2) n
   have p:=nM (b:=a.depth) (hJ h2).2
   exact SeqAt.notIn_list_reads r2 r1 (hJ h2).1 (cR h1) (by ext) (⟨.bl _,H,I,rfl,q _ F H (Ext.refl e) (.bl _)⟩)
  .obtain ⟨r,r1⟩:=DatV.reads I (by rw[f];exact aQ.heap e l) (cR h1) g
   obtain⟨bs,r2⟩:=DatV.reads I (by rw[f];exact aQ.heap e k) (cR h2) n
   have p:=nM (b:=a.depth) (l6 h2).2
   exact SeqAt.notIn_tuple_reads r2 r1 (l6 h2).1 (cR h1) (by ext) (⟨.bl _,H,I,rfl,q _ F H (Ext.refl e) (.bl _)⟩)
 simp_all
theorem aB1(t:X.K=c.K):IxR X (r2D (aZ c) (aZ c) (bO c) dIx):=by
 intro value e ap s Z H v u x y Q I m r h l
 obtain⟨B,H1,F,a,b,d,j,o,n,f,q⟩:=h
 unfold dIx at f
 split at f
 .rename_i xs i
  split at f
  .rename_i w k
   cases f
   obtain⟨p,vs,rfl,h1,h2⟩:=aQ.lst_of j o
   obtain rfl:=aQ.int_of n
   obtain⟨z,g⟩:=aCY h2 k
   rw[<-t]at h1
   exact uE value e ap s Z H _ _ x y Q I m r ⟨p,vs,i,z,rfl,rfl,h1,g.1,q _ F H (Ext.refl j) g.2⟩ l
  simp_all
 .rename_i xs i
  split at f
  .rename_i w k
   cases f
   obtain⟨p,vs,rfl,_,h1,h2⟩:=aQ.tup_of j o
   obtain rfl:=aQ.int_of n
   obtain⟨z,g⟩:=aCY h2 k
   rw[<-t]at h1
   exact aJS value e ap s Z H _ _ x y Q I m r ⟨p,vs,i,z,rfl,rfl,h1,g.1,q _ F H (Ext.refl j) g.2⟩ l
  simp_all
 .rename_i z i
  split at f
  .rename_i A
   split at f
   .rename_i w k
    cases f
    obtain rfl:=aQ.str_of o
    obtain rfl:=aQ.int_of n
    exact aJT value e ap s Z H _ _ x y Q I m r ⟨z,i,w,rfl,rfl,A,k,q _ F H (Ext.refl j) (.str _)⟩ l
   simp_all
  simp_all
 simp_all
def tTf(c:Ct)(E:XK)(f:Sg->R Bool):TT:=λZ H Q=>∃ Y F,Ab c Y Z F H/\Rk c E F H (f Y) λb=>∀ F' H',Ext F H F' H'->Q b H'
abbrev PTf(X:Cx)(c:Ct)(E:XK)(e:Ez)(f:Sg->R Bool):Prop:=PT X e (tTf c E f)
def asB:D4->R Bool
 | .bool b=>.ok b
 | _=>.bad
theorem zP{f:Sg->R D4}{Z:_a.St}{H:Hp}{Q:Bool->Hp->Prop}(h:tTf c E (e1 asB f) Z H Q):tV (bO c) c E f Z H λx H'=>∃ k,x=.bl k/\Q k H':=by
 obtain⟨Y,F,ab⟩:=h
 refine⟨Y,F,ab.1,(Rk.bind ab.2).imp λd _ q v a H' s r=>?_⟩
 cases d with
 | bool b=>exact⟨b,DatV.bl_of r,Rk.ok q a H' s⟩
 | _=>exact False.elim q
theorem iH{d:CmpOp}{g:D4->D4->R D4}{e fb:Sg->R D4}(f:OpR X (compareOp d) (r2D (aZ c) (aZ c) (bO c) g))(i:cJ g)(k:PR X c E a e)(hb:PR X c E b fb)(j:behindInMarks d b=false):PTf X c E (.Compare a [d] [b] pos) (e1 asB (e2 g e fb)):=
 PT.imp (zB f k hb j) λZ H Q h=>tV2 xY i (sL c) (l5 c) (zP h)
theorem rY{f:Sg->R D4}(h:PD X c E e f)(a:∀ whole,isTrue e X.env whole=(do let v <-whole;standAt e.pos;holding [v] (truthy v)):=by intro _;rfl):PTf X c E e (e1 asB f):=
 PT.imp (_a.rY h a) λZ H Q h=>zP h
def mQ(f g:Sg->R Bool):Sg->R Bool:=λY=>(f Y).bind λb=>if b=true then g Y else .ok false
def bOr(f g:Sg->R Bool):Sg->R Bool:=λY=>(f Y).bind λb=>if b=true then .ok true else g Y
def wH(f:Sg->R Bool):Sg->R Bool:=λY=>(f Y).bind λb=>.ok (!b)
abbrev PWf(X:Cx)(c:Ct)(E:XK)(e:Ez)(f:Sg->R Bool):Prop:=PW X e (tTf c E f)
theorem PW.imp{X:Cx}{e:Ez}{t t':TT}(h:PW X e t)(i:∀ Z H Q,t' Z H Q->t Z H Q):PW X e t':=λa ap s Z H Q I q=>h a ap s Z H Q I (i Z H Q q)
theorem aZR{f g:Sg->R Bool}{Z:_a.St}{H:Hp}{Q:Bool->Hp->Prop}(h:tTf c E (mQ f g) Z H Q):aUG (tTf c E f) (tTf c E g) Z H Q:=by
 obtain⟨Y,F,ab⟩:=h
 refine⟨Y,F,ab.1,(Rk.bind ab.2).imp λb _ q a H' s=>?_⟩
 cases b with
 | true=>exact⟨Y,a,ab.1.ext s,(Rk.ext s q).imp λd _ z e H2 i=>z e H2 (s.trans i)⟩
 | false=>exact Rk.ok q a H' s
theorem tor{f g:Sg->R Bool}{Z:_a.St}{H:Hp}{Q:Bool->Hp->Prop}(h:tTf c E (bOr f g) Z H Q):tOr (tTf c E f) (tTf c E g) Z H Q:=by
 obtain⟨Y,F,ab⟩:=h
 refine⟨Y,F,ab.1,(Rk.bind ab.2).imp λb _ q a H' s=>?_⟩
 cases b with
 | false=>exact⟨Y,a,ab.1.ext s,(Rk.ext s q).imp λd _ z e H2 i=>z e H2 (s.trans i)⟩
 | true=>exact Rk.ok q a H' s
theorem uC{f:Sg->R Bool}(h:PTf X c E a f):PWf X c E (.BoolOp .And [a] pos) f:=_a.uC h
theorem aCA{f:Sg->R Bool}(h:PTf X c E a f):PWf X c E (.BoolOp .Or [a] pos) f:=_a.aCA h
theorem xG{f g:Sg->R Bool}{rest:L9 Ez}(h:PTf X c E a f)(h2:PWf X c E (.BoolOp .And (b::rest) pos) g):PWf X c E (.BoolOp .And (a::b::rest) pos) (mQ f g):=PW.imp (_a.xG h h2) λ_ _ _ q=>aZR q
theorem aHA{f g:Sg->R Bool}{rest:L9 Ez}(h:PTf X c E a f)(h2:PWf X c E (.BoolOp .Or (b::rest) pos) g):PWf X c E (.BoolOp .Or (a::b::rest) pos) (bOr f g):=PW.imp (_a.aHA h h2) λ_ _ _ q=>tor q
theorem rZ{f:Sg->R Bool}(h:PTf X c E a f):PTf X c E (.UnaryOp .Not a pos) (wH f):=PT.imp (_a.rZ h) λZ H Q Y=>by obtain⟨Y,F,ab⟩:=Y;exact⟨Y,F,ab.1,(Rk.bind ab.2).imp λb _ q d H' s=>Rk.ok q d H' s⟩
def eIf{α:Type}(t:Sg->R Bool)(f g:Sg->R α):Sg->R α:=λY=>(t Y).bind λb=>if b=true then f Y else g Y
theorem aX9{t:Sg->R Bool}{f g:Sg->R D4}{q:Ez}(m:PTf X c E q t)(h:PD X c E a f)(h2:PD X c E b g):PD X c E (.IfExp q a b pos) (eIf t f g):=PE.imp (aMR m h h2) λZ H Q i=>by
 obtain⟨Y,F,ab,k⟩:=i
 refine⟨Y,F,ab,(Rk.bind k).imp λb _ q l H' s=>?_⟩
 cases b with
 | true=>exact aHQ ⟨Y,l,ab.ext s,(Rk.ext s q).imp λd _ z v e H2 j=>z v e H2 (s.trans j)⟩
 | false=>exact aHP ⟨Y,l,ab.ext s,(Rk.ext s q).imp λd _ z v e H2 j=>z v e H2 (s.trans j)⟩
end
def AFs(g:Gb)(K:Frag)(mg:Str->O9 V9)(F:Hp):L9 A->L9 V->Prop
 | [],[]=>True
 | a::as,v::vs=>AF g K mg F a v/\AFs g K mg F as vs
 | _,_=>False
theorem AFs.same{g:Gb}{K:Frag}{mg:Str->O9 V9}{F F':Hp}(s:aD F F'):∀ {as:L9 A} {vs:L9 V},AFs g K mg F as vs->AFs g K mg F' as vs
 | [],[],_=>trivial
 | a::as,v::vs,h=>⟨AF.same s h.1,AFs.same s h.2⟩
theorem AFs.len{g:Gb}{K:Frag}{mg:Str->O9 V9}{F:Hp}:∀ {as:L9 A} {vs:L9 V},AFs g K mg F as vs->vs.length=as.length
 | [],[],_=>rfl
 | a::as,v::vs,h=>by rw[AT,AT,AFs.len h.2]
theorem PA.imp{X:Cx}{es:L9 Ez}{t t':TA}(h:PA X es t)(i:∀ Z H Q,t' Z H Q->t Z H Q):PA X es t':=λpos ap s Z H Q I q=>h pos ap s Z H Q I (i Z H Q q)
def tAd(c:Ct)(E:XK)(f:Sg->R (L9 D4)):TA:=λZ H Q=>∃ Y F,Ab c Y Z F H/\Rk c E F H (f Y) λds=>∀ vs F' H',Ext F H F' H'->DatVs c.K F' vs ds->Q vs H'
def tAv(c:Ct)(E:XK)(f:Sg->R (L9 A)):TA:=λZ H Q=>∃ Y F,Ab c Y Z F H/\Rk c E F H (f Y) λds=>∀ vs F' H',Ext F H F' H'->AFs c.g c.K c.mg F' ds vs->Q vs H'
abbrev PAd(X:Cx)(c:Ct)(E:XK)(es:L9 Ez)(f:Sg->R (L9 D4)):Prop:=PA X es (tAd c E f)
abbrev PAv(X:Cx)(c:Ct)(E:XK)(es:L9 Ez)(f:Sg->R (L9 A)):Prop:=PA X es (tAv c E f)
noncomputable def aB{α:Type}:Sg->R (L9 α):=λ_=>.ok []
def aA{α:Type}(f:Sg->R α)(g:Sg->R (L9 α)):Sg->R (L9 α):=λY=>(f Y).bind λx=>(g Y).bind λxs=>.ok (x::xs)
section
variable{X:Cx}{c:Ct}{E:XK}{e a b:Ez}{es:L9 Ez}{pos:Pos}
theorem aFL:PAd X c E [] aB:=PA.imp bI λZ H Q Y=>by obtain⟨Y,F,ab⟩:=Y;exact Rk.ok ab.2 [] F H (Ext.refl ab.1.fh) .nil
theorem aFM:PAv X c E [] aB:=PA.imp bI λZ H Q Y=>by obtain⟨Y,F,ab⟩:=Y;exact Rk.ok ab.2 [] F H (Ext.refl ab.1.fh) trivial
theorem lM{f:Sg->R D4}{g:Sg->R (L9 D4)}(h:PD X c E e f)(h2:PAd X c E es g)(j:autoParam (starEach (e::es) X.env=(false,eval e X.env)::starEach es X.env) z3):PAd X c E (e::es) (aA f g):=PA.imp (aT h h2 j) λZ H Q a=>by
 obtain⟨Y,F,ab,k⟩:=a
 refine⟨Y,F,ab,(Rk.bind k).imp λx _ q v i H1 s1 r1=>⟨Y,i,ab.ext s1,((Rk.bind q).ext s1).imp λxs _ q vs d H2 b r2=>?_⟩⟩
 exact Rk.ok q _ d H2 (s1.trans b) (.cons (DatV.same b.ff r1) r2)
theorem gD{f:Sg->R A}{g:Sg->R (L9 A)}(h:PV X c E e f)(h2:PAv X c E es g)(j:autoParam (starEach (e::es) X.env=(false,eval e X.env)::starEach es X.env) z3):PAv X c E (e::es) (aA f g):=PA.imp (aT h h2 j) λZ H Q a=>by
 obtain⟨Y,F,ab,k⟩:=a
 refine⟨Y,F,ab,(Rk.bind k).imp λx _ q v i H1 s1 r1=>⟨Y,i,ab.ext s1,((Rk.bind q).ext s1).imp λxs _ q vs d H2 b r2=>?_⟩⟩
 exact Rk.ok q _ d H2 (s1.trans b) ⟨AF.same b.ff r1,r2⟩
def bH(f:Sg->R (L9 D4)):Sg->R D4:=λY=>(f Y).bind λxs=>if xs.length<=16777216 then .ok (.tuple xs)else .bad
def dI(f:Sg->R (L9 D4)):Sg->R (L9 D4):=λY=>(f Y).bind λxs=>if xs.length<=16777216 then .ok xs else .bad
theorem fQ:sizeLine=16777216:=sizeLine_eq
theorem aVH{x1}{f:Sg->R (L9 D4)}(h:PAd X c E es f):PD X c E (.Tuple es x1 pos) (bH f):=PE.imp (aUU h) λZ H Q b=>by
 obtain⟨Y,F,ab,k⟩:=b
 refine⟨Y,F,ab,(Rk.bind k).imp λxs _ q vs e H1 s1 r1=>?_⟩
 by_cases a:xs.length<=16777216
 .rw[AJ a]at q
  refine⟨by rw[r1.length];exact a,λp d=>?_⟩
  exact Rk.ok q _ _ _ (s1.trans (Ext.new s1.fh d)) (.tup (SqT.of aO) (r1.same (aD.upd (aU s1.fh d))))
 .rw[AL a]at q;exact q.elim
theorem aC4{f:Sg->R (L9 D4)}(h:PAd X c E es f):PN X c E (.List es pos) (dI f):=PE.imp (aCF h) λZ H Q b=>by
 obtain⟨Y,F,ab,k⟩:=b
 refine⟨Y,F,ab,(Rk.bind k).imp λxs _ q vs e H1 s1 r1=>?_⟩
 by_cases a:xs.length<=16777216
 .rw[AJ a]at q
  refine⟨by rw[r1.length];exact a,λp d=>?_⟩
  exact Rk.ok q _ _ _ (s1.trans (Ext.own s1.fh d)) ⟨p,vs,rfl,aU s1.hh d,aO,aU s1.fh d,r1⟩
 .rw[AL a]at q;exact q.elim
noncomputable def dLen:D4->R D4
 | .str z=>if z.length<=16777216 then .ok (.int z.length)else .bad
 | .list xs=>.ok (.int xs.length)
 | .tuple xs=>.ok (.int xs.length)
 | _=>.bad
theorem plain_len:pK dLen:=by intro a e h;unfold dLen at h;split at h<;>(try split at h)<;>cases h
theorem aKS{j:Sg->R D4}(k:X.K=c.K)(h0:PE X e (tCB (λxs H Q=>∃ x n,xs=[x]/\aUS X.K x H n/\Q (.int n) H) (c6 (tV (aZ c) c E j) gK))):PD X c E e (e1 dLen j):=
 PE.imp h0 λZ H Q h=>by
  obtain⟨Y,F,ab⟩:=tV1 aBZ plain_len (l5 c) h
  refine⟨Y,F,ab.1,ab.2.imp λd _ q v l H' s r=>?_⟩
  obtain⟨o,i,a,m,f,g,b,q⟩:=q v l H' s r
  unfold dLen at b
  split at b
  .split at b
   .cases b
    obtain rfl:=aQ.str_of g
    exact⟨_,_,rfl,⟨by assumption,rfl⟩,q _ i H' (Ext.refl f) (.int _)⟩
   simp_all
  .cases b
   obtain⟨p,vs,rfl,h1,h2⟩:=aQ.lst_of f g
   rw[<-k]at h1
   exact⟨_,vs.length,rfl,.inl ⟨vs,h1,rfl⟩,q _ i H' (Ext.refl f) (by rw[h2.length];exact .int _)⟩
  .cases b
   obtain⟨p,vs,rfl,_,h1,h2⟩:=aQ.tup_of f g
   rw[<-k]at h1
   exact⟨_,vs.length,rfl,.inr ⟨vs,h1,rfl⟩,q _ i H' (Ext.refl f) (by rw[h2.length];exact .int _)⟩
  simp_all
noncomputable def dTup:D4->R D4
 | .list xs=>.ok (.tuple xs)
 | .tuple xs=>.ok (.tuple xs)
 | _=>.bad
theorem aKT:pK dTup:=by intro a e h;unfold dTup at h;split at h<;>cases h
theorem wI{g:Sg->R D4}(j:X.K=c.K)(h0:PE X e (tCB (λxs H Q=>∃ p ys,xs=[.ref p]/\((SqL X.K H p ys/\∀ l,H l=none->Q (.ref l) (upd H l (.tup ys)))\/(SqT X.K H p ys/\Q (.ref p) H))) (c6 (tV (aZ c) c E g) gK))):PD X c E e (e1 dTup g):=
 PE.imp h0 λZ H Q h=>by
  obtain⟨Y,F,ab⟩:=tV1 aBZ aKT (l5 c) h
  refine⟨Y,F,ab.1,ab.2.imp λd _ q v n H' s r=>?_⟩
  obtain⟨u,m,a,t,b,k,f,q⟩:=q v n H' s r
  unfold dTup at f
  split at f
  .cases f
   obtain⟨p,vs,rfl,h1,h2⟩:=aQ.lst_of b k
   rw[<-j]at h1
   exact⟨p,vs,rfl,.inl ⟨h1,λl i=>q _ _ _ (Ext.new b i) (.tup (SqT.of aO) (h2.same (aD.upd (aU b i))))⟩⟩
  .cases f
   obtain⟨p,vs,rfl,o,h1,h2⟩:=aQ.tup_of b k
   rw[<-j]at h1
   exact⟨p,vs,rfl,.inr ⟨h1,q _ m H' (Ext.refl b) (.tup o h2)⟩⟩
  simp_all
noncomputable def dInt:D4->R D4
 | .int i=>.ok (.int i)
 | .bool b=>.ok (.int (if b=true then 1 else 0))
 | _=>.bad
theorem aKU:pK dInt:=by intro a e h;unfold dInt at h;split at h<;>cases h
theorem aRF{l:Sg->R D4}(h0:PE X e (tCB (λxs H Q=>(∃ i,xs=[.int i]/\Q (.int i) H)\/∃ k,xs=[.bl k]/\Q (.int (if k then 1 else 0)) H) (c6 (tV (aZ c) c E l) gK))):PD X c E e (e1 dInt l):=
 PE.imp h0 λZ H Q h=>by
  obtain⟨Y,F,ab⟩:=tV1 aBZ aKU (l5 c) h
  refine⟨Y,F,ab.1,ab.2.imp λd _ q v n H' s r=>?_⟩
  obtain⟨p,j,a,o,m,g,f,q⟩:=q v n H' s r
  unfold dInt at f
  split at f
  .cases f
   obtain rfl:=aQ.int_of g
   exact .inl ⟨_,rfl,q _ j H' (Ext.refl m) (.int _)⟩
  .rename_i b
   cases f
   obtain rfl:=aQ.bl_of g
   exact .inr ⟨b,rfl,q _ j H' (Ext.refl m) (by cases b<;>exact .int _)⟩
  simp_all
end
inductive Fw where
 | nx (Y:Sg)|bk (Y:Sg)|ct (Y:Sg)|rt (a:A)
def AR(g:Gb)(K:Frag)(mg:Str->O9 V9)(H F' H':Hp):A->V->Prop
 | .l xs,v=>∃ p us,v=.ref p/\H p=none/\H' p=some (.lst us)/\F' p=none/\DatVs K F' us xs
 | a,v=>AF g K mg F' a v
theorem AR.of{g:Gb}{K:Frag}{mg:Str->O9 V9}{H b H':Hp}{a:A}{v:V}(h:AF g K mg b a v):AR g K mg H b H' a v:=by
 cases a with
 | l xs=>exact False.elim h
 | _=>exact h
def oX(c:Ct)(F:Hp)(D:kC):Fw->Prop
 | .nx Y=>∀ Z' F' H',aD F F'->Ab c Y Z' F' H'->D.nx Z' H'
 | .bk Y=>∀ Z' F' H',aD F F'->Ab c Y Z' F' H'->D.bk Z' H'
 | .ct Y=>∀ Z' F' H',aD F F'->Ab c Y Z' F' H'->D.ct Z' H'
 | .rt a=>∀ v F' H',Ext c.F0 c.H0 F' H'->AR c.g c.K c.mg c.H0 F' H' a v->D.rt v H'
theorem oX.same{c:Ct}{F F1:Hp}{D:kC}(s:aD F F1):∀ {w:Fw},oX c F D w->oX c F1 D w
 | .nx Y,h=>λb d H' s' ab=>h b d H' (λa o z=>s' a o (s a o z)) ab
 | .bk Y,h=>λb d H' s' ab=>h b d H' (λa o z=>s' a o (s a o z)) ab
 | .ct Y,h=>λb d H' s' ab=>h b d H' (λa o z=>s' a o (s a o z)) ab
 | .rt a,h=>h
def tSf(c:Ct)(E:XK)(f:Sg->R Fw):TS:=λD Z H=>∃ Y F,Ab c Y Z F H/\Rk c E F H (f Y) (oX c F D)
abbrev PSf(X:Cx)(c:Ct)(E:XK)(st:Stmt)(f:Sg->R Fw):Prop:=PS X st (tSf c E f)
abbrev j7(X:Cx)(c:Ct)(E:XK)(st:L9 Stmt)(f:Sg->R Fw):Prop:=PSs X st (tSf c E f)
theorem get_set{α:Type}{l:L9 α}{i j:Nat}{x y:α}(h:(l.set i x)[j]? = some y):(i=j/\y=x/\i < l.length)\/(i≠j/\l[j]? = some y):=by ext
theorem Ab.setF{c:Ct}{Y:Sg}{Z:_a.St}{F H:Hp}{i:Nat}{a:A}{v:V}(b:Ab c Y Z F H)(u:AO c F H a v)(s:a.own=true->∀ (j:Nat) (a':A),j≠i->Y[j]? = some (some a')->a'.own=true->Z[j]? ≠ some (some v)):Ab c (Y.set i (some a)) (Z.set i (some v)) F H where
 len:=by rw[CB,CB];exact b.len
 fh:=b.fh
 slot:=λj a' h=>by
  rcases get_set h with ⟨e,q,o⟩|⟨m,q⟩
  .subst e
   cases q
   exact⟨v,B4 (by rw[<-b.len];exact o),u⟩
  .rw[BK m];exact b.slot j a' q
 apart:=λj k a' t d h1 h2 p r=>by
  rcases get_set h1 with ⟨e,q,o⟩|⟨m,q⟩
  .subst e
   cases q
   rcases get_set h2 with ⟨n,g,l⟩|⟨f,g⟩
   .exact absurd n d
   .rw[B4 (by rw[<-b.len];exact o),BK f]
    exact(s p k t (BQ d) g r).symm
  .rcases get_set h2 with ⟨n,g,l⟩|⟨f,g⟩
   .subst n
    cases g
    rw[B4 (by rw[<-b.len];exact l),BK m]
    exact s r j a' d q p
   .rw[BK m,BK f]
    exact b.apart j k a' t d q g p r
 f0:=b.f0
 h0:=b.h0
 n0:=b.n0
 t0:=b.t0
theorem AO.of{c:Ct}{F H:Hp}:∀ {a:A} {v:V},AF c.g c.K c.mg F a v->AO c F H a v
 | .d x,v,h=>h
 | .x e,v,h=>h
 | .g k n G,v,h=>h
 | .f a0,v,h=>h
 | .o e,v,h=>h
 | .w e,v,h=>h
 | .h _ _ _ _,v,h=>h
theorem AF.notOwn{g:Gb}{K:Frag}{mg:Str->O9 V9}{F:Hp}:∀ {a:A} {v:V},AF g K mg F a v->a.own=false
 | .d x,v,h=>rfl
 | .x e,v,h=>rfl
 | .g k n G,v,h=>rfl
 | .f a0,v,h=>rfl
 | .o e,v,h=>rfl
 | .w e,v,h=>rfl
 | .h _ _ _ _,v,h=>rfl
theorem Ab.setA{c:Ct}{Y:Sg}{Z:_a.St}{F H:Hp}{i:Nat}{a:A}{v:V}(b:Ab c Y Z F H)(d:AF c.g c.K c.mg F a v):Ab c (Y.set i (some a)) (Z.set i (some v)) F H:=
 b.setF (AO.of d) λz=>by rw[AF.notOwn d]at z;ext
theorem Ab.setN{c:Ct}{Y:Sg}{Z:_a.St}{F H a H':Hp}{i:Nat}{xs:L9 D4}{v:V}(b:Ab c Y Z F H)(e:Ext F H a H')(h:zO c xs v H a H'):Ab c (Y.set i (some (.l xs))) (Z.set i (some v)) a H':=by
 obtain⟨p,vs,rfl,h1,h2⟩:=h
 refine(b.ext e).setF ⟨p,vs,rfl,h2.1,h2.2.1,aU b.h0 h1,h2.2.2⟩ λ_ j g _ d k=>?_
 obtain⟨w,f⟩:=b.slot j g d
 rw[f.1]
 intro z
 obtain⟨m,o',o,n,_⟩:=f.2.at k
 ext
theorem Ab.putO{c:Ct}{Y:Sg}{Z:_a.St}{F H:Hp}{i:Nat}{a t:A}{p:Az}{o:HO}(b:Ab c Y Z F H)(hi:Y[i]? = some (some a))(y:a.own=true)(P:Z[i]? = some (some (.ref p)))(Q:t.own=true)(V:AO c F (upd H p o) t (.ref p)) :
  Ab c (Y.set i (some t)) Z F (upd H p o):=by
 obtain⟨v,h1,q⟩:=b.slot i _ hi
 rw[P]at h1
 cases h1
 obtain⟨U,o',B,h2,L⟩:=q.at y
 cases B
 have E:∀ j a w,j≠i->Y[j]? = some (some a)->Z[j]? = some (some w)->AO c F H a w->AO c F (upd H p o) a w:=by
  intro j G w O N T r
  by_cases own:G.own=true
  .refine r.off λz=>?_
   subst z
   exact b.apart j i _ _ O N hi own y (by simp_all)
  .cases G with
   | l zs=>exact absurd rfl own
   | m zs=>exact absurd rfl own
   | d x=>exact r
   | x e=>exact r
   | g k n f=>exact r
   | k S=>exact r
   | f S=>exact r
   | o S=>exact r
   | w S=>exact r
   | h _ _ _ _=>exact r
 exact {
  len:=by rw[CB];exact b.len
  fh:=λa o z=>by rw[aG (λw=>by simp_all)];exact b.fh a o z
  slot:=λj a h=>by
   rcases get_set h with ⟨e,q,M⟩|⟨R,q⟩
   .grind
   .obtain ⟨w,T,r⟩:=b.slot j a q
    ext
  apart:=λj k t I s h1 h2 J K=>by
   rcases get_set h1 with ⟨e,q,M⟩|⟨R,q⟩
   .subst e
    rcases get_set h2 with ⟨B,u,C⟩|⟨D,u⟩
    .grind
    .exact b.apart _ k _ I s hi u y K
   .rcases get_set h2 with ⟨B,u,C⟩|⟨D,u⟩
    .subst B
     exact b.apart j _ t _ s q hi J y
    .exact b.apart j k t I s q u J K
  f0:=b.f0
  h0:=λa o z=>by rw[aG (λw=>by subst w;rw[L.2]at z;cases z)];exact b.h0 a o z
  n0:=b.n0
  t0:=b.t0}
theorem Ab.putL{c:Ct}{Y:Sg}{Z:_a.St}{F H:Hp}{i:Nat}{xs ys:L9 D4}{p:Az}{vs:L9 V}(b:Ab c Y Z F H)(hi:Y[i]? = some (some (.l xs)))(a:Z[i]? = some (some (.ref p)))(d:DatVs c.K F vs ys) :
  Ab c (Y.set i (some (.l ys))) Z F (upd H p (.lst vs)):=by
 obtain⟨v,h1,e,us,rfl,h2⟩:=b.slot i _ hi
 rw[a]at h1
 cases h1
 exact b.putO hi rfl a rfl ⟨p,vs,rfl,aO,h2.2.1,h2.2.2.1,d⟩
theorem Ab.putM{c:Ct}{Y:Sg}{Z:_a.St}{F H:Hp}{i:Nat}{d a:L9 (D4×D4)}{p:Az}{es:L9 Ent}{ep:Nat}(b:Ab c Y Z F H)(hi:Y[i]? = some (some (.m d)))(e:Z[i]? = some (some (.ref p)))(f:MapRel c.K F es a) :
  Ab c (Y.set i (some (.m a))) Z F (upd H p (gN c.w p es ep)):=by
 obtain⟨v,h1,g,us,rfl,h2⟩:=b.slot i _ hi
 rw[e]at h1
 cases h1
 exact b.putO hi rfl e rfl ⟨p,es,rfl,⟨ep,aO⟩,h2.2.1,h2.2.2.1,f⟩
theorem Ab.setM{c:Ct}{Y:Sg}{Z:_a.St}{F H d H':Hp}{i:Nat}{a:L9 (D4×D4)}{p:Az}{es:L9 Ent}{ep:Nat}(b:Ab c Y Z F H)(e:Ext F H d H')(h1:H p=none)(h2:H' p=some (gN c.w p es ep))(h:d p=none)(n:MapRel c.K d es a):Ab c (Y.set i (some (.m a))) (Z.set i (some (.ref p))) d H':=by
 refine(b.ext e).setF ⟨p,es,rfl,⟨ep,h2⟩,h,aU b.h0 h1,n⟩ λ_ j k _ f l=>?_
 obtain⟨w,g⟩:=b.slot j k f
 rw[g.1]
 intro z
 cases z
 obtain⟨o,o',q⟩:=g.2.at l
 ext
noncomputable def fz(i:Nat)(Y:Sg):Sg:=match Y[i]? with
 | some (some (.l xs))=>Y.set i (some (.d (.list xs)))
 | _=>Y
theorem Ab.publ{c:Ct}{Y:Sg}{Z:_a.St}{F H:Hp}{i:Nat}{B u:A}{p:Az}{o:HO}(b:Ab c Y Z F H)(hi:Y[i]? = some (some B))(W:Z[i]? = some (some (.ref p)))(M:B.own=true)(h2:H p=some o)(D:F p=none)(P:c.H0 p=none)(U:u.own=false)(hr:AO c (upd F p o) H u (.ref p)):Ab c (Y.set i (some u)) Z (upd F p o) H:=by
 have s:aD F (upd F p o):=aD.upd D
 exact {
  len:=by rw[CB];exact b.len
  fh:=λa o' z=>by
   by_cases w:a=p
   .subst w;rw[aO]at z;rw[h2];ext
   .rw[aG w]at z;exact b.fh a o' z
  slot:=λj a h=>by
   rcases get_set h with ⟨e,q,J⟩|⟨C,q⟩
   .grind
   .obtain ⟨w,Q,t⟩:=b.slot j a q
    refine⟨w,Q,?_⟩
    have off:∀ r,a.own=true->w=.ref r->F r=none->upd F p o r=none:=λr O e f=>by
     rw[aG]
     .omega
     .intro z
      subst z
      exact b.apart j i _ _ (BQ C) q hi O M (by simp_all)
    cases a with
    | l zs=>obtain⟨r,ws,e⟩:=t;exact⟨r,ws,e.1,e.2.1,off r rfl e.1 e.2.2.1,e.2.2.2.1,e.2.2.2.2.same s⟩
    | m a0=>obtain⟨r,ws,e⟩:=t;exact⟨r,ws,e.1,e.2.1,off r rfl e.1 e.2.2.1,e.2.2.2.1,e.2.2.2.2.same s⟩
    | d x=>exact DatV.same s t
    | x e=>exact AF.same (g:=c.g) (a:=.x e) s t
    | g k n f=>exact AF.same (K:=c.K) (mg:=c.mg) (a:=.g k n f) s t
    | k S=>obtain⟨S,f,cl,doc,pm,E,ct,h0⟩:=t;exact⟨S,f,cl,doc,pm,E,ct,h0.1,h0.2.1,s _ _ h0.2.2.1,s _ _ h0.2.2.2.1,h0.2.2.2.2⟩
    | f a0=>exact AF.same (mg:=c.mg) (a:=.f a0) s t
    | o e=>exact AF.same (g:=c.g) (a:=.o e) s t
    | w e=>exact t
    | h k n f ds=>exact AF.same (mg:=c.mg) (a:=.h k n f ds) s t
  apart:=λj k G N v h1 h2 R T=>by
   rcases get_set h1 with ⟨e,q,J⟩|⟨C,q⟩
   .grind
   .rcases get_set h2 with ⟨V,y,I⟩|⟨L,y⟩
    .grind
    .exact b.apart j k G N v q y R T
  f0:=λa o z=>s a o (b.f0 a o z)
  h0:=b.h0
  n0:=λa z n=>by
   by_cases w:a=p
   .subst w;exact .inl P
   .rw[aG w]at n;exact b.n0 a z n
  t0:=b.t0}
theorem Ab.frz{c:Ct}{Y:Sg}{Z:_a.St}{F H:Hp}(b:Ab c Y Z F H)(i:Nat):∃ F',aD F F'/\Ab c (fz i Y) Z F' H:=by
 unfold fz
 split
 .rename_i xs hi
  obtain⟨v,a,p,vs,rfl,h2⟩:=b.slot i _ hi
  exact⟨_,aD.upd h2.2.1,b.publ hi a rfl h2.1 h2.2.1 h2.2.2.1 rfl (.lst (SqL.of aO) (h2.2.2.2.same (aD.upd h2.2.1)))⟩
 .exact ⟨F,bF F,b⟩
section
variable{X:Cx}{c:Ct}{E:XK}{e a b:Ez}{st:Stmt}{rest:L9 Stmt}{pos:Pos}
def sFz(i:Nat)(f:Sg->R Fw):Sg->R Fw:=λY=>f (fz i Y)
theorem aPS(i:Nat){f:Sg->R Fw}(h:PSf X c E st f):PSf X c E st (sFz i f):=PS.imp h λD Z H b=>by
 obtain⟨Y,F,ab,k⟩:=b
 obtain⟨d,s⟩:=ab.frz i
 refine⟨fz i Y,d,s.2,?_⟩
 have a:Rk c E F H (f _) _:=k
 cases q:f _ with
 | bad=>rw[q]at a;exact a
 | ok w=>rw[q]at a;exact oX.same s.1 a
 | ex e=>rw[q]at a;exact a
noncomputable def sNx:Sg->R Fw:=λY=>.ok (.nx Y)
def aC(f g:Sg->R Fw):Sg->R Fw:=λY=>(f Y).bind λw=>match w with
 | .nx Y'=>g Y'
 | w=>.ok w
theorem o7:j7 X c E [] sNx:=PSs.imp _a.o7 λD Z H Y=>by obtain⟨Y,F,ab⟩:=Y;exact Rk.ok ab.2 Z F H (bF F) ab.1
theorem dQ{f:Sg->R Fw}(h:PSf X c E st f):j7 X c E [st] f:=_a.dQ h
theorem aX{f g:Sg->R Fw}(h:PSf X c E st f)(h2:j7 X c E rest g):j7 X c E (st::rest) (aC f g):=PSs.imp (_a.aX h h2) λD Z H j=>by
 obtain⟨Y,F,ab,k⟩:=j
 refine⟨Y,F,ab,(Rk.bind k).imp λw _ q=>?_⟩
 cases w with
 | nx Y'=>
  intro m l H' s i
  refine⟨Y',l,i,?_⟩
  have b:Rk c E F H (g Y') _:=q
  cases d:g Y' with
  | bad=>rw[d]at b;exact b
  | ok w=>rw[d]at b;exact oX.same s b
  | ex e=>rw[d]at b;exact b
 | bk Y'=>exact q
 | ct Y'=>exact q
 | rt a=>exact q
def aM(f:Sg->R A):Sg->R Fw:=λY=>(f Y).bind λa=>.ok (.rt a)
theorem iU{f:Sg->R A}(h:PV X c E e f):PSf X c E (.Return (some e) pos) (aM f):=PS.imp (_a.iU h) λD Z H Y=>
 by obtain⟨Y,F,ab⟩:=Y;exact⟨Y,F,ab.1,(Rk.bind ab.2).imp λa _ q v b H' s r=>Rk.ok q v b H' (ab.1.all.trans s) (AR.of r)⟩
def sIf(t:Sg->R Bool)(f g:Sg->R Fw):Sg->R Fw:=λY=>(t Y).bind λb=>if b=true then f Y else g Y
theorem Rk.fw{F a H H1:Hp}{D:kC}{r:R Fw}(s:aD F a)(k:Rk c E F H r (oX c F D)):Rk c E a H1 r (oX c a D):=by
 cases r with
 | bad=>exact k
 | ok w=>exact oX.same s k
 | ex e=>exact k
theorem xI{q:Ez}{d h:L9 Stmt}{t:Sg->R Bool}{f g:Sg->R Fw}(i:PTf X c E q t)(j:j7 X c E d f)(hb:j7 X c E h g):PSf X c E (.If q d h pos) (sIf t f g):=PS.imp (_a.xI i j hb) λD Z H a=>by
 obtain⟨Y,F,ab,k⟩:=a
 refine⟨Y,F,ab,(Rk.bind k).imp λb _ q e H' s=>?_⟩
 cases b with
 | true=>exact aHQ ⟨Y,e,ab.ext s,Rk.fw s.ff q⟩
 | false=>exact aHP ⟨Y,e,ab.ext s,Rk.fw s.ff q⟩
def aS(i:Nat)(f:Sg->R A):Sg->R Fw:=λY=>(f Y).bind λa=>.ok (.nx (Y.set i (some a)))
theorem eZ{i:Nat}{f:Sg->R A}(h:PS X st (lH (tV (aH5 c) c E f) (jG i))):PSf X c E st (aS i f):=PS.imp h λD Z H Y=>
 by obtain⟨Y,F,ab⟩:=Y;exact⟨Y,F,ab.1,(Rk.bind ab.2).imp λa _ q v b H' s r=>Rk.ok q _ b H' s.ff ((ab.1.ext s).setA r)⟩
def dG(i:Nat)(f:Sg->R (L9 D4)):Sg->R Fw:=λY=>(f Y).bind λxs=>.ok (.nx (Y.set i (some (.l xs))))
theorem uN{f:Sg->R (L9 D4)}(h:PS X st (lH (tV (zO c) c E f) (jG i))):PSf X c E st (dG i f):=PS.imp h λD Z H Y=>
 by obtain⟨Y,F,ab⟩:=Y;exact⟨Y,F,ab.1,(Rk.bind ab.2).imp λa _ q v b H' s r=>Rk.ok q _ b H' s.ff (ab.1.setN s r)⟩
def uO(f:Sg->R A):Sg->R Fw:=λY=>(f Y).bind λ_=>.ok (.nx Y)
theorem jF{f:Sg->R A}(h:PS X st (xH (tV (aH5 c) c E f))):PSf X c E st (uO f):=PS.imp h λD Z H Y=>
 by obtain⟨Y,F,ab⟩:=Y;exact⟨Y,F,ab.1,(Rk.bind ab.2).imp λa _ q v b H' s r=>Rk.ok q _ b H' s.ff (ab.1.ext s)⟩
def iY(i:Nat)(f:Sg->R D4):Sg->R Fw:=λY=>match Y[i]? with
 | some (some (.l xs))=>(f Y).bind λx=>if xs.length < 16777216 then .ok (.nx (Y.set i (some (.l (xs++[x])))))else .bad
 | _=>.bad
theorem aVI{f:Sg->R D4}(e:X.K=c.K)(h:PS X st (xH (tBM X.K "list" zF (g7 i) (c6 (tV (bO c) c E f) gK)))):PSf X c E st (iY i f):=PS.imp h λD Z H ⟨Y,F,ab,k⟩=>by
 unfold iY at k
 split at k
 .rename_i xs hi
  obtain⟨v,b,p,vs,rfl,h2⟩:=ab.slot i _ hi
  refine⟨_,b,.inl ⟨rfl,vs,SqL.of h2.1⟩,Y,F,ab,(Rk.bind k).imp λx _ q u d H1 s1 r1=>?_⟩
  by_cases a:xs.length < 16777216
  .rw[AJ a]at q
   refine⟨p,vs,u,rfl,rfl,s1.hh _ _ h2.1,by rw[h2.2.2.2.length];exact a,?_⟩
   exact Rk.ok q Z d _ s1.ff ((ab.ext s1).putL hi b ((h2.2.2.2.same s1.ff).append (.cons r1 .nil)))
  .rw[AL a]at q;exact q.elim
 .exact k.elim
end
def Tg(c:Ct)(g:TG)(fs:D4->Sg->O9 Sg)(is:L9 Nat):Prop:=∀ (v:V) (x:D4) (Y Y':Sg) (Z:_a.St) (F H:Hp) (Q:_a.St->Hp->Prop),Ab c Y Z F H->DatV c.K F v x->fs x Y=some Y'->
 (∀ Z':_a.St,Z'.length=Z.length->(∀ j:Nat,j∉is->Z'[j]? = Z[j]?)->Ab c Y' Z' F H->Q Z' H)->g v Z H Q
noncomputable def stN(i:Nat):D4->Sg->O9 Sg:=λx Y=>some (Y.set i (some (.d x)))
theorem m7{c:Ct}(i:Nat):Tg c (jG i) (stN i) [i]:=λv x Y b Z F H Q ab r e q=>by
 cases e
 exact q _ CB (λj a=>BK (by ext)) (ab.setA r)
noncomputable def stL:L9 (D4->Sg->O9 Sg)->L9 D4->Sg->O9 Sg
 | [],[],Y=>some Y
 | f::fs,x::xs,Y=>(f x Y).bind (stL fs xs)
 | _,_,_=>none
def Tgs(c:Ct)(g:TGs)(fs:L9 (D4->Sg->O9 Sg))(is:L9 Nat):Prop:=∀ (vs:L9 V) (xs:L9 D4) (Y Y':Sg) (Z:_a.St) (F H:Hp) (Q:_a.St->Hp->Prop),Ab c Y Z F H->DatVs c.K F vs xs->stL fs xs Y=some Y'->
 (∀ Z':_a.St,Z'.length=Z.length->(∀ j:Nat,j∉is->Z'[j]? = Z[j]?)->Ab c Y' Z' F H->Q Z' H)->g vs Z H Q
theorem aFN{c:Ct}:Tgs c aMS [] []:=λvs xs Y a Z F H Q ab r e q=>by
 cases xs with
 | nil=>cases e;exact⟨by cases r;rfl,q Z rfl (λ_ _=>rfl) ab⟩
 | cons x t=>cases e
theorem wJ{c:Ct}{g:TG}{gs:TGs}{f:D4->Sg->O9 Sg}{fs:L9 (D4->Sg->O9 Sg)}{is js:L9 Nat}(h:Tg c g f is)(h2:Tgs c gs fs js):Tgs c (aPG g gs) (f::fs) (is++js):=λvs xs Y i Z F H Q ab r e q=>by
 cases r with
 | nil=>cases e
 | cons r1 r2=>
  rename_i x d vs ds
  have k:(f d Y).bind _=some i:=e
  cases e1:f d Y with
  | none=>simp_all
  | some Y1=>
   rw[e1]at k
   refine⟨_,_,rfl,h _ _ Y Y1 Z F H _ ab r1 e1 λm o k1 a=>h2 _ _ Y1 i m F H _ a r2 k λn l k2 b=>q n (l.trans o) (λj p=>?_) b⟩
   ext
noncomputable def stT(fs:L9 (D4->Sg->O9 Sg)):D4->Sg->O9 Sg:=λx Y=>match x with
 | .tuple xs=>stL fs xs Y
 | _=>none
theorem aFO:∀ {fs:L9 (D4->Sg->O9 Sg)} {xs:L9 D4} {Y Y':Sg},stL fs xs Y=some Y'->xs.length=fs.length
 | [],[],_,_,_=>rfl
 | [],_::_,_,_,h=>by cases h
 | _::_,[],_,_,h=>by cases h
 | f::fs,x::xs,Y,Y',h=>by
  have h':(f x Y).bind _=some Y':=h
  cases e:f x Y with
  | none=>ext
  | some Y1=>
   rw[e]at h'
   have:=aFO h'
   simp[this]
theorem aKV{c:Ct}{gs:TGs}{fs:L9 (D4->Sg->O9 Sg)}{is:L9 Nat}{n:Nat}{K:Frag}(b:K=c.K)(h:Tgs c gs fs is)(d:fs.length=n):Tg c (aUI K n gs) (stT fs) is:=λv x Y f Z F H Q ab r e q=>by
 cases x with
 | tuple xs=>
  obtain⟨a,vs,rfl,h1⟩:=r.tup_of
  subst b
  exact⟨a,vs,rfl,h1.1.same ab.fh,by rw[h1.2.length,aFO e,d],h vs xs Y f Z F H Q ab h1.2 e q⟩
 | _=>cases e
structure Yld(K:Frag)(J:It)(F B:Hp)(xs:List D4):Prop where
 len:xs.length<=sizeLine
 go:∀ (i:Nat) F1 H1,aD F F1->aD F1 H1->aD B H1->i < xs.length->J.go i H1
 yld:∀ (i:Nat) F1 H1 v H2 x,aD F F1->aD F1 H1->aD B H1->J.yld i H1 v H2->xs[i]? = some x->∃ F2,Ext F1 H1 F2 H2/\DatV K F2 v x
 stop:∀ F1 H1,aD F F1->aD F1 H1->aD B H1->J.stop xs.length H1
def tI(c:Ct)(E:XK)(f:Sg->R (L9 D4)):TI:=λZ H Rr=>∃ Y F,Ab c Y Z F H/\Rk c E F H (f Y) λxs=>∀ J B F' H',Ext F H F' H'->aD B H'->Yld c.K J F' B xs->Rr J H'
def tI0(c:Ct)(E:XK)(f:Sg->R (L9 D4)):TI:=λZ H Rr=>∃ Y F,Ab c Y Z F H/\Rk c E F H (f Y) λxs=>∀ J F' H',Ext F H F' H'->Yld c.K J F' (λ_=>none) xs->Rr J H'
theorem PI.imp{X:Cx}{tg e:Ez}{t t':TI}(h:PI X tg e t)(i:∀ Z H Q,t' Z H Q->t Z H Q):PI X tg e t':=λap s Z H Q I q=>h ap s Z H Q I (i Z H Q q)
abbrev PIf(X:Cx)(c:Ct)(E:XK)(tg e:Ez)(f:Sg->R (L9 D4)):Prop:=PI X tg e (tI c E f)
abbrev PI0(X:Cx)(c:Ct)(E:XK)(tg e:Ez)(f:Sg->R (L9 D4)):Prop:=PI X tg e (tI0 c E f)
theorem aPT{X:Cx}{c:Ct}{E:XK}{tg e:Ez}{f:Sg->R (L9 D4)}(h:PI0 X c E tg e f):PIf X c E tg e f:=PI.imp h λZ H Q Y=>
 by obtain⟨Y,F,ab⟩:=Y;exact⟨Y,F,ab.1,ab.2.imp λxs _ q J a H' s y=>q J (λ_=>none) a H' s (λ_ _ z=>nomatch z) y⟩
def kI{H:Hp}:aD (λ_=>none) H:=λ_ _ z=>nomatch z
noncomputable def aP:D4->R (L9 D4)
 | .list xs=>if xs.length<=16777216 then .ok xs else .bad
 | .tuple xs=>if xs.length<=16777216 then .ok xs else .bad
 | .str z=>if z.cps.toList.length<=16777216 then .ok (z.cps.toList.map λu=>.str ⟨#[u]⟩)else .bad
 | _=>.bad
theorem aC5{K:Frag}{F B H:Hp}{a:Az}{vs:L9 V}{xs:L9 D4}(hz:xs.length<=16777216)(g:∀ H1,aD F H1->aD B H1->SqL K H1 a vs)(f:DatVs K F vs xs):Yld K (Itl K a) F B xs where
 len:=by rw[fQ];exact hz
 go:=λi c H1 h1 h2 b hi=>by
  have q:=g H1 (λx o z=>h2 x o (h1 x o z)) b
  exact⟨vs,vs[i]'(by rw[f.length];exact hi),q,by simp⟩
 yld:=λi c H1 v H2 x h1 h2 b y e=>by
  obtain⟨rfl,y⟩:=y
  have q:=y vs (g _ (λx o z=>h2 x o (h1 x o z)) b)
  obtain⟨d,e2,r⟩:=f.get q
  rw[e]at e2
  cases e2
  exact⟨c,Ext.refl h2,r.same h1⟩
 stop:=λc H1 h1 h2 b=>⟨vs,g H1 (λx o z=>h2 x o (h1 x o z)) b,by rw[f.length];exact AM _⟩
theorem aFP{K:Frag}{F B:Hp}{a:Az}{vs:L9 V}{xs:L9 D4}(hz:xs.length<=16777216)(f:SqT K F a vs)(c:DatVs K F vs xs):Yld K (Itt K a) F B xs where
 len:=by rw[fQ];exact hz
 go:=λi b H1 h1 h2 g hi=>by
  have q:=f.same (H':=H1) (λx o z=>h2 x o (h1 x o z))
  exact⟨vs,vs[i]'(by rw[c.length];exact hi),q,by simp⟩
 yld:=λi b H1 v H2 x h1 h2 g y e=>by
  obtain⟨rfl,y⟩:=y
  have q:=y vs (f.same (λx o z=>h2 x o (h1 x o z)))
  obtain⟨d,e2,r⟩:=c.get q
  rw[e]at e2
  cases e2
  exact⟨b,Ext.refl h2,r.same h1⟩
 stop:=λb H1 h1 h2 g=>⟨vs,f.same (λx o z=>h2 x o (h1 x o z)),by rw[c.length];exact AM _⟩
theorem aFQ{K:Frag}{F B:Hp}{z:Str}(hz:z.cps.toList.length<=16777216):Yld K (Its z) F B (z.cps.toList.map λu=>.str ⟨#[u]⟩) where
 len:=by rw[fQ,AC];exact hz
 go:=λi a H1 h1 h2 b hi=>by
  rw[AC,DY]at hi
  exact hi
 yld:=λi a H1 v H2 x h1 h2 b y e=>by
  obtain⟨rfl,u,c,rfl⟩:=y
  rw[AE,DP,c]at e
  cases e
  exact⟨a,Ext.refl h2,.str _⟩
 stop:=λa H1 h1 h2 b=>by
  show(z.cps.toList.map _).length=z.cps.size
  ext
section
variable{X:Cx}{c:Ct}{E:XK}{tg e a b:Ez}{pos:Pos}
theorem aVJ{f:Sg->R D4}(j:X.K=c.K)(h:PD X c E e f):PI0 X c E tg e (e1 aP f):=PI.imp (PI.or (aJ0 h) (aJ9 h)) λZ H Q ⟨Y,F,ab,k⟩=>by
 have b:=Rk.bind k
 cases a:f Y with
 | bad=>rw[a]at b;exact b.elim
 | ex x=>rw[a]at b;exact .inl ⟨Y,F,ab,by rw[a];exact b⟩
 | ok d=>
  rw[a]at b
  have k2:=Rk.ok b
  unfold aP at k2
  split at k2
  .split at k2
   .rename_i g
    refine .inl ⟨Y,F,ab,?_⟩
    rw[a]
    intro v i H' s r
    obtain⟨p,vs,rfl,h1,h2⟩:=DatV.lst_of r
    refine⟨p,rfl,.inl ⟨⟨vs,?_⟩,?_⟩⟩
    · rw [j]; exact h1.same s.fh
    · rw [j]; exact Rk.ok k2 _ i H' s (aC5 (H := H') g (λH1 q _ => h1.same q) h2)
   .exact k2.elim
  .split at k2
   .rename_i g
    refine .inl ⟨Y,F,ab,?_⟩
    rw[a]
    intro v i H' s r
    obtain⟨p,vs,rfl,h1,h2⟩:=DatV.tup_of r
    refine⟨p,rfl,.inr ⟨⟨vs,?_⟩,?_⟩⟩
    · rw [j]; exact h1.same s.fh
    · rw [j]; exact Rk.ok k2 _ i H' s (aFP g h1 h2)
   .exact k2.elim
  .rename_i z
   split at k2
   .rename_i g
    refine .inr ⟨Y,F,ab,?_⟩
    rw[a]
    intro v i H' s r
    obtain rfl:=DatV.str_of r
    exact⟨z,rfl,Rk.ok k2 _ i H' s (aFQ g)⟩
   .exact k2.elim
  .exact k2.elim
theorem aVK{f:Sg->R D4}(j:X.K=c.K)(h:PR X c E e f):PIf X c E tg e (e1 aP f):=PI.imp (PI.or (aJ0 h) (aJ9 h)) λZ H Q ⟨Y,F,ab,k⟩=>by
 have b:=Rk.bind k
 cases a:f Y with
 | bad=>rw[a]at b;exact b.elim
 | ex x=>rw[a]at b;exact .inl ⟨Y,F,ab,by rw[a];exact b⟩
 | ok d=>
  rw[a]at b
  have k2:=Rk.ok b
  unfold aP at k2
  split at k2
  .split at k2
   .rename_i g
    refine .inl ⟨Y,F,ab,?_⟩
    rw[a]
    intro v i H' s r
    obtain⟨p,vs,rfl,h1,h2⟩:=aQ.lst_of s.fh r
    refine⟨p,rfl,.inl ⟨⟨vs,?_⟩,?_⟩⟩
    · ext
    · rw [j]; exact Rk.ok k2 _ H' i H' s (bF _) (aC5 (H := H') g (λH1 _ q => h1.same q) h2)
   .exact k2.elim
  .split at k2
   .rename_i g
    refine .inl ⟨Y,F,ab,?_⟩
    rw[a]
    intro v i H' s r
    obtain⟨p,vs,rfl,h1,h2⟩:=aQ.tup_of s.fh r
    refine⟨p,rfl,.inr ⟨⟨vs,?_⟩,?_⟩⟩
    · ext
    · rw [j]; exact Rk.ok k2 _ H' i H' s (bF _) (aFP g h1 h2.2)
   .exact k2.elim
  .rename_i z
   split at k2
   .rename_i g
    refine .inr ⟨Y,F,ab,?_⟩
    rw[a]
    intro v i H' s r
    obtain rfl:=aQ.str_of r
    exact⟨z,rfl,Rk.ok k2 _ H' i H' s (bF _) (aFQ g)⟩
   .exact k2.elim
  .exact k2.elim
noncomputable def nN(lo:Int)(n:Nat):L9 D4:=(range n).map λi:Nat=>.int (lo+i)
def fK(lo hi:Int):R (L9 D4):=if -4611686018427387904<=lo/\lo < 4611686018427387904 /\ -4611686018427387904<=hi/\hi < 4611686018427387904/\hi - lo<=16777216 then .ok (nN lo (hi - lo).toNat)else .bad
def dR(f:Sg->R D4):Sg->R (L9 D4):=λY=>(f Y).bind λx=>match x with
 | .int j=>fK 0 j
 | _=>.bad
def zQ(f g:Sg->R D4):Sg->R (L9 D4):=λY=>(f Y).bind λx=>(g Y).bind λy=>match x,y with
 | .int i,.int j=>fK i j
 | _,_=>.bad
theorem aBA{F B:Hp}{lo:Int}(hz:n<=16777216):Yld K (Itr lo n) F B (nN lo n) where
 len:=by unfold nN;rw[fQ,AC,BM];exact hz
 go:=λi a H1 h1 h2 b hi=>by unfold nN at hi;rw[AC,BM]at hi;exact hi
 yld:=λi a H1 v H2 x h1 h2 b y e=>by
  obtain⟨rfl,rfl⟩:=y
  unfold nN at e
  rw[AE]at e
  cases q:(range n)[i]? with
  | none=>rw[q]at e;cases e
  | some j=>
   rw[q]at e
   cases e
   obtain⟨d,c⟩:=AG.mp q
   rw[List.getElem_range]at c
   subst c
   exact⟨a,Ext.refl h2,.int _⟩
 stop:=λa H1 h1 h2 b=>by show n<=_;unfold nN;rw[AC,BM];exact AM _
theorem aFR{f:Sg->R D4}(h:PI X tg e (aPH (c6 (tV (aZ c) c E f) gK))):PI0 X c E tg e (dR f):=PI.imp h λZ H Q b=>by
 obtain⟨Y,F,ab,k⟩:=b
 refine⟨Y,F,ab,(Rk.bind k).imp λx _ q v g H' s r=>?_⟩
 cases x with
 | int j=>
  have a:Rk c E F H (fK 0 j) _:=q
  unfold fK at a
  split at a
  .obtain rfl:=aQ.int_of r
   refine⟨j,rfl,by ext,by ext,?_⟩
   have d:(j - 0).toNat=j.toNat:=by rw[Int.sub_zero]
   rw[<-d]
   exact Rk.ok a _ g H' s (aBA (by ext))
  .exact a.elim
 | _=>exact q.elim
theorem aFS{f g:Sg->R D4}(h:PI X tg e (aPI (c6 (tV (aZ c) c E f) (c6 (tV (aZ c) c E g) gK)))):PI0 X c E tg e (zQ f g):=PI.imp h λZ H Q b=>by
 obtain⟨Y,F,ab,k⟩:=b
 refine⟨Y,F,ab,(Rk.bind k).imp λx _ q v d H1 s1 r1=>⟨Y,d,ab.ext s1,((Rk.bind q).ext s1).imp λy _ q w l H' s r=>?_⟩⟩
 cases x with
 | int i=>
  cases y with
  | int j=>
   have a:Rk c E F H (fK i j) _:=q
   unfold fK at a
   split at a
   .obtain rfl:=aQ.int_of r1
    obtain rfl:=aQ.int_of r
    exact⟨i,j,rfl,⟨by ext,by ext,by ext,by ext⟩,Rk.ok a _ l H' (s1.trans s) (aBA (by ext))⟩
   .exact a.elim
  | _=>exact q.elim
 | _=>cases y<;>exact q.elim
end
noncomputable def cK(js:L9 (O9 Nat))(Y:Sg):Sg:=js.map λo=>o.bind λj=>(Y[j]?).join
theorem zR{α:Type}{js:L9 (O9 Nat)}{Y:L9 (O9 α)}{i:Nat}{a:α}(h:(js.map λo=>o.bind λj=>(Y[j]?).join)[i]? = some (some a)):∃ j,js[i]? = some (some j)/\Y[j]? = some (some a):=by
 rw[AE]at h
 cases e:js[i]? with
 | none=>simp_all
 | some o=>
  rw[e]at h
  cases o with
  | none=>cases(BV h)
  | some j=>
   ext
theorem zS{α:Type}{js:L9 (O9 Nat)}{Y:L9 (O9 α)}{i j:Nat}{a:α}(h:js[i]? = some (some j))(h2:Y[j]? = some (some a)):(js.map λo=>o.bind λj=>(Y[j]?).join)[i]? = some (some a):=by
 simp_all
def zT(js:L9 (O9 Nat)):Prop:=∀ (i k j:Nat),js[i]? = some (some j)->js[k]? = some (some j)->i=k
theorem x6{js:L9 (O9 Nat)}(h:js.Pairwise λa b=>a=none\/a≠b):zT js:=λi k j h1 h2=>by
 obtain⟨c,e1⟩:=AG.mp h1
 obtain⟨d,e2⟩:=AG.mp h2
 rw[D6]at h
 ext
theorem Ab.cap{c:Ct}{Y:Sg}{Z p:_a.St}{F H:Hp}{js:L9 (O9 Nat)}(b:Ab c Y Z F H)(r:zT js)(k:eQ (lI js Z) p):Ab c (cK js Y) p F H where
 len:=by rw[k.1];unfold cK lI;rw[AC,AC]
 fh:=b.fh
 slot:=λi a h=>by
  obtain⟨j,h1,h2⟩:=zR h
  obtain⟨v,g,t⟩:=b.slot j a h2
  exact⟨v,k.2 i v (zS h1 g),t⟩
 apart:=λi q a n m h h' o o'=>by
  obtain⟨j,h1,h2⟩:=zR h
  obtain⟨l,e,d⟩:=zR h'
  have s:j≠l:=λz=>m (r i q j h1 (by rw[e,z]))
  obtain⟨v,g,_⟩:=b.slot j a h2
  obtain⟨u,f,_⟩:=b.slot l n d
  rw[k.2 i v (zS h1 g),k.2 q u (zS e f),<-g,<-f]
  exact b.apart j l a n s h2 d o o'
 f0:=b.f0
 h0:=b.h0
 n0:=b.n0
 t0:=b.t0
noncomputable def R.noEx{α:Type}:R α->R α
 | .ex _=>.bad
 | r=>r
@[simp] theorem R.noEx_ok{α:Type}(a:α):(R.ok a).noEx=.ok a:=id rfl
noncomputable def zU{α:Type}:O9 α->R α
 | some a=>.ok a
 | none=>.bad
@[simp] theorem kJ{α:Type}(a:α):zU (some a)=.ok a:=id rfl
noncomputable def compL(fs:D4->Sg->O9 Sg)(ft:Sg->R Bool)(fe:Sg->R D4)(Y0:Sg):L9 D4->R (L9 D4)
 | []=>.ok []
 | x::t=>(zU (fs x Y0)).bind λY1=>(ft Y1).noEx.bind λb=>if b=true then(fe Y1).noEx.bind λy=>(compL fs ft fe Y0 t).bind λys=>.ok (y::ys)else compL fs ft fe Y0 t
theorem qS{fs:D4->Sg->O9 Sg}{ft:Sg->R Bool}{fe:Sg->R D4}{Y0:Sg}{e:Er}:∀ {xs:L9 D4},compL fs ft fe Y0 xs≠.ex e
 | []=>λh=>by cases h
 | x::t=>λh=>by
  unfold compL at h
  cases h1:fs x Y0 with
  | none=>rw[h1]at h;cases h
  | some Y1=>
   rw[h1]at h
   have h:((ft Y1).noEx.bind λb=>if b=true then(fe Y1).noEx.bind λy=>(compL fs ft fe Y0 t).bind λys=>.ok _ else compL fs ft fe Y0 t)=.ex e:=h
   cases h2:ft Y1 with
   | bad=>rw[h2]at h;cases h
   | ex _=>rw[h2]at h;cases h
   | ok b=>
    rw[h2]at h
    cases b with
    | false=>exact qS h
    | true=>
     cases a:fe Y1 with
     | bad=>rw[a]at h;cases h
     | ex _=>rw[a]at h;cases h
     | ok y=>
      rw[a]at h
      have h:((compL fs ft fe Y0 t).bind λys=>.ok _)=.ex e:=h
      cases c:compL fs ft fe Y0 t with
      | bad=>rw[c]at h;cases h
      | ex e'=>exact qS c
      | ok ys=>rw[c]at h;cases h
theorem aH7{fs:D4->Sg->O9 Sg}{ft:Sg->R Bool}{fe:Sg->R D4}{Y0:Sg}{x:D4}{t ys:L9 D4}(h:compL fs ft fe Y0 (x::t)=.ok ys) :
  ∃ Y1 b,fs x Y0=some Y1/\ft Y1=.ok b/\((b=true/\∃ y zs,fe Y1=.ok y/\compL fs ft fe Y0 t=.ok zs/\ys=y::zs)\/(b=false/\compL fs ft fe Y0 t=.ok ys)):=by
 unfold compL at h
 cases h1:fs x Y0 with
 | none=>rw[h1]at h;cases h
 | some Y1=>
  rw[h1]at h
  have h:((ft Y1).noEx.bind λb=>if b=true then(fe Y1).noEx.bind λy=>(compL fs ft fe Y0 t).bind λys=>.ok _ else compL fs ft fe Y0 t)=.ok ys:=h
  cases h2:ft Y1 with
  | bad=>rw[h2]at h;cases h
  | ex _=>rw[h2]at h;cases h
  | ok b=>
   rw[h2]at h
   refine⟨Y1,b,rfl,h2,?_⟩
   cases b with
   | false=>exact .inr ⟨rfl,h⟩
   | true=>
    refine .inl ⟨rfl,?_⟩
    cases a:fe Y1 with
    | bad=>rw[a]at h;cases h
    | ex _=>rw[a]at h;cases h
    | ok y=>
     rw[a]at h
     cases c:compL fs ft fe Y0 t with
     | bad=>rw[c]at h;cases h
     | ex e'=>rw[c]at h;cases h
     | ok zs=>rw[c]at h;cases h;exact⟨y,zs,rfl,rfl,rfl⟩
def bK(js:L9 (O9 Nat))(fi:Sg->R (L9 D4))(fs:D4->Sg->O9 Sg)(ft:Sg->R Bool)(fe:Sg->R D4):Sg->R (L9 D4):=λY=>(fi Y).bind λxs=>compL fs ft fe (cK js Y) xs
noncomputable def cF:Sg->R Bool:=λ_=>.ok true
section
variable{X:Cx}{c:Ct}{E:XK}{e a b:Ez}{pos:Pos}
theorem pA:_a.PIf X [] (tTf c E cF):=λap s Z H Q I Y=>by obtain⟨Y,F,ab⟩:=Y;exact _a.pA ap s Z H Q I (Rk.ok ab.2 F H (Ext.refl ab.1.fh))
theorem aC6{is:L9 Nat}{Z a b:_a.St}(k:eQ (lI js Z) a)(c:b.length=a.length)(h:∀ j:Nat,j∉is->b[j]? = a[j]?)(hi:∀ i∈is,js[i]? = some none):eQ (lI js Z) b:=
 ⟨c.trans k.1,λi v e=>by
  by_cases q:i∈is
  .unfold lI at e
   simp_all
  .rw[h i q];exact k.2 i v e⟩
theorem aBB{tg elt:Ez}{ifs:L9 Ez}{fi:Sg->R (L9 D4)}{fs:D4->Sg->O9 Sg}{ft:Sg->R Bool}{fe:Sg->R D4}(T:zT js)(hi:∀ i∈is,js[i]? = some none)
  (hb:∀ (cl:L9 (Str×Az)) (C:Az) (s:S9) (H0:Hp) (fp:L9 Az),∃ g,PG (dZ X N scope cl C s H0 fp) tg g/\Tg c g fs is/\_a.PIf (dZ X N scope cl C s H0 fp) ifs (tTf c E0 ft)/\PD (dZ X N scope cl C s H0 fp) c E0 elt fe)
  {Z:_a.St} {H:Hp} {Q:VK} (h:tV (zO c) c E (bK js fi fs ft fe) Z H Q):uF X N scope js tg elt ifs (tI c E fi) Z H Q:=by
 obtain⟨Y,F,ab⟩:=h
 refine⟨Y,F,ab.1,(Rk.bind ab.2).imp λxs _ q J B L H1 s1 A m=>?_⟩
 cases r:compL fs ft fe _ xs with
 | bad=>rw[r]at q;exact q.elim
 | ex e=>exact absurd r qS
 | ok ys=>
  rw[r]at q
  refine aFC (λi b H'=>∃ F',Ext L H1 F' H'/\b.length<=i/\∃ zs rest,DatVs c.K F' b zs/\compL fs ft fe _ (xs.drop i)=.ok rest/\zs++rest=ys) m.len ⟨L,Ext.refl s1.fh,AM _,[],ys,.nil,r,rfl⟩ ?_ ?_ ?_ ?_ ?_
  .rintro i b H' _ ⟨F',_,h,_⟩;ext
  .rintro i b H' d ⟨F',e1,_⟩
   exact m.go i F' H' e1.ff e1.fh (λa o z=>e1.hh a o (A a o z)) d
  .rintro b H' ⟨F',e1,_⟩
   exact m.stop F' H' e1.ff e1.fh (λa o z=>e1.hh a o (A a o z))
  .rintro i v b Ha Hb d ⟨F',e1,hlen,zs,rest,hd,hr,hz⟩ hy
   obtain⟨O,e2⟩:=m.yld i F' Ha v Hb xs[i] e1.ff e1.fh (λa o z=>e1.hh a o (A a o z)) hy (AI d)
   rw[(D7 d)]at hr
   obtain⟨G,bb,P,S,j⟩:=aH7 hr
   intro cl C s H0 fp
   obtain⟨g,n⟩:=hb cl C s H0 fp
   refine⟨g,_,_,n.1,n.2.2.1,n.2.2.2,λV k0=>?_⟩
   refine n.2.1 v xs[i] _ G V O Hb _ ((ab.1.ext (s1.trans (e1.trans e2.1))).cap T k0) e2.2 P λW u t k=>⟨aC6 k0 u t hi,G,O,k,?_⟩
   rw[S]
   intro I H3 l
   rcases j with ⟨rfl,y,ws,x,f,rfl⟩|⟨rfl,f⟩
   .refine aHQ ⟨G,I,k.ext l,?_⟩
    rw[x]
    intro w U H4 M D
    refine⟨U,e1.trans (e2.1.trans (l.trans M)),by ext,zs++[y],ws,(hd.same (e2.1.trans (l.trans M)).ff).append (.cons D .nil),f,by simp_all⟩
   .exact aHP ⟨I,e1.trans (e2.1.trans l),by ext,zs,rest,hd.same (e2.1.trans l).ff,f,hz⟩
  .rintro b H' ⟨F',e1,_,zs,rest,hd,hr,hz⟩ p hp
   rw[GA]at hr
   cases hr
   rw[C5]at hz
   subst hz
   exact Rk.ok q _ F' _ (s1.trans (e1.trans (Ext.own e1.fh hp))) ⟨p,b,rfl,aU (s1.trans e1).hh hp,aO,aU e1.fh hp,hd⟩
theorem aFT{tg elt:Ez}{ifs:L9 Ez}{fi:Sg->R (L9 D4)}{fs:D4->Sg->O9 Sg}{ft:Sg->R Bool}{fe:Sg->R D4}(h:PE X e (uF X N scope js tg elt ifs (tI c E fi)))(d:js.Pairwise λa b=>a=none\/a≠b)(hi:∀ i∈is,js[i]? = some none)
 (hb:∀ (cl:L9 (Str×Az)) (C:Az) (s:S9) (H0:Hp) (fp:L9 Az),∃ g,PG (dZ X N scope cl C s H0 fp) tg g/\Tg c g fs is/\_a.PIf (dZ X N scope cl C s H0 fp) ifs (tTf c E0 ft)/\PD (dZ X N scope cl C s H0 fp) c E0 elt fe) :
 PN X c E e (bK js fi fs ft fe):=PE.imp h λZ H Q q=>aBB (x6 d) hi hb q
theorem aRG{tg elt:Ez}{ifs:L9 Ez}{fi:Sg->R (L9 D4)}{fs:D4->Sg->O9 Sg}{ft:Sg->R Bool}{fe:Sg->R D4}(h:PS X st (lH (uF X N scope js tg elt ifs (tI c E fi)) (jG i)))(d:js.Pairwise λa b=>a=none\/a≠b)(hi:∀ i∈is,js[i]? = some none)
 (hb:∀ (cl:L9 (Str×Az)) (C:Az) (s:S9) (H0:Hp) (fp:L9 Az),∃ g,PG (dZ X N scope cl C s H0 fp) tg g/\Tg c g fs is/\_a.PIf (dZ X N scope cl C s H0 fp) ifs (tTf c E0 ft)/\PD (dZ X N scope cl C s H0 fp) c E0 elt fe) :
 PSf X c E st (dG i (bK js fi fs ft fe)):=uN (PS.imp h λD Z H q=>aBB (x6 d) hi hb q)
end
noncomputable def jO(fs:D4->Sg->O9 Sg)(fb:Sg->R Fw):L9 D4->Sg->R Fw
 | [],Y=>.ok (.nx Y)
 | x::t,Y=>(zU (fs x Y)).bind λY1=>(fb Y1).bind λw=>match w with
  | .nx Y2=>jO fs fb t Y2
  | .ct Y2=>jO fs fb t Y2
  | .bk Y2=>.ok (.nx Y2)
  | .rt a=>.ok (.rt a)
def kT(fi:Sg->R (L9 D4))(fs:D4->Sg->O9 Sg)(fb:Sg->R Fw):Sg->R Fw:=λY=>(fi Y).bind λxs=>jO fs fb xs Y
section
variable{X:Cx}{c:Ct}{E:XK}{e a b:Ez}{pos:Pos}{st:Stmt}
theorem jR{g:TG}{fi:Sg->R (L9 D4)}{fs:D4->Sg->O9 Sg}{fb:Sg->R Fw}(A:Tg c g fs is)(h:PS X st (aMT (tI0 c E fi) g (tSf c E fb))):PSf X c E st (kT fi fs fb):=PS.imp h λD Z H p=>by
 obtain⟨Y,F,ab,k⟩:=p
 refine⟨Y,F,ab,(Rk.bind k).imp λxs _ q J n H1 s1 s=>?_⟩
 refine⟨λi m Z H=>m=xs.length - i/\i<=xs.length/\∃ Y' b,aD n b/\Ab c Y' Z b H/\Rk c E b H (jO fs fb (xs.drop i) Y') _,⟨xs.length,by rfl,B5 _,Y,n,bF _,ab.ext s1,Rk.ext s1 q⟩,?_⟩
 rintro i m u H2 ⟨rfl,hi,Y2,F2,s2,ab2,k2⟩
 by_cases f:i < xs.length
 .refine .inr ⟨s.go i F2 H2 s2 ab2.fh kI f,λj H'=>∃ Y' b,aD n b/\Ab c Y' j b H'/\Rk c E b H' _ _,λj H' w=>⟨xs.length - (i+1),by ext,rfl,f,w⟩,λv H3 y=>?_⟩
  obtain⟨x,l⟩:=s.yld i F2 H2 v H3 xs[i] s2 ab2.fh kI y (AI f)
  rw[(D7 f)]at k2
  unfold jO at k2
  cases h1:fs xs[i] Y2 with
  | none=>rw[h1]at k2;exact k2.elim
  | some Y3=>
   rw[h1]at k2
   refine A v xs[i] Y2 Y3 u x H3 _ (ab2.ext l.1) l.2 h1 λB _ _ r=>⟨Y3,x,r,?_⟩
   have k3:Rk c E F2 H2 (fb Y3) _:=Rk.bind k2
   cases h2:fb Y3 with
   | bad=>rw[h2]at k3;exact k3.elim
   | ex e=>rw[h2]at k3;exact k3
   | ok w=>
    rw[h2]at k3
    have t:=Rk.ok k3
    cases w with
    | nx Y4=>exact λj b H' s' d=>⟨Y4,b,λa o z=>s' a o (l.1.ff a o (s2 a o z)),d,t⟩
    | ct Y4=>exact λj b H' s' d=>⟨Y4,b,λa o z=>s' a o (l.1.ff a o (s2 a o z)),d,t⟩
    | bk Y4=>exact λj b H' s' d=>Rk.ok t j b H' (λa o z=>s' a o ((λa o z=>l.1.ff a o (s2 a o (s1.ff a o z))) a o z)) d
    | rt a=>assumption
 .have e:i=xs.length:=by ext
  subst e
  rw[GA]at k2
  exact .inl ⟨s.stop F2 H2 s2 ab2.fh kI,Rk.ok k2 u F2 H2 (λa o z=>s2 a o (s1.ff a o z)) ab2⟩
end
noncomputable def dL(t:Sg->R Bool)(b:Sg->R Fw):Nat->Sg->R Fw
 | 0,_=>.bad
 | n+1,Y=>(t Y).bind λk=>if k=true then(b Y).bind λw=>match w with
   | .nx Y'=>dL t b n Y'
   | .ct Y'=>dL t b n Y'
   | .bk Y'=>.ok (.nx Y')
   | .rt a=>.ok (.rt a)
  else .ok (.nx Y)
open Classical in
def aW(t:Sg->R Bool)(b:Sg->R Fw):Sg->R Fw:=λY=>if h:∃ n,dL t b n Y≠.bad then dL t b h.choose Y else .bad
theorem R.bind_mono{α β:Type}{r:R α}{f g:α->R β}(h:r.bind f≠.bad)(b:∀ a,f a≠.bad->g a=f a):r.bind g=r.bind f:=by
 cases r with
 | bad=>rfl
 | ex e=>rfl
 | ok a=>exact b a h
theorem l7{t:Sg->R Bool}{b:Sg->R Fw}:∀ {n m:Nat} {Y:Sg},n<=m->dL t b n Y≠.bad->dL t b m Y=dL t b n Y
 | 0,_,_,_,h=>absurd rfl h
 | n+1,0,_,hm,_=>absurd hm (by simp)
 | n+1,m+1,Y,hm,h=>by
  refine R.bind_mono h λk d=>?_
  cases k with
  | false=>rfl
  | true=>
   refine R.bind_mono d λw c=>?_
   cases w with
   | nx Y'=>exact l7 (by ext) c
   | ct Y'=>exact l7 (by ext) c
   | bk Y'=>rfl
   | rt a=>rfl
theorem sM{t:Sg->R Bool}{b:Sg->R Fw}{Y:Sg}{n:Nat}(h:dL t b n Y≠.bad):aW t b Y=dL t b n Y:=by
 have a:∃ n,dL t b n Y≠.bad:=⟨n,h⟩
 unfold aW
 rw[dif_pos a]
 rcases Nat.le_total n a.choose with q|q
 · exact l7 q h
 · exact(l7 q a.choose_spec).symm
theorem sN (t : Sg -> R Bool) (b : Sg -> R Fw) (Y : Sg) : aW t b Y = (t Y).bind λk => if k = true then(b Y).bind λw => match w with
      | .nx Y' => aW t b Y'
      | .ct Y' => aW t b Y'
      | .bk Y' => .ok (.nx Y')
      | .rt a => .ok (.rt a)
    else .ok (.nx Y) := by
  have j : ∀ n, (∀ k, t Y = .ok k -> k = true -> ∀ w, b Y = .ok w -> ∀ Y', (w = .nx Y' \/ w = .ct Y') -> aW t b Y' = dL t b n Y') -> dL t b (n + 1) Y = (t Y).bind λk => if k = true then(b Y).bind λw => match w with
      | .nx Y' => aW t b Y'
      | .ct Y' => aW t b Y'
      | .bk Y' => .ok (.nx Y')
      | .rt a => .ok (.rt a)
    else .ok (.nx Y) := by
    intro n h
    unfold dL
    cases f : t Y with
    | bad => rfl
    | ex e => rfl
    | ok k =>
      cases k with
      | false => rfl
      | true =>
        cases d : b Y with
        | bad => rfl
        | ex e => rfl
        | ok w =>
          cases w with
          | nx Y' => exact(h true f rfl _ d Y' (.inl rfl)).symm
          | ct Y' => exact(h true f rfl _ d Y' (.inr rfl)).symm
          | bk Y' => rfl
          | rt a => rfl
  by_cases m : ∃ n, dL t b n Y ≠ .bad
  · obtain⟨n, g⟩ := m
    cases n with
    | zero => exact absurd rfl g
    | succ n =>
      rw [sM g]
      refine j n λk f p w d Y' l => ?_
      subst p
      refine sM λz => g ?_
      unfold dL
      rw [f]
      rw [d]
      rcases l with rfl | rfl <;> assumption
  · have o : aW t b Y = .bad := by unfold aW; rw [dif_neg m]
    rw [o]
    have c := λn => DA λz => m ⟨n, z⟩
    cases f : t Y with
    | bad => rfl
    | ex e => simp_all
    | ok k =>
      cases k with
      | false => simp_all
      | true =>
        cases d : b Y with
        | bad => rfl
        | ex e => simp_all
        | ok w =>
          have i : ∀ Y', (w = .nx Y' \/ w = .ct Y') -> aW t b Y' = .bad := λY' l => by
            unfold aW
            rw [dif_neg]
            rintro ⟨n, g⟩
            refine g ?_
            have := c (n + 1)
            unfold dL at this
            rw [f]at this
            rw [d]at this
            rcases l with rfl | rfl <;> exact this
          cases w with
          | nx Y' => exact(i Y' (.inl rfl)).symm
          | ct Y' => exact(i Y' (.inr rfl)).symm
          | bk Y' => have := c 1; unfold dL at this; rw [f]at this; change ((b Y).bind _) = _ at this; rw [d]at this; cases this
          | rt a => have := c 1; unfold dL at this; rw [f]at this; change ((b Y).bind _) = _ at this; rw [d]at this; cases this
section
variable{X:Cx}{c:Ct}{E:XK}{st:Stmt}
theorem nC{t:Sg->R Bool}{fb:Sg->R Fw}(h:PS X st (aJL (tTf c E t) (tSf c E fb))):PSf X c E st (aW t fb):=PS.imp h λD Z H j=>by
 obtain⟨Y,F,ab,k⟩:=j
 have v:=DA λz=>by
  have:aW t fb Y=.bad:=by unfold aW;rw[dif_neg z]
  rw[this]at k
  exact k
 obtain⟨n,u⟩:=v
 rw[sM u]at k
 refine⟨λm Z H=>∃ Y' d,aD F d/\Ab c Y' Z d H/\Rk c E d H (dL t fb m Y') _,⟨n,Y,F,bF F,ab,k⟩,?_⟩
 rintro m s H1 ⟨Y1,F1,s1,ab1,k1⟩
 cases m with
 | zero=>exact k1.elim
 | succ m=>
  refine⟨Y1,F1,ab1,(Rk.bind k1).imp λb _ q r H2 e2=>?_⟩
  cases b with
  | false=>exact aHP (Rk.ok q s r H2 (λa o z=>e2.ff a o (s1 a o z)) (ab1.ext e2))
  | true=>
   refine aHQ ⟨λg H'=>∃ Y' d,aD F d/\Ab c Y' g d H'/\Rk c E d H' _ _,λg H' w=>⟨m,by simp,w⟩,Y1,r,(ab1.ext e2),?_⟩
   have i:=Rk.bind q
   cases h2:fb Y1 with
   | bad=>rw[h2]at i;exact i.elim
   | ex e=>rw[h2]at i;exact i
   | ok w=>
    rw[h2]at i
    have p:=Rk.ok i
    have l:=λa o z=>e2.ff a o (s1 a o z)
    cases w with
    | nx Y4=>exact λg d H' s' f=>⟨Y4,d,λa o z=>s' a o (l a o z),f,p⟩
    | ct Y4=>exact λg d H' s' f=>⟨Y4,d,λa o z=>s' a o (l a o z),f,p⟩
    | bk Y4=>exact λg d H' s' f=>Rk.ok p g d H' (λa o z=>s' a o (l a o z)) f
    | rt a=>assumption
end
def spG(K:Frag)(mg:Str->O9 V9)(T F1:Hp)(n:Nat)(G:L9 D4->R D4):Sp:=λvs H Q E=>∃ F ds,aD F1 F/\aD T F/\aD F H/\DatVs K F vs ds/\ds.length=n/\match G ds with
 | .bad=>False
 | .ok d=>∀ v F' H',Ext F H F' H'->DatV K F' v d->Q v H'
 | .ex e=>∀ a C F' H',Ext F H F' H'->lL K mg F' e a C->E (.ref C) (some a) H'
def Beh(P:P9)(w:W9)(K:Frag)(mg:Str->O9 V9)(base:Hz)(T:Hp)(f:Az)(F1:Hp)(k n:Nat)(G:L9 D4->R D4):Prop:=
 ∃ fd ps,ps.length=n/\cO K fd ps []/\FnOk P w K mg base (CXe P w) k f fd ps (spG K mg T F1 n G)/\(keepIn K (.ref f)=true\/∃ oc od fd' sl,F1 f=some (FnO f ⟨oc,od,.func fd',sl⟩))
def gOf(P:P9)(w:W9)(K:Frag)(mg:Str->O9 V9)(base:Hz)(T:Hp):Gb:=⟨Beh P w K mg base T,T,w⟩
def spF(g:Gb)(K:Frag)(mg:Str->O9 V9)(n:Nat)(G:L9 A->R A):Sp:=λvs H Q E=>∃ F as,aD g.T F/\aD F H/\AFs g K mg F as vs/\as.length=n/\match G as with
 | .bad=>False
 | .ok a=>∀ v F' H',Ext F H F' H'->AF g K mg F' a v->Q v H'
 | .ex e=>∀ a C F' H',Ext F H F' H'->lL K mg F' e a C->E (.ref C) (some a) H'
def cB(P:P9)(w:W9)(K:Frag)(mg:Str->O9 V9)(base:Hz)(T:Hp)(k:Nat)(x:Str)(ps:L9 Str)(G:L9 A->R A):Prop:=Calls P w K mg base (CXe P w) k x ps (spF (gOf P w K mg base T) K mg ps.length G)
def aE(n:Nat)(G:L9 A->R A)(f:Sg->R (L9 A)):Sg->R A:=λY=>(f Y).bind λas=>if as.length=n then G as else .bad
theorem qT{X:Cx}{c:Ct}{E:XK}{e:Ez}{n:Nat}{G:L9 A->R A}{g:Gb}{K:Frag}{mg:Str->O9 V9}{f:Sg->R (L9 A)}(hG:g=c.g)(t:K=c.K)(m:mg=c.mg)(h:PE X e (aHL (spF g K mg n G) [] E (tAv c E f))):PV X c E e (aE n G f):=PE.imp h λZ H Q j=>by
 obtain⟨Y,F,ab,k⟩:=j
 subst hG t m
 refine⟨Y,F,ab,(Rk.bind k).imp λd _ q vs p H1 s1 r1=>?_⟩
 by_cases l:d.length=n
 .rw[AJ l]at q
  refine⟨p,d,λa o z=>s1.ff a o (ab.f0 a o (ab.t0 a o z)),s1.fh,by simp_all,l,?_⟩
  cases b:G d with
  | bad=>rw[b]at q;exact q
  | ok a=>rw[b]at q;exact λv i H' s r=>Rk.ok q v i H' (s1.trans s) r
  | ex e=>rw[b]at q;exact λa C i H' s r=>q a C i H' ((ab.all.trans s1).trans s) r
 .rw[AL l]at q;exact q.elim
def fnF(n:Nat)(fb:Sg->R Fw):L9 A->R A:=λas=>(fb (as.map some++replicate (n - as.length) none)).bind λw=>match w with
 | .rt (.l _)=>.bad
 | .rt a=>.ok a
 | .nx _=>.ok (.d .none)
 | _=>.bad
theorem AFs.get{g:Gb}{K:Frag}{mg:Str->O9 V9}{F:Hp}:∀ {as:L9 A} {vs:L9 V} {i:Nat} {a:A},AFs g K mg F as vs->as[i]? = some a->∃ v,vs[i]? = some v/\AF g K mg F a v
 | [],[],_,_,_,h=>by simp_all
 | a::as,v::vs,0,_,h,e=>by simp at e;subst e;exact⟨v,rfl,h.1⟩
 | a::as,v::vs,i+1,_,h,e=>by
  obtain⟨w,h1,h2⟩:=AFs.get h.2 (by assumption)
  exact⟨w,by assumption,h2⟩
theorem sO{α:Type}{b:L9 α}{n i:Nat}{a:α}(h:(b.map some++replicate n none)[i]? = some (some a)):b[i]? = some a:=by ext
theorem wK{g:Gb}{cells:L9 (Str×Az)}{cls:Str->O9 ClSt}{K:Frag}{mg:Str->O9 V9}{w:W9}{F H:Hp}{c:L9 A}{vs:L9 V}{n:Nat}(d:aD g.T F)(s:aD F H)(h:AFs g K mg F c vs):Ab ⟨K,mg,w,F,H,g,cells,cls⟩ (c.map some++replicate (n - c.length) none) (vs.map some++replicate (n - vs.length) none) F H where
 len:=by rw[A7,A7,AC,AC,CI,CI,h.len]
 fh:=s
 slot:=λi a e=>by
  obtain⟨v,h1,h2⟩:=h.get (sO e)
  refine⟨v,?_,AO.of h2⟩
  have hi:i < vs.length:=(AG.mp h1).1
  rw[BF (by rw[AC];exact hi),AE,h1];rfl
 apart:=λi j a b _ e1 _ o _=>by
  obtain⟨v,h1,h2⟩:=h.get (sO e1)
  rw[AF.notOwn h2]at o
  cases o
 f0:=bF F
 h0:=bF H
 n0:=λa e n=>absurd e n
 t0:=d
theorem pN{g:Gb}{cells:L9 (Str×Az)}{cls:Str->O9 ClSt}{K:Frag}{mg:Str->O9 V9}{w:W9}{n:Nat}{fb:Sg->R Fw}{vs:L9 V}{c:L9 A}{F H:Hp}{Q:VK}{E:XK}(h0:aD g.T F)(h1:aD F H)(h2:AFs g K mg F c vs)(b:match fnF n fb c with
 | .bad=>False
 | .ok a=>∀ v F' H',Ext F H F' H'->AF g K mg F' a v->Q v H'
 | .ex e=>∀ a C F' H',Ext F H F' H'->lL K mg F' e a C->E (.ref C) (some a) H'):tSf ⟨K,mg,w,F,H,g,cells,cls⟩ E fb {nx:=λ_ H'=>Q .non H',rt:=Q} (vs.map some++replicate (n - vs.length) none) H:=by
 refine⟨_,F,wK h0 h1 h2,?_⟩
 unfold fnF at b
 cases e:fb _ with
 | bad=>rw[e]at b;exact b
 | ex x=>rw[e]at b;exact b
 | ok w=>
  rw[e]at b
  cases w with
  | nx Y'=>exact λd F' H' s ab=>b .non F' H' ab.all .non
  | rt a=>
   cases a with
   | l xs=>exact b.elim
   | _=>exact b
  | bk Y'=>exact b.elim
  | ct Y'=>exact b.elim
section
variable{P:P9}{w:W9}{K:Frag}{mg:Str->O9 V9}{base:Hz}{T:Hp}{x:Str}{st:Stmt}{N ps:L9 Str}{k:Nat}
theorem aVL{fb:Sg->R Fw}(D:DefAt K mg x st ps)(S:FnScope N ps (aF st))
  (a:∀ (f:Az) (cdv:V9) (A:U9) (outer:L9 Env) (s:S9) (H F:Hp) (E:XK),Room k (A.deeper (envOfC x (aF st) s.heap.objs.size f cdv))->
   j7 ((fO (CXe P w) P w K mg base N x (aF st) f cdv A outer s H E).fly E) ⟨K,mg,w,F,H,gOf P w K mg base T,(envOfC x (aF st) s.heap.objs.size f cdv).cells,λ_=>none⟩ E (bB st) fb):cB P w K mg base T (k+1) x ps (fnF N.length fb):=by
 refine D.okX S (λvs H Q E h=>?_) (λf cdv A outer s H vs Q E hr h=>?_)
 .obtain ⟨F,c,h2⟩:=h
  rw[h2.2.2.1.len,h2.2.2.2.1]
 .obtain ⟨F,c,b⟩:=h
  exact⟨_,a f cdv A outer s H F E hr,pN b.1 b.2.1 b.2.2.1 b.2.2.2.2⟩
end
theorem zV{α β:Type}:∀ {xs:L9 α} {ys:L9 β},ys.length=xs.length->(xs.zip ys).map (·.1)=xs
 | [],_,_=>by rfl
 | x::xs,[],h=>by simp_all
 | x::xs,y::ys,h=>by simp at h;simp[zV h]
theorem zW{α β:Type}:∀ {xs:L9 α} {ys:L9 β},ys.length=xs.length->(xs.zip ys).map (·.2)=ys
 | [],[],_=>by rfl
 | [],_::_,h=>by simp_all
 | x::xs,[],h=>by rfl
 | x::xs,y::ys,h=>by simp at h;simp[zW h]
def tPf(c:Ct)(E:XK)(f:Sg->R (O9 Int)):TO:=λZ H Q=>∃ Y F,Ab c Y Z F H/\Rk c E F H (f Y) λo=>∀ F' H',Ext F H F' H'->Q o H'
noncomputable def oNo:Sg->R (O9 Int):=λ_=>.ok none
def oSo(f:Sg->R D4):Sg->R (O9 Int):=λY=>(f Y).bind λx=>match x with
 | .int i=>.ok (some i)
 | _=>.bad
noncomputable def oY{α:Type}(xs:L9 α)(lo hi:O9 Int):L9 α:=(xs.drop (_b.sIx xs.length 0 lo)).take (_b.sIx xs.length xs.length hi - _b.sIx xs.length 0 lo)
noncomputable def dSl:D4->O9 Int->O9 Int->R D4
 | .list xs,lo,hi=>.ok (.list (oY xs lo hi))
 | .tuple xs,lo,hi=>if ¬ (_b.sIx xs.length 0 lo=0/\_b.sIx xs.length xs.length hi=xs.length)then .ok (.tuple (oY xs lo hi))else .bad
 | .str z,lo,hi=>if z.length<=16777216 then .ok (.str (Txt.slice z lo hi))else .bad
 | _,_,_=>.bad
def eSl{α:Type}(g:D4->O9 Int->O9 Int->R α)(f:Sg->R D4)(lo hi:Sg->R (O9 Int)):Sg->R α:=λY=>(f Y).bind λx=>(lo Y).bind λl=>(hi Y).bind λh=>g x l h
theorem aC7{K:Frag}{F:Hp}{vs:L9 V}{xs:L9 D4}(h:DatVs K F vs xs)(lo hi:O9 Int):DatVs K F (zD vs lo hi) (oY xs lo hi):=by
 unfold zD oY
 rw[h.length]
 exact(h.drop _).take _
theorem PO.imp{X:Cx}{e:O9 Ez}{t t':TO}(h:PO X e t)(i:∀ Z H Q,t' Z H Q->t Z H Q):PO X e t':=λap s Z H Q I q=>h ap s Z H Q I (i Z H Q q)
section
variable{X:Cx}{c:Ct}{E:XK}{e a b:Ez}{pos p2:Pos}{lo hi:O9 Ez}
theorem aPU:PO X none (tPf c E oNo):=PO.imp aQQ λZ H Q Y=>by obtain⟨Y,F,ab⟩:=Y;exact Rk.ok ab.2 F H (Ext.refl ab.1.fh)
theorem aPV{f:Sg->R D4}(h:PR X c E e f):PO X (some e) (tPf c E (oSo f)):=PO.imp (aQR h) λZ H Q ⟨Y,F,ab,k⟩=>⟨Y,F,ab,(Rk.bind k).imp λx _ q v a H' s r=>by
 cases x with
 | int i=>exact⟨i,aQ.int_of r,Rk.ok q a H' s⟩
 | _=>exact q.elim⟩
def aNL(c:Ct)(Rb:VR α)(g:D4->O9 Int->O9 Int->R α):V->O9 Int->O9 Int->Hp->VK->Prop:=λv lo hi H Q=>∃ F x d,aD F H/\aQ c.K F H v x/\g x lo hi=.ok d/\∀ w F' H',Ext F H F' H'->Rb d w H F' H'->Q w H'
theorem aYA(o:X.K=c.K):SlR X (aNL c (bO c) dSl):=by
 intro ap s Z H v x g n lo hi sl Q I i j m f h
 obtain⟨F,d,w,b,k,a,q⟩:=h
 unfold dSl at a
 split at a
 .cases a
  obtain⟨p,vs,rfl,h1,h2⟩:=aQ.lst_of b k
  rw[<-o]at h1
  exact aQT ap s Z H _ x g n lo hi sl Q I i j m f ⟨p,vs,rfl,h1,λl e=>q _ _ _ (Ext.new b e) (.lst (SqL.of aO) ((aC7 h2 lo hi).same (aD.upd (aU b e))))⟩
 .split at a
  .cases a
   obtain⟨p,vs,rfl,_,h1,h2⟩:=aQ.tup_of b k
   rw[<-o]at h1
   exact aUV ap s Z H _ x g n lo hi sl Q I i j m f ⟨p,vs,rfl,h1,by rw[h2.length];ext,λl e=>q _ _ _ (Ext.new b e) (.tup (SqT.of aO) ((aC7 h2 lo hi).same (aD.upd (aU b e))))⟩
  simp_all
 .split at a
  .cases a
   obtain rfl:=aQ.str_of k
   exact aJ1 ap s Z H _ x g n lo hi sl Q I i j m f ⟨_,rfl,by assumption,q _ F H (Ext.refl b) (.str _)⟩
  simp_all
 simp_all
theorem aFU{Rb:VR α}{g:D4->O9 Int->O9 Int->R α}(t:∀ x l h e,g x l h≠.ex e)(p:aCX Rb){f:Sg->R D4}{j fh:Sg->R (O9 Int)}{Z:_a.St}{H:Hp}{Q:VK}(h:tV Rb c E (eSl g f j fh) Z H Q) :
  tSl (aNL c Rb g) (tV (aZ c) c E f) (tPf c E j) (tPf c E fh) Z H Q:=by
 obtain⟨Y,F,ab⟩:=h
 refine⟨Y,F,ab.1,(Rk.bind ab.2).imp λx _ q v m H1 s1 r1=>⟨Y,m,ab.1.ext s1,((Rk.bind q).ext s1).imp λl _ q k H2 a=>⟨Y,k,ab.1.ext (s1.trans a),((Rk.bind q).ext (s1.trans a)).imp λhh _ q o H3 b=>?_⟩⟩⟩
 cases i:g x l hh with
 | bad=>rw[i]at q;exact q.elim
 | ex e=>simp_all
 | ok d=>
  rw[i]at q
  exact⟨o,x,d,b.fh,aQ.ext (a.trans b) r1,i,λw n H' s r=>Rk.ok q w n H' (((s1.trans a).trans b).trans s) (p _ _ _ _ _ _ ((s1.trans a).trans b).hh r)⟩
theorem aNM:∀ x l h e,dSl x l h≠.ex e:=by intro x l h e q;unfold dSl at q;split at q<;>(try split at q)<;>cases q
theorem aC8{f:Sg->R D4}{a fh:Sg->R (O9 Int)}(g:X.K=c.K)(i:PR X c E e f)(d:PO X lo (tPf c E a))(b:PO X hi (tPf c E fh)):PD X c E (.Subscript e (.Slice lo hi none p2) pos) (eSl dSl f a fh):=
 PE.imp (aCG (aYA g) i d b) λZ H Q h=>aFU aNM (l5 c) h
noncomputable def tyN:D4->String
 | .none=>"NoneType"
 | .bool _=>"bool"
 | .int _=>"int"
 | .str _=>"str"
 | .list _=>"list"
 | .tuple _=>"tuple"
 | .dict _=>"dict"
noncomputable def j8(t T:String):Bool:=t == T || (T == "int" && t == "bool")
noncomputable def kU(T:String)(x:D4):R D4:=match x with
 | .dict _=>.bad
 | x=>.ok (.bool (j8 (tyN x) T))
structure Kit(K:Frag)(T:String):Prop where
 non:kitOne K (.type "NoneType") (.type T)=some (j8 "NoneType" T)
 bl:kitOne K (.type "bool") (.type T)=some (j8 "bool" T)
 int:kitOne K (.type "int") (.type T)=some (j8 "int" T)
 str:kitOne K (.type "str") (.type T)=some (j8 "str" T)
 lst:kitOne K (.type "list") (.type T)=some (j8 "list" T)
 tup:kitOne K (.type "tuple") (.type T)=some (j8 "tuple" T)
theorem aRH(K:Frag):Kit K "str":=⟨rfl,rfl,rfl,rfl,rfl,rfl⟩
theorem aNN{X:Cx}:jY X (.builtin "isinstance") (λxs H Q=>∃ a ys c cv b,xs=[.ref a,c]/\SqL X.K H a ys/\aHU c=some cv/\kitOne X.K (.type "list") cv=some b/\Q (.bl b) H):=by
 intro ap s Z H xs us Q I r h
 obtain⟨a,ys,c,cv,b,rfl,d⟩:=h
 obtain⟨u,v,rfl,g,i⟩:=xL r
 obtain rfl:=zI d.2.1 i
 cases((g))
 obtain⟨e,f⟩:=I.list d.1
 obtain⟨o,h1⟩:=f.2.1.isList
 exact B1 FM I.kIn ⟨o,h1.1,h1.2.1⟩ d.2.2.1 (λz=>nomatch z) λj=>⟨.bl b,H,I.tok _,rfl,d.2.2.2⟩
def aVM(c:Ct)(T:String):L9 V->Hp->VK->Prop:=λxs H Q=>∃ F x v d,xs=[v,.ty T]/\aD F H/\aQ c.K F H v x/\kU T x=.ok d/\∀ w F' H',Ext F H F' H'->DatV c.K F' w d->Q w H'
theorem aNO(g:X.K=c.K){T:String}(k:Kit X.K T):jY X (.builtin "isinstance") (aVM c T):=by
 intro ap s Z H xs us Q I r h
 obtain⟨F,x,v,d,rfl,a,f,e,q⟩:=h
 cases x with
 | dict _=>cases e
 | none=>
  cases e
  obtain rfl:=aQ.non_of f
  exact lY ap s Z H _ us Q I r ⟨_,_,_,_,_,rfl,.pl .non,rfl,k.non,q _ F H (Ext.refl a) (.bl _)⟩
 | bool b=>
  cases e
  obtain rfl:=aQ.bl_of f
  exact lY ap s Z H _ us Q I r ⟨_,_,_,_,_,rfl,.pl (.bl b),rfl,k.bl,q _ F H (Ext.refl a) (.bl _)⟩
 | int b=>
  cases e
  obtain rfl:=aQ.int_of f
  exact lY ap s Z H _ us Q I r ⟨_,_,_,_,_,rfl,.pl (.int b),rfl,k.int,q _ F H (Ext.refl a) (.bl _)⟩
 | str b=>
  cases e
  obtain rfl:=aQ.str_of f
  exact lY ap s Z H _ us Q I r ⟨_,_,_,_,_,rfl,.pl (.str b),rfl,k.str,q _ F H (Ext.refl a) (.bl _)⟩
 | tuple xs=>
  cases e
  obtain⟨p,vs,rfl,_,h1,h2⟩:=aQ.tup_of a f
  rw[<-g]at h1
  exact aCK ap s Z H _ us Q I r ⟨p,vs,_,_,_,rfl,h1,rfl,k.tup,q _ F H (Ext.refl a) (.bl _)⟩
 | list xs=>
  cases e
  obtain⟨p,vs,rfl,h1,h2⟩:=aQ.lst_of a f
  rw[<-g]at h1
  exact aNN ap s Z H _ us Q I r ⟨p,vs,_,_,_,rfl,h1,rfl,k.lst,q _ F H (Ext.refl a) (.bl _)⟩
theorem aVN{T:String}{f:Sg->R D4}(h:PE X e (tCB (aVM c T) (c6 (tV (aZ c) c E f) (c6 (tC (.ty T)) gK)))):PD X c E e (e1 (kU T) f):=PE.imp h λZ H Q d=>by
 obtain⟨Y,F,ab,k⟩:=d
 refine⟨Y,F,ab,(Rk.bind k).imp λx _ q v b H1 s1 r1=>?_⟩
 cases x with
 | dict _=>exact q.elim
 | none=>exact⟨b,_,v,_,rfl,s1.fh,r1,rfl,λw a H' s r=>Rk.ok q w a H' (s1.trans s) r⟩
 | bool _=>exact⟨b,_,v,_,rfl,s1.fh,r1,rfl,λw a H' s r=>Rk.ok q w a H' (s1.trans s) r⟩
 | int _=>exact⟨b,_,v,_,rfl,s1.fh,r1,rfl,λw a H' s r=>Rk.ok q w a H' (s1.trans s) r⟩
 | str _=>exact⟨b,_,v,_,rfl,s1.fh,r1,rfl,λw a H' s r=>Rk.ok q w a H' (s1.trans s) r⟩
 | list _=>exact⟨b,_,v,_,rfl,s1.fh,r1,rfl,λw a H' s r=>Rk.ok q w a H' (s1.trans s) r⟩
 | tuple _=>exact⟨b,_,v,_,rfl,s1.fh,r1,rfl,λw a H' s r=>Rk.ok q w a H' (s1.trans s) r⟩
noncomputable def qU:L9 D4->O9 (L9 Str)
 | []=>some []
 | .str s::t=>(qU t).map (s :: ·)
 | _=>none
theorem pC{F:Hp}:∀ {vs:L9 V} {xs:L9 D4} {ys:L9 Str},DatVs K F vs xs->qU xs=some ys->vs=ys.map V.str
 | _,_,ys,.nil,e=>by cases e;rfl
 | _,_,ys,.cons (d:=d) (ds:=t) h h2,e=>by
  cases d with
  | str b=>
   unfold qU at e
   cases q:qU t with
   | none=>simp_all
   | some cs=>
    rw[q]at e
    cases e
    rw[pC h2 q,h.str_of];rfl
  | _=>cases e
noncomputable def aB2:D4->D4->R D4
 | .str sep,.list xs=>match qU xs with
  | some ys=>if (ys.map λy=>y.length).sum+ys.length * sep.length<=16777216 then .ok (.str (Txt.join sep ys))else .bad
  | none=>.bad
 | _,_=>.bad
theorem aRI{f g:Sg->R D4}(n:X.K=c.K)(h:PE X e (tBM X.K "str" (aPP X.K) (tV (aZ c) c E f) (c6 (tV (aZ c) c E g) gK)))(m:∀ Y x,f Y=.ok x->∃ z,x=.str z):PD X c E e (e2 aB2 f g):=PE.imp h λZ H Q ⟨Y,F,ab,k⟩=>by
 refine⟨Y,F,ab,(Rk.bind k).imp λx ex q v l H1 s1 r1=>?_⟩
 obtain⟨z,rfl⟩:=m Y x ex
 obtain rfl:=aQ.str_of r1
 refine⟨rfl,Y,l,ab.ext s1,((Rk.bind q).ext s1).imp λy _ q u i H2 b r2=>?_⟩
 cases y with
 | list xs=>
  have a:Rk c E F H (match qU xs with
   | some ys=>if (ys.map λy=>y.length).sum+ys.length * z.length<=16777216 then R.ok _ else .bad
   | none=>.bad) (λd=>∀ v F' H',Ext F H F' H'->bO c d v H F' H'->Q v H'):=q
  split at a
  .rename_i ys o
   split at a
   .rename_i j
    obtain⟨p,vs,rfl,h1,h2⟩:=aQ.lst_of b.fh r2
    rw[<-n]at h1
    obtain rfl:=pC h2 o
    exact⟨z,p,ys,rfl,rfl,h1,j,Rk.ok a _ i H2 (s1.trans b) (.str _)⟩
   .exact a.elim
  .exact a.elim
 | _=>exact q.elim
noncomputable def iZ:D4->D4->R D4
 | .str z,.str y=>match Builtin.Str.occurrences z y 0 z.length 1 with
  | i::_=>.ok (.int i)
  | []=>.bad
 | _,_=>.bad
theorem aNP{f g:Sg->R D4}(h:PE X e (tBM X.K "str" aJ2 (tV (aZ c) c E f) (c6 (tV (aZ c) c E g) gK)))(l:∀ Y x,f Y=.ok x->∃ z,x=.str z):PD X c E e (e2 iZ f g):=PE.imp h λZ H Q ⟨Y,F,ab,k⟩=>by
 refine⟨Y,F,ab,(Rk.bind k).imp λx ex q v j H1 s1 r1=>?_⟩
 obtain⟨z,rfl⟩:=l Y x ex
 obtain rfl:=aQ.str_of r1
 refine⟨rfl,Y,j,ab.ext s1,((Rk.bind q).ext s1).imp λy _ q u b H2 n r2=>?_⟩
 cases y with
 | str y=>
  have a:Rk c E F H (match Builtin.Str.occurrences z y 0 z.length 1 with
   | i::_=>R.ok _
   | []=>.bad) (λd=>∀ v F' H',Ext F H F' H'->bO c d v H F' H'->Q v H'):=q
  split at a
  .rename_i i rest m
   obtain rfl:=aQ.str_of r2
   exact⟨z,y,i,rest,rfl,rfl,m,Rk.ok a _ b H2 (s1.trans n) (.int _)⟩
  .exact a.elim
 | _=>exact q.elim
noncomputable def nO:Nat->L9 D4->L9 D4
 | _,[]=>[]
 | i,x::t=>.tuple [.int i,x]::nO (i+1) t
theorem qV:∀ (i:Nat) (xs:L9 D4),(nO i xs).length=xs.length
 | _,[]=>rfl
 | i,x::t=>by rw[nO,AT,AT,qV]
theorem aC9:∀ (k i:Nat) (xs:L9 D4),(nO k xs)[i]? = (xs[i]?).map λx=>.tuple [.int ((k+i:Nat):Int),x]
 | k,i,[]=>by rfl
 | k,0,x::t=>by rfl
 | k,i+1,x::t=>by rw[nO,AN,AN,aC9,show k+1+i=k+(i+1)by ext]
theorem aKW{F B:Hp}{z:Str}(hz:z.cps.toList.length<=16777216):Yld K (Ity z) F B (nO 0 (z.cps.toList.map λu=>.str ⟨#[u]⟩)) where
 len:=by rw[fQ,qV,AC];exact hz
 go:=λi b H1 h1 h2 a hi=>by
  rw[qV,AC,DY]at hi
  exact hi
 yld:=λi b H1 v H2 x h1 h2 a y e=>by
  obtain⟨p,u,d,rfl,rfl,c⟩:=y
  rw[aC9,AE,DP,c]at e
  cases e
  refine⟨_,Ext.new h2 d,.tup (SqT.of aO) (.cons ?_ (.cons (.str _) .nil))⟩
  rw[GB];exact .int _
 stop:=λb H1 h1 h2 a=>by
  show(nO 0 _).length=z.cps.size
  rw[qV,AC,DY]
end
def fP(a0:L9 (D4×D4))(k:D4):O9 D4:=(a0.find? λp=>decide (p.1=k)).map (·.2)
def b7(a0:L9 (D4×D4))(k:D4):Bool:=(fP a0 k).isSome
def putM(a0:L9 (D4×D4))(k v:D4):L9 (D4×D4):=if b7 a0 k=true then a0.map (λp=>if p.1=k then(p.1,v)else p)else a0++[(k,v)]
theorem get_rel{K:Frag}{F:Hp}{k:D4}:∀ {es:L9 Ent} {a0:L9 (D4×D4)},es.map (·.1)=a0.map (·.1)->DatVs K F (es.map (·.2.2)) (a0.map (·.2))->
  (atE es k=none/\fP a0 k=none)\/∃ v d,atE es k=some v/\fP a0 k=some d/\DatV K F v d
 | [],[],_,_=>.inl ⟨rfl,rfl⟩
 | [],_::_,h,_=>by cases h
 | _::_,[],h,_=>by cases h
 | e::es,p::a0,h,r=>by
  rw[AW]at h r
  injection h with h1 h2
  obtain⟨v,t,e1,r1⟩:=r.cons_of
  rw[EX]at e1
  obtain⟨rfl,rfl⟩:=e1
  have a:=get_rel (k:=k) h2 r1.2
  unfold atE fP at a ⊢
  rw[C7,C7,h1]
  by_cases q:p.1=k
  · rw [A2 q]; exact .inr ⟨_, _, rfl, rfl, r1.1⟩
  · rw [BA q]; ext
theorem MapRel.get{K:Frag}{F:Hp}{es:L9 Ent}{a:L9 (D4×D4)}(m:MapRel K F es a)(k:D4):(atE es k=none/\fP a k=none)\/∃ v d,atE es k=some v/\fP a k=some d/\DatV K F v d:=get_rel m.k1 m.vs
theorem MapRel.has{K:Frag}{F:Hp}{es:L9 Ent}{c:L9 (D4×D4)}(m:MapRel K F es c)(k:D4):(atE es k).isSome=b7 c k:=by
 unfold b7
 rcases m.get k with ⟨a,b⟩|⟨v,d,a,b,_⟩<;>rw[a,b]<;>rfl
theorem wL{a:L9 (D4×D4)}{k:D4}:b7 a k=true↔k∈a.map (·.1):=by
 unfold b7 fP
 simp
theorem aKX{a:L9 (D4×D4)}{k v:D4}:(putM a k v).map (·.1)=if b7 a k=true then a.map (·.1)else a.map (·.1)++[k]:=by
 unfold putM
 cases h:b7 a k with
 | true=>
  rw[AJ rfl,A6]
  refine A9 λp _=>?_
  ext
 | false=>simp
theorem aFV{K:Frag}{F:Hp}{k d:D4}{v:V}(r:DatV K F v d):∀ {es:L9 Ent} {a0:L9 (D4×D4)},es.map (·.1)=a0.map (·.1)->DatVs K F (es.map (·.2.1)) (a0.map (·.1))->DatVs K F (es.map (·.2.2)) (a0.map (·.2))->
  (es.map λe=>if e.1=k then(e.1,e.2.1,v)else e).map (·.1)=(a0.map λp=>if p.1=k then(p.1,d)else p).map (·.1) /\
  DatVs K F ((es.map λe=>if e.1=k then(e.1,e.2.1,v)else e).map (·.2.1)) ((a0.map λp=>if p.1=k then(p.1,d)else p).map (·.1)) /\
  DatVs K F ((es.map λe=>if e.1=k then(e.1,e.2.1,v)else e).map (·.2.2)) ((a0.map λp=>if p.1=k then(p.1,d)else p).map (·.2))
 | [],[],_,_,_=>⟨rfl,.nil,.nil⟩
 | [],_::_,h,_,_=>by cases h
 | _::_,[],h,_,_=>by cases h
 | e::es,p::a0,h,rk,rv=>by
  rw[AW]at h rk rv
  injection h with h1 h2
  obtain⟨_,_,e1,r1⟩:=rk.cons_of
  rw[EX]at e1
  obtain⟨rfl,rfl⟩:=e1
  obtain⟨_,_,e1,b⟩:=rv.cons_of
  rw[EX]at e1
  obtain⟨rfl,rfl⟩:=e1
  obtain⟨c,a⟩:=aFV r h2 r1.2 b.2
  simp only[AW]
  rw[h1,c]
  by_cases q:p.1=k
  · rw [AJ q, AJ q]; exact⟨rfl, .cons r1.1 a.1, .cons r a.2⟩
  · rw [AL q, AL q]; exact⟨by rw [h1], .cons r1.1 a.1, .cons b.1 a.2⟩
theorem MapRel.put{K:Frag}{F:Hp}{es:L9 Ent}{c:L9 (D4×D4)}{k d:D4}{kv v:V}(m:MapRel K F es c)(i:DatV K F kv k)(r:DatV K F v d):MapRel K F (oW es k kv v) (putM c k d):=by
 have nd:((putM c k d).map (·.1)).Nodup:=by
  rw[aKX]
  cases h:b7 c k with
  | true=>exact m.nd
  | false=>
   rw[AL (by decide),CN]
   refine⟨m.nd,by simp,λa j b e z=>?_⟩
   rw[AZ]at e
   subst e z
   rw[wL.mpr j]at h
   ext
 unfold oW
 rw[(m.has k)]
 unfold putM at nd ⊢
 cases h:b7 c k with
 | true=>
  rw[h]at nd
  obtain⟨g,f⟩:=aFV r m.k1 m.k2 m.vs
  exact⟨g,f.1,f.2,nd⟩
 | false=>
  rw[h]at nd
  rw[AL (by decide),AL (by decide)]
  refine⟨by rw[BL,BL,m.k1];rfl,?_,?_,nd⟩
  .rw[BL,BL];exact m.k2.append (.cons i .nil)
  .rw[BL,BL];exact m.vs.append (.cons r .nil)
theorem oI{K:Frag}{F:Hp}:∀ {es:L9 Ent} {a0:L9 (D4×D4)},es.map (·.1)=a0.map (·.1)->DatVs K F (es.map (·.2.1)) (a0.map (·.1))->∀ e∈es,DatV K F e.2.1 e.1
 | [],_,_,_,e,he=>by ext
 | _::_,[],h,_,_,_=>by cases h
 | e0::es,p::a0,h,rk,e,he=>by
  rw[AW]at h rk
  injection h with h1 h2
  obtain⟨_,_,e1,r1,r2⟩:=rk.cons_of
  rw[EX]at e1
  obtain⟨rfl,rfl⟩:=e1
  rcases AV.mp he with z|z
  · ext
  · exact oI h2 r2 e z
section
variable{X:Cx}{c:Ct}{E:XK}{e a b:Ez}{st:Stmt}{pos:Pos}
theorem aB3{Y:Sg}{Z:_a.St}{F H:Hp}{a:L9 (D4×D4)}{k:D4}{kv:V}(d:X.K=c.K)(l:X.w=c.w)(ab:Ab c Y Z F H)(hi:Y[i]? = some (some (.m a)))(j:DatV c.K F kv k)(o:bU k (a.map (·.1))=true) :
  ∃ p es,Z[i]? = some (some (.ref p))/\DicAt X H p es k kv/\MapRel c.K F es a:=by
 obtain⟨v,g,p,es,rfl,⟨h,h2⟩,n,q,b⟩:=ab.slot i _ hi
 refine⟨p,es,g,⟨⟨h,by rw[l];ext⟩,λe f=>by rw[d];exact(oI b.k1 b.k2 e f).same ab.fh,by rw[b.k1];exact b.nd,by rw[d];exact j.same ab.fh,by rw[b.k1];ext⟩,b⟩
theorem aKY{Y:Sg}{Z:_a.St}{F H:Hp}{a:L9 (D4×D4)}{k:D4}{kv:V}(d:X.K=c.K)(n:X.w=c.g.w)(ab:Ab c Y Z F H)(hi:Y[i]? = some (some (.f a)))(m:DatV c.K F kv k)(o:bU k (a.map (·.1))=true) :
  ∃ p es,Z[i]? = some (some (.ref p))/\DicAt X H p es k kv/\MapRel c.K F es a:=by
 obtain⟨v,j,p,es,rfl,⟨l,h2⟩,b⟩:=ab.slot i _ hi
 refine⟨p,es,j,⟨⟨l,by rw[n];exact ab.fh _ _ h2⟩,λe h=>by rw[d];exact(oI b.k1 b.k2 e h).same ab.fh,by rw[b.k1];exact b.nd,by rw[d];exact m.same ab.fh,by rw[b.k1];ext⟩,b⟩
def aPW(w:W9):TE:=λ_ H Q=>∀ p,H p=none->Q (.ref p) (upd H p (gN w p [] 0))
theorem aRJ:PE X (.Dict [] [] pos) (aPW X.w):=λap s Z H Q I h=>
 wpAny_Dict_empty ⟨.ref s.heap.objs.size,_,I.laid (λ_ _ q=>AB _ q) (AM _)
  (kG (beq_eq_false_iff_ne.mpr (BQ (BG I.big))) ⟨_,#[],AY _ rfl,⟨rfl,rfl,rfl⟩,rfl,.nil⟩),rfl,h _ (I.hok.fresh (AM _))⟩
noncomputable def kW(i:Nat):Sg->R Fw:=λY=>.ok (.nx (Y.set i (some (.m []))))
theorem aRK{w:W9}(b:w=c.w)(h:PS X st (lH (aPW w) (jG i))):PSf X c E st (kW i):=PS.imp h λD Z H ⟨Y,F,ab,k⟩=>λp a=>by
 subst b
 exact Rk.ok k _ F _ (bF F) (ab.setM (Ext.own ab.fh a) a aO (aU ab.fh a) ⟨rfl,.nil,.nil,DO⟩)
def kX(neg:Bool)(i:Nat)(f:Sg->R D4):Sg->R D4:=λY=>(f Y).bind λk=>match Y[i]? with
 | some (some (.m a0))=>if bU k (a0.map (·.1))=true then .ok (.bool (if neg=true then !b7 a0 k else b7 a0 k))else .bad
 | some (some (.f a0))=>if bU k (a0.map (·.1))=true then .ok (.bool (if neg=true then !b7 a0 k else b7 a0 k))else .bad
 | _=>.bad
def aH8(X:Cx)(neg:Bool):R2:=λy x H Q=>∃ p es k,x=.ref p/\DicAt X H p es k y/\Q (.bl (if neg=true then !(atE es k).isSome else(atE es k).isSome)) H
theorem aRL(d:X.A.units+64 < cLine):OpR X (compareOp .In) (aH8 X false):=by
 intro ap s Z H y x v u Q I b a h
 obtain⟨p,es,k,rfl,D⟩:=h
 cases((a))
 exact aVB d D.1 I b λs' c=>⟨.bl _,H,c,rfl,D.2⟩
theorem aNQ(d:X.A.units+64 < cLine):OpR X (compareOp .NotIn) (aH8 X true):=by
 intro ap s Z H y x v u Q I b a h
 obtain⟨p,es,k,rfl,D⟩:=h
 cases((a))
 exact aQ7 d D.1 I b λs' c=>⟨.bl _,H,c,rfl,D.2⟩
theorem aNR{a:Bool}{f:Sg->R D4}(l:X.K=c.K)(n:X.w=c.w)(o:c.w=c.g.w){Z:_a.St}{H:Hp}{Q:VK}(h:tV (bO c) c E (kX a i f) Z H Q):tOp (aH8 X a) (tV (bO c) c E f) (g7 i) Z H Q:=by
 obtain⟨Y,F,ab⟩:=h
 refine⟨Y,F,ab.1,(Rk.bind ab.2).imp λd _ q v k H1 s1 r1=>?_⟩
 split at q
 .rename_i e hi
  split at q
  .rename_i b
   obtain⟨p,es,j,D,m⟩:=aB3 l n (ab.1.ext s1) hi r1 b
   refine⟨_,j,p,es,d,rfl,D,?_⟩
   rw[m.has]
   exact Rk.ok q _ k H1 s1 (.bl _)
  .exact q.elim
 .rename_i e hi
  split at q
  .rename_i b
   obtain⟨p,es,j,D,m⟩:=aKY l (n.trans o) (ab.1.ext s1) hi r1 b
   refine⟨_,j,p,es,d,rfl,D,?_⟩
   rw[m.has]
   exact Rk.ok q _ k H1 s1 (.bl _)
  .exact q.elim
 .exact q.elim
theorem aKZ{a:Bool}{f:Sg->R D4}(b:X.K=c.K)(j:X.w=c.w)(h:PT X e (aPJ (tOp (aH8 X a) (tV (bO c) c E f) (g7 i))))(d:autoParam (c.w=c.g.w) z3):PTf X c E e (e1 asB (kX a i f)):=PT.imp h λZ H Q q=>aNR b j d (zP q)
def oJ(i:Nat)(f:Sg->R D4):Sg->R D4:=λY=>match Y[i]? with
 | some (some (.m a0))=>(f Y).bind λk=>if bU k (a0.map (·.1))=true then match fP a0 k with
  | some v=>.ok v
  | none=>.bad else .bad
 | some (some (.f a0))=>(f Y).bind λk=>if bU k (a0.map (·.1))=true then match fP a0 k with
  | some v=>.ok v
  | none=>.bad else .bad
 | _=>.bad
def aPX(X:Cx)(td ty:TE):TE:=λZ H Q=>td Z H λx H1=>ty Z H1 λy H2=>∃ p es k v,x=.ref p/\DicAt X H2 p es k y/\atE es k=some v/\Q v H2
theorem aRM{o i:Ez}{d ty:TE}(g:X.A.units+64 < cLine)(n:PE X o d)(hi:PE X i ty)(m:aU6 i):PE X (.Subscript o i pos) (aPX X d ty):=by
 intro ap s Z H Q I h
 refine aQV PySem.F.slot_dict_getitem.lookup m (thn (n ap s Z H _ I h) λu s1 ⟨x,H1,l,f,r⟩=>thn (hi ap s1 Z H1 _ l r) λC J a=>?_)
 obtain⟨y,H2,c,t,p,es,k,v,ex,D,j,w⟩:=a
 subst ex
 obtain rfl:=f
 obtain⟨G,q⟩:=D.o
 obtain⟨⟨_,o',z,h1,h2,_⟩,_,_⟩:=((c.hok p _ q))
 exact⟨⟨o',h1,h2.1⟩,aQ8 g D c t j λB E e b=>⟨v,H2,e,b,w⟩⟩
theorem aRN{f:Sg->R D4}(u:X.K=c.K)(x:X.w=c.w)(h:PE X e (aPX X (g7 i) (tV (bO c) c E f)))(y:autoParam (c.w=c.g.w) z3):PD X c E e (oJ i f):=PE.imp h λZ H Q ⟨Y,F,ab,k⟩=>by
 unfold oJ at k
 split at k
 .rename_i s hi
  obtain⟨_,l,p,es,rfl,_⟩:=ab.slot i _ hi
  refine⟨_,l,Y,F,ab,(Rk.bind k).imp λd _ q v o H1 s1 r1=>?_⟩
  split at q
  .rename_i r
   obtain⟨A,b,a,D,m⟩:=aB3 u x (ab.ext s1) hi r1 r
   rw[l]at a
   cases a
   split at q
   .rename_i w t
    rcases m.get d with ⟨_,z⟩|⟨j,B,h1,h2,n⟩
    .grind
    .rw[t]at h2
     cases h2
     exact⟨p,b,d,j,rfl,D,h1,Rk.ok q j o H1 s1 n⟩
   .exact q.elim
  .exact q.elim
 .rename_i s hi
  obtain⟨_,l,p,es,rfl,_⟩:=ab.slot i _ hi
  refine⟨_,l,Y,F,ab,(Rk.bind k).imp λd _ q v o H1 s1 r1=>?_⟩
  split at q
  .rename_i r
   obtain⟨A,b,a,D,m⟩:=aKY u (x.trans y) (ab.ext s1) hi r1 r
   rw[l]at a
   cases a
   split at q
   .rename_i w t
    rcases m.get d with ⟨_,z⟩|⟨j,B,h1,h2,n⟩
    .grind
    .rw[t]at h2
     cases h2
     exact⟨p,b,d,j,rfl,D,h1,Rk.ok q j o H1 s1 n⟩
   .exact q.elim
  .exact q.elim
 .exact k.elim
def jZ(i:Nat)(f g:Sg->R D4):Sg->R Fw:=λY=>(g Y).bind λv=>match Y[i]? with
 | some (some (.m a0))=>(f Y).bind λk=>if bU k (a0.map (·.1))=true/\a0.length<=16777216 then .ok (.nx (Y.set i (some (.m (putM a0 k v)))))else .bad
 | _=>.bad
def aPY(X:Cx):aHB:=λo i v H Q=>∃ p es k,o=.ref p/\DicAt X H p es k i/\es.length<=sizeLine/\∀ ep,Q (upd H p (gN X.w p (oW es k i v) ep))
theorem aNS(b:X.A.units+64 < cLine):aUH X (aPY X):=by
 intro ap s Z H o i v j g u Q I d a c h
 obtain⟨p,es,k,rfl,D⟩:=h
 cases((d))
 exact aQ9 b D.1 I a c D.2.1 λe s' f=>⟨_,f,D.2.2 e⟩
theorem aRO{f g:Sg->R D4}(r:X.K=c.K)(n:X.w=c.w)(h:PS X st (lH (tV (bO c) c E g) (aUJ (g7 i) (tV (bO c) c E f) (aPY X)))):PSf X c E st (jZ i f g):=PS.imp h λD Z H ⟨Y,F,ab,k⟩=>by
 refine⟨Y,F,ab,(Rk.bind k).imp λx _ q v o H1 s1 r1=>?_⟩
 split at q
 .rename_i t hi
  obtain⟨_,l,p,es,rfl,_⟩:=(ab.ext s1).slot i _ hi
  refine⟨_,l,Y,o,(ab.ext s1),((Rk.bind q).ext s1).imp λd _ q u s H2 b r2=>?_⟩
  split at q
  .rename_i m
   obtain⟨y,j,a,e⟩:=aB3 r n ((ab.ext s1).ext b) hi r2 m.1
   rw[l]at a
   cases a
   refine⟨p,j,d,rfl,e.1,?_,?_⟩
   .have:=by have:=DD length e.2.k1;simpa using this
    rw[this];exact m.2
   .intro z
    rw[n]
    exact Rk.ok q Z s _ (s1.trans b).ff (((ab.ext s1).ext b).putM hi l (e.2.put r2 (DatV.same b.ff r1)))
  .exact q.elim
 .exact q.elim
end
theorem aDA{K:Frag}{a:Az}{vs:L9 V}{xs:L9 D4}(m:_e.qH K a vs)(h:∀ F,DatVs K F vs xs)(F:Hp):DatV K F (.ref a) (.tuple xs):=.tup (m.sq F) (h F)
section
variable{X:Cx}{c:Ct}{E:XK}{e a b:Ez}{st:Stmt}{pos p2:Pos}
def qW(fs:D4->Sg->O9 Sg)(f:Sg->R D4):Sg->R Fw:=λY=>(f Y).bind λx=>(zU (fs x Y)).bind λY'=>.ok (.nx Y')
theorem aVO{g:TG}{fs:D4->Sg->O9 Sg}{f:Sg->R D4}(e:Tg c g fs is)(h:PS X st (lH (tV (bO c) c E f) g)):PSf X c E st (qW fs f):=PS.imp h λD Z H b=>by
 obtain⟨Y,F,ab,k⟩:=b
 refine⟨Y,F,ab,(Rk.bind k).imp λx _ q v d H1 s1 r1=>?_⟩
 cases h1:fs x Y with
 | none=>rw[h1]at q;exact q.elim
 | some Y'=>
  rw[h1]at q
  exact e v x Y Y' Z d H1 _ (ab.ext s1) r1 h1 λi _ _ a=>Rk.ok q i d H1 s1.ff a
noncomputable def aDB:D4->R D4
 | .str z=>if z.length<=16777216 then .ok (.str ⟨z.cps.toList.reverse.toArray⟩)else .bad
 | _=>.bad
theorem aNT(l:L9 Nat):((range l.length).map λi=>l.length - 1 - i).filterMap (λi=>l[i]?)=l.reverse:=by
 have h:∀ k,k<=l.length->((range k).map λi=>l.length - 1 - i).filterMap (λi=>l[i]?)=l.reverse.take k:=by
  intro k
  induction k with
  | zero=>simp
  | succ k ih=>
   intro a
   rw[List.range_succ,BL,GV,ih (by ext),CU]
   rw[DM,List.getElem?_reverse (by ext)]
   rfl
 rw[h l.length (AM _),CG (by simp)]
theorem aE2(n:Nat):Builtin.Str.strSliceIndices none none (-1) n=(range n).map λi=>n - 1 - i:=by
 unfold Builtin.Str.strSliceIndices sliceRange
 ext
def aVP(te:TE)(tp:TO):TE:=λZ H Q=>te Z H λx H1=>tp Z H1 λo H2=>o=some (-1)/\∃ z,x=.str z/\z.length<=sizeLine/\Q (.str ⟨z.cps.toList.reverse.toArray⟩) H2
theorem aVQ{g:Ez}{te:TE}{j:TO}(n:PE X e te)(A:PO X (some g) j):PE X (.Subscript e (.Slice none none (some g) p2) pos) (aVP te j):=by
 intro ap s Z H Q I h
 refine Subscript_ (thn (n ap s Z H _ I h) λv s1 a=>?_)
 obtain⟨x,H1,m,r1,w⟩:=a
 refine wpAny_Slice ?_
 refine AH (AH (thn (A ap s1 Z H1 _ m w) λvs y a=>?_))
 obtain⟨o,H2,k,B,r⟩:=a
 obtain⟨rfl,z,rfl,p,q⟩:=r
 obtain⟨t,rfl⟩:=r1
 obtain⟨l,rfl,d⟩:=zJ B
 refine tail_any (typeIs_str _ z t) E2.lookup ?_ (by rfl)
 obtain⟨o,c⟩:=Heap.IsSliceOf.new y.heap .none .none _
 refine GH (l:=none) (u:=none) ⟨o,c.1,c.2.1,c.2.2⟩ (by rw[d];rfl) ?_
 unfold sliceMade slicePicked
 rw[d]
 simp[Option.map_none,Option.getD_some,show((-1:Int) == 1)=false by decide,Bool.false_and,BZ,C8]
 rw[aE2]
 have f:z.length=z.cps.toList.length:=by simp[Str.length]
 have e:((range z.length).map λi=>z.length - 1 - i).filterMap (λi=>z.cps[i]?)=z.cps.toList.reverse:=by
  rw[f]
  have:=aNT z.cps.toList
  rw[<-this]
  congr 1
  funext i
  rw[DP]
 rw[e]
 refine⟨?_,.str _,H2,(k.kept λb C q=>AB _ q).tok _,⟨_,rfl⟩,q⟩
 show(z.cps.toList.reverse.toArray).size<=_
 rw[CA,CW,<-f];exact p
def aNU(f:Sg->R D4)(g:Sg->R (O9 Int)):Sg->R D4:=λY=>(f Y).bind λx=>(g Y).bind λo=>if o=some (-1)then aDB x else .bad
theorem aVR{f:Sg->R D4}{g:Sg->R (O9 Int)}(h:PE X e (aVP (tV (aZ c) c E f) (tPf c E g))):PD X c E e (aNU f g):=PE.imp h λZ H Q a=>by
 obtain⟨Y,F,ab,k⟩:=a
 refine⟨Y,F,ab,(Rk.bind k).imp λx _ q v i H1 s1 r1=>⟨Y,i,ab.ext s1,((Rk.bind q).ext s1).imp λo _ q d H2 j=>?_⟩⟩
 by_cases b:o=some (-1)
 .rw[AJ b]at q
  unfold aDB at q
  split at q
  .split at q
   .obtain rfl:=aQ.str_of r1
    exact⟨b,_,rfl,by assumption,Rk.ok q _ d H2 (s1.trans j) (.str _)⟩
   .exact q.elim
  .exact q.elim
 .rw[AL b]at q;exact q.elim
end
theorem aVS{P:P9}{w:W9}{K:Frag}{mg:Str->O9 V9}{base:Hz}{T:Hp}{x:Str}{st:Stmt}{N ps:L9 Str}{k:Nat}{f:Az}{fd:FuncData}{fb:Sg->R Fw}(d:Fun K x x st f fd)(S:FnScope N ps (aF st))
  (a:∀ (cdv:V9) (A:U9) (outer:L9 Env) (s:S9) (H F:Hp) (E:XK),Room k (A.deeper (envOfC x (aF st) s.heap.objs.size f cdv))->
   j7 ((fO (CXe P w) P w K mg base N x (aF st) f cdv A outer s H E).fly E) ⟨K,mg,w,F,H,gOf P w K mg base T,(envOfC x (aF st) s.heap.objs.size f cdv).cells,λ_=>none⟩ E (bB st) fb):FnOk P w K mg base (CXe P w) (k+1) f fd ps (spF (gOf P w K mg base T) K mg ps.length (fnF N.length fb)):=by
 refine d.okX S (λvs H Q E h=>?_) (λcdv A outer s H vs Q E hr h=>?_)
 .obtain ⟨F,c,h2⟩:=h
  rw[h2.2.2.1.len,h2.2.2.2.1]
 .obtain ⟨F,c,b⟩:=h
  exact⟨_,a cdv A outer s H F E hr,pN b.1 b.2.1 b.2.2.1 b.2.2.2.2⟩
def x8(K:Frag)(T:Hp):Sp:=λvs H Q _=>∃ (a:Az) (ns:L9 Int),vs=[.ref a]/\ns.length<=63/\aD T H/\SqL K H a (ns.map V.int)/\∀ H',Q (.bl true) H'
theorem aDC{K:Frag}{H:Hp}:∀ (ns:L9 Int),DatVs K H (ns.map V.int) (ns.map PyData.int)
 | []=>.nil
 | n::t=>.cons (.int n) (aDC t)
theorem aVT{P:P9}{w:W9}{K:Frag}{mg:Str->O9 V9}{base:Hz}{T:Hp}{k:Nat}{f:Az}{fd:FuncData}{x:Str}{G:L9 A->R A}(h:FnOk P w K mg base (CXe P w) k f fd [x] (spF (gOf P w K mg base T) K mg 1 G))
  (b:∀ ns:L9 Int,ns.length<=63->G [.d (.list (ns.map .int))]=.ok (.d (.bool true))):FnOk P w K mg base (CXe P w) k f fd [x] (x8 K T):=h.imp λvs H Q E=>by
 rintro ⟨a,ns,rfl,hn,ht,hs,q⟩
 refine⟨H,[.d _],ht,bF H,⟨.lst hs (aDC ns),trivial⟩,rfl,?_⟩
 rw[b ns hn]
 intro v c H' _ r
 obtain rfl:=DatV.bl_of r
 exact q H'
theorem aYB(P:P9)(w:W9)(H:Hp)(s:S9)(e:V9)(s':S9)(h:CXe P w [] H s (λ_ _ _=>False) e s'):False:=by
 obtain⟨_,_,_,_,_,_,_,_,_,_,_,q⟩:=h
 ext
theorem aRP{l:OpenLaw}{k:Nat}{q:P9}{b:L9 Str}{n:(Str->O9 V9)->Hz->Prop}{m:W9->Hz->Prop}{d:DefRec}{K:Params->Frag}{x:Str}{qs:L9 (Pos×Str)}{xs:L9 Str}
  (i:∀ x∈xs,∃ d∈recsOf q,d.name=x) (hNT:∀ w:W9,noTabs (K w.params)=true)
  (p:l.most=some 63) (g:d.params.defaults=[]) (hr:Room k callerA)
  (r:∀ (w:W9) (h:Hz),m w h->(K w.params).In h)
  (F:∀ (w:W9) (mg:Str->O9 V9) (fa:Az) (h:Hz),(K w.params).In h->h.Ns mainGlobals mg->mg d.name=some (.ref fa)->
   ∃ fd:FuncData,(∀ (s:S9) (u:V9),BindsTo s fd ⟨[u],[]⟩ [(x,u)]) /\
    ∀ (base:Hz) (T:Hp),(K w.params).In base->base.Ns mainGlobals mg->aCS mg h base T qs xs->FnOk l.prog w (K w.params) mg base (CXe l.prog w) k fa fd [x] (x8 (K w.params) T)) :
  WalkO q b n m l.row.toRowW d [] (λf vs=>PySem.call f vs):=
 aNB i hNT p (by decide) g hr r (λw mg fa h h1 h2 c=>by
  obtain⟨fd,j⟩:=F w mg fa h h1 h2 c
  exact⟨fd,j.1,λbase T h1 h2 c=>⟨_,j.2 base T h1 h2 c,λH a o v t y=>⟨a,o,rfl,v,t,y,λ_=>rfl⟩⟩⟩) λw H s e s' z=>aYB _ w H s e s' z
variable{X:Cx}{c:Ct}{E:XK}{e:Ez}
noncomputable def d2(G:Int->Int->Int):D4->D4->R D4
 | .int i,.int j=>.ok (.int (G i j))
 | _,_=>.bad
noncomputable def d1(G:Int->Int):D4->R D4
 | .int i=>.ok (.int (G i))
 | _=>.bad
noncomputable def zX(i j:Int):Int:=if j > i then j else i
noncomputable def i4(i j:Int):Int:=if j < i then j else i
def aDD(i:Int):Int:=if i < 0 then -i else i
theorem aDE{G:Int->Int->Int}{f g:Sg->R D4}(h0:PE X e (tCB (λxs H Q=>∃ i j,xs=[.int i,.int j]/\Q (.int (G i j)) H) (c6 (tV (aZ c) c E f) (c6 (tV (aZ c) c E g) gK)))):PD X c E e (e2 (d2 G) f g):=PE.imp h0 λZ H Q a=>by
 obtain⟨Y,F,ab,k⟩:=a
 refine⟨Y,F,ab,(Rk.bind k).imp λx ex q v d H1 s1 r1=>?_⟩
 refine⟨Y,d,ab.ext s1,((Rk.bind q).ext s1).imp λy _ q u b H2 h r2=>?_⟩
 cases x with
 | int i=>
  cases y with
  | int j=>
   obtain rfl:=aQ.int_of r1
   obtain rfl:=aQ.int_of r2
   exact⟨i,j,rfl,Rk.ok q _ b H2 (s1.trans h) (.int _)⟩
  | _=>exact q.elim
 | _=>exact q.elim
theorem aRQ{G:Int->Int}{f:Sg->R D4}(h0:PE X e (tCB (λxs H Q=>∃ i,xs=[.int i]/\Q (.int (G i)) H) (c6 (tV (aZ c) c E f) gK))):PD X c E e (e1 (d1 G) f):=PE.imp h0 λZ H Q a=>by
 obtain⟨Y,F,ab,k⟩:=a
 refine⟨Y,F,ab,(Rk.bind k).imp λx ex q v b H1 s1 r1=>?_⟩
 cases x with
 | int i=>
  obtain rfl:=aQ.int_of r1
  exact⟨i,rfl,Rk.ok q _ b H1 s1 (.int _)⟩
 | _=>exact q.elim
end _f
namespace _a
variable{X:Cx}
end _a
namespace _f
variable{X:Cx}{c:Ct}{E:XK}{e:Ez}
variable{X:Cx}{c:Ct}{E:XK}{e:Ez}{st:Stmt}
def wM:Sg->R Fw:=λ_=>.bad
theorem aVU:PSf X c E st wM:=λ_ _ _ _ _ _ k=>by obtain⟨_,_,k⟩:=k;exact k.2.elim
end _f
namespace PySem
open PySem.Sem (wp)
open Builtin
theorem wN:fillsNumberSlot (.type "tuple") "mul"=pure false:=
 fillsNumberSlot_seq EN.lookup (by rfl) F.slot_tuple_rmul.lookup (by rfl)
theorem aDF:seqRepeat? (.type "tuple")=pure (some (.builtin "tuple.__mul__")):=by
 unfold seqRepeat?
 rw[seqSlot_of (name:="__mul__") EN.lookup (by rfl),seqSlot_of (name:="__rmul__") F.slot_tuple_rmul.lookup (by rfl)]
 rfl
theorem oZ(a:Int)(t:Tok)(l:Az)(od:O9 Az)(sl:Array (O9 V9))(items:Array V9)(n:Nat) :
  Meets (Builtin.«int.__rmul__» ⟨[.int a t,.ref l],[]⟩) (λ_ R s=>s.heap.get? l=some {cls:=.type "tuple",dict:=od,data:=.seq items n,slots:=sl}/\R (.ok (.ret Value.notImplemented)) s):=
 .of_wp λprog w A R s h=>by obtain⟨b,h⟩:=h;wp_walk;exact⟨_,rfl,h⟩
theorem aBP(l:Az)(od:O9 Az)(sl:Array (O9 V9))(items:Array V9)(n:Nat)(t:Tok) :
  Meets (Builtin.«tuple.__mul__» ⟨[.ref l,.int 1 t],[]⟩) (λ_ R s=>s.heap.get? l=some {cls:=.type "tuple",dict:=od,data:=.seq items n,slots:=sl}/\R (.ok (.ret (.ref l))) s):=
 .of_wp λprog w A R s h=>by obtain⟨a,h⟩:=h;wp_walk;exact⟨_,rfl,h⟩
theorem zY(l:Az)(od:O9 Az)(sl:Array (O9 V9))(items:Array V9)(n:Nat)(x:Int)(t:Tok)(h1:(decide (x < -(2 ^ 63)) || decide (x>=2 ^ 63))=false)(h2:(items.isEmpty || x == 1)=false)(b:(decide (x<=0) || items.isEmpty)=false)(a:¬ items.size * x > (2 ^ 63 - 1) / 8)(c:Builtin.Tuple.tupleTooMany (items.size * x)=false)(e:((replicate x.toNat items).foldl (· ++ ·) #[]).size<=sizeLine) :
  Meets (Builtin.«tuple.__mul__» ⟨[.ref l,.int x t],[]⟩) (λ_ R s=>s.heap.get? l=some {cls:=.type "tuple",dict:=od,data:=.seq items n,slots:=sl}/\R (.ok (.ret (.ref s.heap.objs.size))) {s with heap:=s.heap.push {cls:=.type "tuple",data:=.seq ((replicate x.toNat items).foldl (· ++ ·) #[])}}):=
 .of_wp λprog w A R s h=>by
  obtain⟨d,h⟩:=h
  refine wpAny_ite_false (BA (by rw[h1];simp)) ?_
  wp_walk
  refine wpAny_ite_false (BA a) ?_
  wp_walk
  exact⟨_,rfl,h⟩
end PySem
namespace _a
theorem aDG(vs:Array V9):∀ (n:Nat) (bx:Array V9),((replicate n vs).foldl (· ++ ·) bx).size=bx.size+n * vs.size
 | 0,bx=>by simp
 | n+1,bx=>by
  rw[E5,D5,aDG vs n,Array.size_append,Nat.add_mul];ext
theorem aRR{w:W9}{A:U9}{l:Az}{x:Int}{u:Tok}(f:IsTup s.heap l vs)(hx:1<=x)(e:vs.isEmpty=false)(hsz:x.toNat * vs.size<=1000)
  (h1:x=1->Q (.ref l) s) (h2:x≠1->Q (.ref s.heap.objs.size) {s with heap:=s.heap.push {cls:=.type "tuple",data:=.seq ((replicate x.toNat vs).foldl (· ++ ·) #[])}}) :
  wpAny (model prog w) A (binaryOp .Mult (.ref l) (.int x u)) Q E s:=by
 obtain⟨⟨cls,dd,data,sl⟩,a,b,n,c⟩:=id f
 subst b c
 have d:0 < vs.size:=by
  ext
 have g:=BB (Nat.le_mul_of_pos_right _ d) hsz
 have i:vs.size * x=((x.toNat * vs.size)):=by
  ext
 refine FW (by rfl) ⟨_,a,rfl⟩ (λs'=>FT s' x u) wN F.fills_int_mul EY aDF F.slot_int_index.lookup
  (DS EY (FT s x u) F.entry_int_rmul (F.args_int_rmul_2 _ _) (oZ x u l dd sl vs n)
   ⟨a,rfl,⟨_,a,rfl⟩,?_⟩)
 by_cases h:x=1
 .subst h
  exact DS EN ⟨_,a,rfl⟩ F.entry_tuple_mul (F.args_tuple_mul_2 _ _) (aBP l dd sl vs n u) ⟨a,h1 rfl⟩
 .exact DS EN ⟨_,a,rfl⟩ F.entry_tuple_mul (F.args_tuple_mul_2 _ _) (zY l dd sl vs n x u (by ext) (by simp[e,h]) (by ext) (by ext) (BA (by have:sizeLine=16777216:=rfl;ext)) (by rw[aDG];have:sizeLine=16777216:=rfl;ext)) ⟨a,h2 h⟩
theorem aRS{w:W9}{A:U9}{t:Az}{vs ws:L9 V9}(l:PlainL s.heap t vs.toArray)(hb:PlainL s.heap b ws.toArray)
  (h2:Q (.ref s.heap.objs.size) {s with heap:=s.heap.push {cls:=.type "list",data:=.seq (vs++ws).toArray}})
  (hsz:vs.length+ws.length<=sizeLine):wpAny (model prog w) A (binaryOp .Add (.ref t) (.ref b)) Q E s:=by
 obtain⟨⟨cls,dd,data,sl⟩,n,i,o,_,k⟩:=id l
 obtain⟨⟨j,f,h,d⟩,m,a,g,_,c⟩:=id hb
 subst o k g c
 have e:vs.toArray++ws.toArray=(vs++ws).toArray:=by simp
 refine concat_meets ⟨_,i,rfl⟩ ⟨_,a,rfl⟩ noFill_list_add seq_list_add PySem.F.slot_list_add PySem.F.entry_list_add (PySem.F.args_list_add_2 _ _)
   (list_addW t b vs.toArray ws.toArray n m dd f sl d (by ext)) ⟨i,a,?_⟩
 rw[e]
 ext
theorem zZ(vs:L9 V9):∀ (n:Nat) (bx:L9 V9),(replicate n vs.toArray).foldl (· ++ ·) bx.toArray=(bx++(replicate n vs).flatten).toArray
 | 0,bx=>by simp
 | n+1,bx=>by
  rw[E5,D5,List.append_toArray,zZ vs n,E5,List.flatten_cons,FQ]
end _a
variable{p:Az}
namespace _f
section
variable{X:Cx}{c:Ct}{E:XK}{e a b:Ez}{pos:Pos}
def oK:D4->D4->R D4
 | .tuple xs,.int n=>if 1<=n/\xs.isEmpty=false/\n.toNat * xs.length<=1000 then .ok (.tuple (replicate n.toNat xs).flatten)else .bad
 | _,_=>.bad
theorem wO{vs:L9 V}{its:L9 V9}(h:a8 vs its):∀ n:Nat,a8 (replicate n vs).flatten (replicate n its).flatten
 | 0=>.nil
 | n+1=>h.append (wO h n)
theorem sP{F:Hp}{vs:L9 V}{xs:L9 D4}(h:DatVs K F vs xs):∀ n:Nat,DatVs K F (replicate n vs).flatten (replicate n xs).flatten
 | 0=>.nil
 | n+1=>h.append (sP h n)
theorem aNV(w:X.K=c.K):OpR X (binaryOp .Mult) (r2D (aZ c) (aZ c) (bO c) oK):=by
 intro ap s Z H v u x y Q I o B h
 obtain⟨C,H1,F,a,b,d,j,z,p,g,q⟩:=h
 unfold oK at g
 split at g
 .rename_i xs i
  split at g
  .rename_i A
   cases g
   obtain⟨n,vs,rfl,m,l,f⟩:=aQ.tup_of j z
   obtain rfl:=aQ.int_of p
   rw[<-w]at l
   cases o
   obtain⟨t,rfl⟩:=B
   obtain⟨e,r⟩:=I.tuple l
   have k:e.length=xs.length:=by rw[<-r.1.length,f.length]
   refine aRR r.2.1 A.1 ?_ (by simp_all) (λh1=>?_) (λh1=>?_)
   .grind
   .subst h1
    refine⟨.ref n,H,I,rfl,q _ F H (Ext.refl j) ?_⟩
    have:(replicate (1:Int).toNat xs).flatten=xs:=by
     simp
    rw[this]
    exact .tup m f
   .rw[(zZ e i.toNat [])]
    refine⟨.ref s.heap.objs.size,_,I.laid (λb D q=>AB _ q) (AM _) ?_,rfl,q _ _ _ (Ext.new j I.fresh) (.tup (SqT.of aO) ((sP f _).same (aD.upd (aU j I.fresh))))⟩
    refine⟨?_,_,wO r.1 _,kR.new _ _⟩
    rw[aFA,f.length]
    have:sizeLine=16777216:=rfl
    ext
  simp_all
 simp_all
theorem aH9:cJ oK:=by
 intro a b e h
 unfold oK at h
 split at h<;>(try split at h)<;>cases h
noncomputable def nP:D4->D4->R (L9 D4)
 | .list xs,.list ys=>if xs.length+ys.length<=sizeLine then .ok (xs++ys)else .bad
 | _,_=>.bad
theorem aRT(o:X.K=c.K):OpR X (binaryOp .Add) (r2D (aZ c) (aZ c) (zO c) nP):=by
 intro ap s Z H v u x y Q I m w h
 obtain⟨A,H1,F,a,b,d,f,p,n,e,q⟩:=h
 unfold nP at e
 split at e
 .split at e
  .cases e
   obtain⟨z,vs,rfl,j,i⟩:=aQ.lst_of f p
   obtain⟨B,us,rfl,g,k⟩:=aQ.lst_of f n
   rw[<-o]at j g
   cases m
   cases w
   obtain⟨r,r1⟩:=I.list j
   obtain⟨l,r2⟩:=I.list g
   have t:vs.length+us.length<=sizeLine:=by rw[i.length,k.length];ext
   refine aRS r1.2.1 r2.2.1 ?_ (by rw[<-r1.1.length,<-r2.1.length];ext)
   exact⟨.ref _,_,I.lnew (r1.1.append r2.1) (by simp_all),rfl,q _ F _ (Ext.own f I.fresh) ⟨_,_,rfl,I.fresh,aO,aU f I.fresh,i.append k⟩⟩
  simp_all
 simp_all
theorem aK0:cJ nP:=by
 intro a b e h
 unfold nP at h
 ext
theorem aK1(e:X.K=c.K){d fb:Sg->R D4}(f:PR X c E a d)(hb:PR X c E b fb):PN X c E (.BinOp a .Add b pos) (e2 nP d fb):=
 PE.imp (aHE (aRT e) f hb) λZ H Q h=>tV2 xY aK0 (sL c) (aX6 c) h
end
theorem kE{H:Hp}{a b:HO}:upd (upd H p a) p b=upd H p b:=by
 funext x
 by_cases q:x=p
 · subst q; rw [aO, aO]
 · rw [aG q, aG q, aG q]
section
variable{X:Cx}{ap:L9 (Az×Obj)}{Z:_a.St}{H:Hp}{s:S9}{a:Az}{es:L9 Ent}{k:D4}{kv v:V}{ku u:V9}{A:U9}{E:V9->S9->Prop}
theorem aIA{A:U9}(a:A.units+64 < cLine):(j6 X.prog X.w).room A:=by show A.units+9 < cLine;ext
theorem aRU{Q:Unit->S9->Prop}(q:A.units+64 < cLine)(D:DicAt X H a es k kv)(I:Inv X ap Z H s)(r:aV kv ku)(p:aV v u)(hz:es.length<=sizeLine)(h:∀ ep s',Inv X ap Z (upd H a (gN X.w a (oW es k kv v) ep)) s'->Q () s') :
  wpAny (model X.prog X.w) A (dictSet a ku u) Q E s:=by
 obtain⟨n,⟨b,xs,rfl,rfl,f,j,dd⟩|⟨y,xs,rfl,rfl,f,j,dd⟩⟩:=D.cases I r
 .refine wpAny_dictSet_heap (aIA q) j dd (λh' d g=>?_) (by rw[<-Paired.length f];ext)
  obtain⟨e,i,ep,c⟩:=d
  obtain⟨m,l⟩:=D.o
  refine h ep _ (m6 I (by rw[l];exact True.intro) g ⟨e,c.1⟩ (kG n ⟨e,i,c.1,c.2.1,c.2.2.1,?_⟩))
  rw[c.2.2.2.1]
  exact qM (aH2 p f)
 .refine wpAny_dictSet_pairs j dd (λh' d g=>?_) (by rw[<-Paired.length f];ext)
  obtain⟨e,i,ep,c⟩:=d
  obtain⟨m,l⟩:=D.o
  refine h ep _ (m6 I (by rw[l];exact True.intro) g ⟨e,c.1⟩ (kG n ⟨e,i,c.1,c.2.1,c.2.2.1,?_⟩))
  exact qN (aH3 p f) c.2.2.2.2.1 λx t=>c.2.2.2.1 x (by simp_all)
end
abbrev TP:=_a.St->Hp->(L9 (V×V)->Hp->Prop)->Prop
def aVV(p:V×V)(u:V9×V9):Prop:=aV p.1 u.1/\aV p.2 u.2
def PPr(X:Cx)(keys:L9 (O9 Ez))(vals:L9 Ez)(t:TP):Prop:=∀ (pos:Pos) (ap:L9 (Az×Obj)) (s:S9) (Z:_a.St) (H:Hp) (Q:L9 (V×V)->Hp->Prop),Inv X ap Z H s->t Z H Q->
 wpAny (model X.prog X.w) X.A (evalPairs (pairTrees keys vals X.env pos)) (λvs s'=>∃ ps H',Inv X ap Z H' s'/\Paired aVV ps vs/\Q ps H') X.xe s
def aYC:TP:=λ_ H Q=>Q [] H
def aVW(tk tv:TE)(t:TP):TP:=λZ H Q=>tk Z H λx H1=>tv Z H1 λy H2=>t Z H2 λps H3=>Q ((x,y)::ps) H3
section
variable{X:Cx}{c:Ct}{E:XK}{e a b:Ez}{st:Stmt}{pos:Pos}
theorem aVX:PPr X [] [] aYC:=λpos ap s Z H Q I h=>evalPairs_nil ⟨[],H,I,.nil,h⟩
theorem aRV{k v:Ez}{d:L9 (O9 Ez)}{vs:L9 Ez}{c tv:TE}{t:TP}(i:PE X k c)(f:PE X v tv)(hr:PPr X d vs t):PPr X (some k::d) (v::vs) (aVW c tv t):=by
 intro pos ap s Z H Q I h
 refine evalPairs_cons (thn (i ap s Z H _ I h) λku s1 a=>?_)
 obtain⟨x,H1,g,r1,j⟩:=a
 refine AA (thn (f ap s1 Z H1 _ g j) λn l a=>?_)
 obtain⟨y,H2,e,r2,m⟩:=a
 refine AA (FD (AH ?_))
 exact thn (hr pos ap l Z H2 _ e m) λvs o ps=>by obtain⟨ps,H3,b⟩:=ps;exact⟨(x,y)::ps,H3,b.1,.cons ⟨r1,r2⟩ b.2.1,b.2.2⟩
def gO:L9 (D4×D4)->L9 (D4×D4)->R (L9 (D4×D4))
 | bx,[]=>.ok bx
 | bx,(k,v)::t=>if bU k (bx.map (·.1))=true/\bx.length<=16777216 then gO (putM bx k v) t else .bad
def aNW(K:Frag)(F:Hp)(p:V×V)(d:D4×D4):Prop:=DatV K F p.1 d.1/\DatV K F p.2 d.2
theorem aK2{Z:_a.St}{F:Hp}(l:X.A.units+64 < cLine)(b:L9 (D4×D4)):∀ (ps:L9 (V×V)) (vs:L9 (V9×V9)) (bx res:L9 (D4×D4)) (es:L9 Ent) (ep:Nat) (H:Hp) (s:S9) (Q:S9->Prop),
  Inv X ap Z H s->aD F H->F p=none->H p=some (gN X.w p es ep)->MapRel X.K F es bx->Paired (aNW X.K F) ps b->Paired aVV ps vs->gO bx b=.ok res->
  (∀ es' ep' s',Inv X ap Z (upd H p (gN X.w p es' ep')) s'->MapRel X.K F es' res->Q s')->wpAny (model X.prog X.w) X.A (storeAll p vs) (λ_ s=>Q s) X.xe s:=by
 induction b with
 | nil=>
  intro ps vs bx res es ep H s Q I c h j m d r e q
  cases d
  cases r
  cases e
  have f:storeAll p []=pure PUnit.unit:=by rfl
  refine AH (q es ep s ?_ m)
  have:upd H p (gN X.w p es ep)=H:=by
   funext x
   by_cases z:x=p
   .subst z;rw[aO,j]
   .rw[aG z]
  ext
 | cons kv t ih=>
  intro ps vs bx res es ep H s Q I c h j m d r e q
  cases d with
  | @cons x _ ps _ d ds=>
   cases r with
   | @cons _ u _ vs r rs=>
    unfold gO at e
    split at e
    .rename_i f
     have y:es.length<=sizeLine:=by
      have:=by simpa using congrArg length m.k1
      rw[this,fQ];exact f.2
     have i:storeAll p (u::vs)=(do dictSet p u.1 u.2;storeAll p vs):=by
      unfold storeAll
      simp_all
     rw[i]
     refine AA (aRU l (⟨⟨ep,j⟩,λe n=>(oI m.k1 m.k2 e n).same c,by rw[m.k1];exact m.nd,d.1.same c,by rw[m.k1];exact f.1⟩) I r.1 r.2 y λv s' C=>?_)
     refine ih ps vs _ res _ _ _ s' Q C (λa o z=>by rw[aG (a9 z h)];exact c a o z) h aO (m.put d.1 d.2) ds rs e λes' ep' k g B=>?_
     rw[kE]at g
     ext
    .cases e
def aPZ(X:Cx)(tp:TP):TE:=λZ H Q=>∀ p,H p=none->tp Z (upd H p (gN X.w p [] 0)) λps H2=>∃ (F:Hp) (a0 res:L9 (D4×D4)),aD F H2/\F p=none/\H2 p=some (gN X.w p [] 0)/\Paired (aNW X.K F) ps a0/\gO [] a0=.ok res /\
 ∀ es' ep',MapRel X.K F es' res->Q (.ref p) (upd H2 p (gN X.w p es' ep'))
theorem aRW{a:L9 (O9 Ez)}{b:L9 Ez}{k:TP}(n:X.A.units+64 < cLine)(h:PPr X a b k)(h1:autoParam ((a.all λx=>x.isSome)=true) z3)(h2:autoParam (a.length=b.length) z3)(h3:a≠[]:=by exact λz=>nomatch z)(h4:autoParam (a.length<=15) z5):PE X (.Dict a b pos) (aPZ X k):=by
 intro ap s Z H Q I q
 have o:=I.laid (t':=s.toks) (λ_ _ q=>AB {cls:=.type "dict",data:=.dict #[]} q) (AM _)
  (kG (beq_eq_false_iff_ne.mpr (BQ (BG I.big))) ⟨_,#[],AY _ rfl,⟨rfl,rfl,rfl⟩,rfl,.nil⟩)
 refine wpAny_Dict_any h1 h2 h3 h4 (thn (h pos ap _ Z _ _ o (q _ (I.hok.fresh (AM _)))) λvs v c=>?_)
 obtain⟨ps,H2,l,r,F,j,i,u,t,p,d,e,z⟩:=c
 exact aK2 n j ps vs [] i [] 0 H2 v _ l u t p ⟨rfl,.nil,.nil,DO⟩ d r e λg f s' w m=>⟨.ref s.heap.objs.size,_,w,rfl,z g f m⟩
def aVY(c:Ct)(E:XK)(f:Sg->R (L9 (D4×D4))):TP:=λZ H Q=>∃ Y F,Ab c Y Z F H/\Rk c E F H (f Y) λa0=>∀ ps F' H',Ext F H F' H'->Paired (aNW c.K F') ps a0->Q ps H'
abbrev PPf(X:Cx)(c:Ct)(E:XK)(keys:L9 (O9 Ez))(vals:L9 Ez)(f:Sg->R (L9 (D4×D4))):Prop:=PPr X keys vals (aVY c E f)
theorem PPr.imp{X:Cx}{a:L9 (O9 Ez)}{vs:L9 Ez}{t t':TP}(h:PPr X a vs t)(i:∀ Z H Q,t' Z H Q->t Z H Q):PPr X a vs t':=λpos ap s Z H Q I q=>h pos ap s Z H Q I (i Z H Q q)
noncomputable def aIB:Sg->R (L9 (D4×D4)):=λ_=>.ok []
def aB4(f g:Sg->R D4)(r:Sg->R (L9 (D4×D4))):Sg->R (L9 (D4×D4)):=λY=>(f Y).bind λx=>(g Y).bind λy=>(r Y).bind λt=>.ok ((x,y)::t)
theorem aRX:PPf X c E [] [] aIB:=PPr.imp aVX λZ H Q Y=>by obtain⟨Y,F,ab⟩:=Y;exact Rk.ok ab.2 [] F H (Ext.refl ab.1.fh) .nil
theorem aNX{k v:Ez}{e:L9 (O9 Ez)}{vs:L9 Ez}{f g:Sg->R D4}{r:Sg->R (L9 (D4×D4))}(m:PD X c E k f)(j:PD X c E v g)(hr:PPf X c E e vs r):PPf X c E (some k::e) (v::vs) (aB4 f g r):=PPr.imp (aRV m j hr) λZ H Q b=>by
 obtain⟨Y,F,ab,k⟩:=b
 refine⟨Y,F,ab,(Rk.bind k).imp λx _ q v i H1 s1 r1=>?_⟩
 refine⟨Y,i,ab.ext s1,((Rk.bind q).ext s1).imp λy _ q u h H2 a r2=>?_⟩
 refine⟨Y,h,ab.ext (s1.trans a),((Rk.bind q).ext (s1.trans a)).imp λt _ q ps l H3 d n=>?_⟩
 exact Rk.ok q _ l H3 ((s1.trans a).trans d) (.cons ⟨DatV.same (a.trans d).ff r1,DatV.same d.ff r2⟩ n)
def x9(i:Nat)(f:Sg->R (L9 (D4×D4))):Sg->R Fw:=λY=>(f Y).bind λa0=>(gO [] a0).bind λres=>.ok (.nx (Y.set i (some (.m res))))
theorem aBC:∀ (a0 bx:L9 (D4×D4)) (x:Er),gO bx a0≠.ex x
 | [],bx,x,h=>by cases h
 | (k,v)::t,bx,x,h=>by
  unfold gO at h
  split at h
  · exact aBC t _ x h
  simp_all
theorem aRY{f:Sg->R (L9 (D4×D4))}(u:X.K=c.K)(v:X.w=c.w)(h:PS X st (lH (aPZ X (aVY c E f)) (jG i))):PSf X c E st (x9 i f):=PS.imp h λD Z H ⟨Y,F,ab,k⟩=>λp g=>by
 have e1:=Ext.own (o:=gN X.w p [] 0) ab.fh g
 refine⟨Y,F,ab.ext e1,((Rk.bind k).ext e1).imp λd _ q ps j H2 b r2=>?_⟩
 have l:=b.stay (aU ab.fh g) aO (λ_ z=>aCW z)
 cases e:gO [] d with
 | bad=>rw[e]at q;exact q.elim
 | ex x=>exact absurd e (aBC _ _ _)
 | ok res=>
  rw[e]at q
  refine⟨j,d,res,b.fh,l,(b.hh _ _ aO),by rw[u];ext,e,λs r m=>?_⟩
  have t:Ext F H j (upd H2 p (gN X.w p s r)):=by
   refine⟨λa o z=>?_,b.ff,λa o z=>?_,λa z n=>?_⟩
   .rw[aG (a9 z g)]
    exact b.hh a o (by rw[aG (a9 z g)];ext)
   .rw[aG (a9 z l)];exact b.fh a o z
   .have:=b.nw a z n
    by_cases w:a=p
    · ext
    · unfold oG at this; rw [aG w]at this; exact this
  rw[v]at t ⊢
  rw[u]at m
  exact Rk.ok q _ j _ b.ff (ab.setM t g aO l m)
end
end _f
namespace _a
def aVZ(X:Cx)(T:String)(r:V->L9 V->Hp->VK->Prop)(to:TE)(t:TA):TE:=λZ H Q=>to Z H λx H1=>(∀ (ap:L9 (Az×Obj)) (s:S9) (v:V9),Inv X ap Z H1 s->aV x v->s.TypeIs v T/\∀ a,v=.ref a->∃ ob,s.heap.get? a=some ob/\ob.dict=none)/\t Z H1 λxs H2=>r x xs H2 Q
theorem aV0{X:Cx}{o e:Ez}{es:L9 Ez}{to:TE}{t:TA}{cpos:Pos}{T id:String}{r:V->L9 V->Hp->VK->Prop}(i:PlainAttrs T)(slot:Slot T name id)(b:typeOf (.builtin id)=pure (.type "method_descriptor"))(j:MtR X id r)(k:PE X o to)(l:PA X (e::es) t)
  (a:autoParam (attributeBase o name X.env (eval o X.env)=eval o X.env) z3)
  (hfew:autoParam (((backTo cpos (starEach (e::es) X.env)).all (λx=>!x.1) && (backToKw cpos (keywordEach [] X.env)).all (λx=>x.1.isSome)
   && decide ((e::es).length+([]:L9 Keyword).length+(if ([]:L9 Keyword).isEmpty then 0 else 1) < 30))=true) z3)
  (hline:autoParam ((apos.endLine == cpos.line)=true) z3) (hs:autoParam (starEach (e::es) X.env=(false,eval e X.env)::starEach es X.env) z3) (hplain:autoParam ((backTo cpos (starEach es X.env)).any (·.1)=false) z3) :
  PE X (.Call (.Attribute o name apos) (e::es) [] cpos) (aVZ X T r to t):=by
 intro ap s Z H Q I h
 refine GQ a hfew hline rfl (thn (k ap s Z H _ I h) λv s1 c=>?_)
 obtain⟨x,H1,d,r1,q,m⟩:=c
 have h1:=q ap s1 v d r1
 refine⟨T,id,i,slot,b,h1.1,h1.2,?_⟩
 have f:=l cpos ap s1 Z H1 _ d m
 rw[hs]at f ⊢
 refine GR (by assumption) (Calls.evalArgs_plain ?_)
 exact thn f λus n ⟨vs,H2,g,r2,p⟩=>j ap n Z H2 x vs v us Q g r1 r2 p
end _a
namespace _f
section
variable{X:Cx}{c:Ct}{E:XK}
end
section
variable{X:Cx}{c:Ct}{E:XK}{e:Ez}{P:P9}{w:W9}{base:Hz}
end
end _f
namespace _a
theorem dF.got{w:W9}{H:Hp}{h:Hz}{o:HO}(x:dF P w H h a o):∃ u,h.get? a=some u:=by
 cases o with
 | lst xs=>obtain⟨_,_,_,e⟩:=x;exact⟨_,e.2⟩
 | tup xs=>obtain⟨_,_,_,⟨o,e,_⟩⟩:=x;exact⟨_,e⟩
 | dK a0=>obtain⟨_,_,_,_,o,_,_,e⟩:=x;exact⟨_,e.1⟩
 | dT a0=>obtain⟨_,_,_,_,o,_,_,e⟩:=x;exact⟨_,e.1⟩
 | set S n=>obtain⟨o,_,_,_,e⟩:=x;exact⟨_,e.1⟩
 | ins C dx fs=>exact⟨_,x.2.2.2.1⟩
 | own y=>exact x
 | xd fs=>obtain⟨_,⟨_,_,_,e,_⟩,_⟩:=x;exact⟨_,e⟩
 | rng lo hi=>obtain⟨_,_,_,e⟩:=x;exact⟨_,e⟩
 | frz ob u=>exact⟨_,x.1⟩
 | tbl ps=>obtain⟨_,e⟩:=x;exact⟨_,e.1⟩
 | cod q=>obtain⟨c,o,vs,t,e⟩:=x;simp_all
 | met f y=>exact⟨_,x⟩
 | ext φ=>exact x.2.1
theorem HOk.free{w:W9}{H:Hp}{h:Hz}(x:HOk P w H h)(e:h.get? a=none):H a=none:=by
 cases q:H a with
 | none=>rfl
 | some u=>
  obtain⟨o,z⟩:=(x a u q).got
  ext
def few(i:Int):Prop:=i=40\/i=60\/i=200\/i=300
end _a
namespace _f
instance (i:Int):Decidable (few i):=by unfold few;infer_instance
section
variable{X:Cx}{c:Ct}{E:XK}{st:Stmt}{cn:Str}{C:Az}
end
end _f
namespace _b
end _b
namespace _f
variable{es:L9 Ez}{F:Hp}
def FnK(K:Frag)(H:Hp)(f:Az):Prop:=keepIn K (.ref f)=true\/∃ oc od fd sl,H f=some (FnO f ⟨oc,od,.func fd,sl⟩)
def aDH(X:Cx)(i:Nat)(E:XK)(t:TA):TE:=λZ H Q=>∃ f,Z[i]? = some (some (.ref f))/\FnK X.K H f/\t Z H λvs H1=>FnK X.K H1 f/\∃ k fd ps sp,Room k X.A/\FnOk X.prog X.w X.K X.mg X.base (CXe X.prog X.w) k f fd ps sp/\cO X.K fd ps []/\sp vs H1 Q E
theorem aDI{X:Cx}{E:XK}{p pos:Pos}{e:Ez}{t:TA}(D:PE X (.Name x p) (g7 i))(hx:fU (CXe X.prog X.w) X E)(z:PA X (e::es) t)
  (n:autoParam (starEach (e::es) X.env=(false,eval e X.env)::starEach es X.env) z3) (hpl:autoParam ((backTo pos (starEach es X.env)).any (·.1)=false) z3):PE X (.Call (.Name x p) (e::es) [] pos) (aDH X i E t):=by
 intro ap s Z H Q I h
 obtain⟨f,G,d,h⟩:=h
 refine C0 (thn (D ap s Z H (λv H'=>v=.ref f/\H'=H) I ⟨_,G,rfl,rfl⟩) λu B j=>?_)
 obtain⟨v,y,c,C,e1,e2⟩:=j
 subst e1 e2
 obtain rfl:=C
 have g:∀ us s1,AP X ap Z (λvs H1=>FnK X.K H1 f/\∃ k fd ps sp,Room k X.A/\FnOk X.prog X.w X.K X.mg X.base (CXe X.prog X.w) k f fd ps sp/\cO X.K fd ps []/\sp vs H1 Q E) us s1->
   (∃ H1,Inv X ap Z H1 s1/\FnK X.K H1 f)/\wpAny (model X.prog X.w) X.A (call (.ref f) us) (EP X ap Z Q) X.xe s1:=by
  rintro us s1 ⟨vs,H1,b,r,a,k,fd,ps,sp,hr,F,hb,q⟩
  refine⟨⟨H1,b,a⟩,r7 F hr hb .nil hx b r ?_⟩
  ext
 rcases d with d|⟨m,od,fd,sl,d⟩
 .refine C3 c.ok.mod.kin d (thn (z pos ap B Z y _ c h) λus s1 l=>?_) n hpl
  obtain⟨⟨H1,b,_⟩,q⟩:=g us s1 l
  exact⟨b.kIn,q⟩
 .refine callWith_F ⟨m,od,fd,sl,FnO.get c.hok d⟩ (thn (z pos ap B Z y _ c h) λus s1 l=>?_) n hpl
  obtain⟨⟨H1,b,a⟩,q⟩:=g us s1 l
  refine⟨?_,q⟩
  rcases a with a|⟨m,od,fd,sl,a⟩
  .cases e:X.K.lookup f with
   | none=>unfold keepIn at a;simp_all
   | some o=>
    have J:=c.bs f o (c.ok.mod.kin f o e)
    ext
  .exact ⟨m,od,fd,sl,FnO.get b.hok a⟩
def aIC(m i:Nat)(f:Sg->R (L9 D4)):Sg->R D4:=λY=>match Y[i]? with
 | some (some (.g k n G))=>(f Y).bind λds=>if k<=m/\ds.length=n then G ds else .bad
 | _=>.bad
theorem aV1{X:Cx}{c:Ct}{E:XK}{e:Ez}{m:Nat}{T:Hp}{f:Sg->R (L9 D4)}(hG:c.g=gOf X.prog X.w X.K X.mg X.base T)(J:X.K=c.K)(N:X.mg=c.mg)(hr:Room m X.A)(h:PE X e (aDH X i E (tAd c E f))):PD X c E e (aIC m i f):=PE.imp h λZ H Q ⟨Y,F,ab,k⟩=>by
 unfold aIC at k
 split at k
 .rename_i y n G hi
  obtain⟨v,I⟩:=ab.slot i _ hi
  obtain⟨D,O,rfl,s1,B⟩:=((I.2))
  rw[hG]at B
  obtain⟨fd,ps,b⟩:=((B))
  have l:∀ j H',aD F j->aD j H'->FnK X.K H' D:=λj H' M L=>b.2.2.2.imp id λu=>by obtain⟨u,od,fd,sl,e⟩:=u;exact⟨u,od,fd,sl,L _ _ (M _ _ (s1 _ _ e))⟩
  refine⟨D,I.1,l F H (bF F) ab.fh,Y,F,ab,(Rk.bind k).imp λds _ q vs j H' e1 r=>?_⟩
  refine⟨l j H' e1.ff e1.fh,?_⟩
  by_cases p:y<=m/\ds.length=n
  .rw[AJ p]at q
   refine⟨y,fd,ps,_,hr.mono p.1,b.2.2.1,b.2.1,j,ds,λa o z=>e1.ff a o (s1 a o z),λa o z=>e1.ff a o (ab.f0 a o (ab.t0 a o (by rw[hG];exact z))),e1.fh,by rw[J];ext,p.2,?_⟩
   cases s:G ds with
   | bad=>rw[s]at q;exact q
   | ok d=>rw[s]at q;exact λv t H2 e2 r2=>Rk.ok q v t H2 (e1.trans e2) (by rw[J]at r2;exact r2)
   | ex x=>rw[s]at q;exact λa C t H2 e2 r2=>q a C t H2 ((ab.all.trans e1).trans e2) (by simp_all)
  .rw[AL p]at q;exact q.elim
 .exact k.elim
noncomputable def uP:D4->Bool
 | .none=>true
 | .bool _=>true
 | .int _=>true
 | .str _=>true
 | _=>false
theorem aNY{a:Hp}{v:V}{d:D4}(h:uP d=true)(r:DatV K F v d):DatV K a v d:=by
 cases d with
 | none=>cases r;exact .non
 | bool b=>cases r;exact .bl b
 | int i=>cases r;exact .int i
 | str x=>cases r;exact .str x
 | list xs=>cases h
 | tuple xs=>cases h
 | dict xs=>cases h
def qX(K:Frag)(F H:Hp):L9 V->L9 D4->Prop
 | [],[]=>True
 | v::vs,d::ds=>aQ K F H v d/\qX K F H vs ds
 | _,_=>False
theorem qX.ext{H F' H':Hp}(e:Ext F H F' H'):∀ {vs:L9 V} {ds:L9 D4},qX K F H vs ds->qX K F' H' vs ds
 | [],[],_=>trivial
 | v::vs,d::ds,h=>⟨aQ.ext e h.1,qX.ext e h.2⟩
def tAr(c:Ct)(E:XK)(f:Sg->R (L9 D4)):TA:=λZ H Q=>∃ Y F,Ab c Y Z F H/\Rk c E F H (f Y) λds=>∀ vs F' H',Ext F H F' H'->qX c.K F' H' vs ds->Q vs H'
theorem aRZ{X:Cx}{c:Ct}{E:XK}:PA X [] (tAr c E aB):=PA.imp bI λZ H Q Y=>by obtain⟨Y,F,ab⟩:=Y;exact Rk.ok ab.2 [] F H (Ext.refl ab.1.fh) trivial
theorem aDJ{X:Cx}{c:Ct}{E:XK}{e:Ez}{f:Sg->R D4}{g:Sg->R (L9 D4)}(h:PR X c E e f)(h2:PA X es (tAr c E g))(j:autoParam (starEach (e::es) X.env=(false,eval e X.env)::starEach es X.env) z3):PA X (e::es) (tAr c E (aA f g)):=PA.imp (aT h h2 j) λZ H Q a=>by
 obtain⟨Y,F,ab,k⟩:=a
 refine⟨Y,F,ab,(Rk.bind k).imp λx _ q v i H1 s1 r1=>⟨Y,i,ab.ext s1,((Rk.bind q).ext s1).imp λxs _ q vs d H2 b r2=>?_⟩⟩
 exact Rk.ok q _ d H2 (s1.trans b) ⟨aQ.ext b r1,r2⟩
theorem aV2{H:Hp}(s:aD F H):∀ {vs:L9 V} {ds:L9 D4},qX K F H vs ds->∃ FL,aD F FL/\aD FL H/\DatVs K FL vs ds
 | [],[],_=>⟨F,bF F,s,.nil⟩
 | v::vs,d::ds,h=>by
  obtain⟨FL,a⟩:=aV2 s h.2
  rcases h.1 with q|⟨p,us,xs,rfl,rfl,h1,h2⟩
  .exact ⟨FL,a.1,a.2.1,.cons (q.same a.1) a.2.2⟩
  .refine ⟨λx=>if x=p then some (.lst us)else FL x,λx o z=>?_,λx o z=>?_,?_⟩
   .by_cases b:x=p
    .subst b
     have:=s x o z
     ext
    .exact (AL b).trans (a.1 x o z)
   .by_cases b:x=p
    .grind
    .exact a.2.1 x o ((AL b).symm.trans z)
   .have c:aD FL (λx=>if x=p then some (.lst us)else FL x):=λx o z=>by
     by_cases b:x=p
     .subst b
      have:=a.2.1 x o z
      ext
     ext
    exact .cons (.lst (SqL.of (AJ rfl)) (h2.same λx o z=>c x o (a.1 x o z))) (a.2.2.same c)
def aB5(m i:Nat)(f:Sg->R (L9 D4)):Sg->R D4:=λY=>match Y[i]? with
 | some (some (.g k n G))=>(f Y).bind λds=>if k<=m/\ds.length=n then(match G ds with | .ok d=>if uP d=true then .ok d else .bad|_=>.bad)else .bad
 | _=>.bad
theorem aR0{X:Cx}{c:Ct}{E:XK}{e:Ez}{m:Nat}{T:Hp}{f:Sg->R (L9 D4)}(hG:c.g=gOf X.prog X.w X.K X.mg X.base T)(L:X.K=c.K)(P:X.mg=c.mg)(hr:Room m X.A)(h:PE X e (aDH X i E (tAr c E f))):PD X c E e (aB5 m i f):=PE.imp h λZ H Q ⟨Y,F,ab,k⟩=>by
 unfold aB5 at k
 split at k
 .rename_i D n G hi
  obtain⟨v,J⟩:=ab.slot i _ hi
  obtain⟨I,S,rfl,s1,B⟩:=((J.2))
  rw[hG]at B
  obtain⟨fd,ps,l⟩:=((B))
  have p:∀ j H',aD F j->aD j H'->FnK X.K H' I:=λj H' N M=>l.2.2.2.imp id λC=>by obtain⟨C,od,fd,sl,e⟩:=C;exact⟨C,od,fd,sl,M _ _ (N _ _ (s1 _ _ e))⟩
  refine⟨I,J.1,p F H (bF F) ab.fh,Y,F,ab,(Rk.bind k).imp λds _ q vs j H' e1 r=>?_⟩
  refine⟨p j H' e1.ff e1.fh,?_⟩
  by_cases s:D<=m/\ds.length=n
  .rw[AJ s]at q
   obtain⟨O,a,b,U⟩:=aV2 e1.fh r
   refine⟨D,fd,ps,_,hr.mono s.1,l.2.2.1,l.2.1,O,ds,λx o z=>a x o (e1.ff x o (s1 x o z)),λx o z=>a x o (e1.ff x o (ab.f0 x o (ab.t0 x o (by rw[hG];exact z)))),b,by rw[L];ext,s.2,?_⟩
   cases u:G ds with
   | bad=>rw[u]at q;exact q
   | ok d=>
    rw[u]at q
    intro v V H2 e2 r2
    have t:Rk c E F H (if uP d=true then R.ok d else .bad) _:=q
    by_cases y:uP d=true
    .rw[AJ y]at t
     refine Rk.ok t v j H2 (e1.trans ⟨e2.hh,bF j,λx o z=>e2.hh x o (e1.fh x o z),λx z n=>absurd z n⟩) (by rw[L]at r2;exact aNY y r2)
    .rw[AL y]at t;exact t.elim
   | ex x=>rw[u]at q;exact q.elim
  .rw[AL s]at q;exact q.elim
 .exact k.elim
theorem aR1{xs:L9 V}(b:Celd cs F)(h:SqL K F a xs):SqL K (hid cs F) a xs:=by
 rcases h with (h|⟨o,h⟩)|h
 · exact .inl (.inl (by rw [bC (b.out h λ_ v z => nomatch z)]; ext))
 · exact .inl (.inr ⟨o, by rw [bC (b.out h λ_ v z => by cases z)]; ext⟩)
 · exact .inr h
theorem aR2{xs:L9 V}(b:Celd cs F)(h:SqT K F a xs):SqT K (hid cs F) a xs:=by
 rcases h with (h|⟨o,h⟩)|h
 · exact .inl (.inl (by rw [bC (b.out h λ_ v z => nomatch z)]; ext))
 · exact .inl (.inr ⟨o, by rw [bC (b.out h λ_ v z => by cases z)]; ext⟩)
 · exact .inr h
mutual
theorem aFW(hc:Celd cs F):∀ {v:V} {d:D4},DatV K F v d->DatV K (hid cs F) v d
 | _,_,.non=>.non
 | _,_,.bl b=>.bl b
 | _,_,.int i=>.int i
 | _,_,.str x=>.str x
 | _,_,.lst h r=>.lst (aR1 hc h) (nQ hc r)
 | _,_,.tup h r=>.tup (aR2 hc h) (nQ hc r)
 | _,_,.pl h=>.pl (by rw[bC (hc.out h λ_ v z=>nomatch z)];exact h)
theorem nQ(hc:Celd cs F):∀ {vs:L9 V} {ds:L9 D4},DatVs K F vs ds->DatVs K (hid cs F) vs ds
 | _,_,.nil=>.nil
 | _,_,.cons h r=>.cons (aFW hc h) (nQ hc r)
end
theorem aR3{e C b:Az}{od:O9 Az}{o:Obj}{v:V}(h:ExO e C od=fA b o v):False:=by cases h
theorem aNZ{K:Frag}{mg:Str->O9 V9}{F:Hp}{e:Er}{a C:Az}{cs:L9 Az}(b:Celd cs F)(h:lL K mg F e a C):lL K mg (hid cs F) e a C/\a∉cs:=by
 obtain⟨m,od,h1,h2⟩:=h
 have c:=b.out h1 λ_ v z=>aR3 z
 refine⟨⟨m,od,by rw[bC c];ext,h2.imp id ?_⟩,c⟩
 rintro ⟨d,fvs,e1,e2,e3,e4⟩
 exact⟨d,fvs,e1,by rw[bC (b.out e2 λ_ v z=>nomatch z)];ext,e3,nQ b e4⟩
theorem aDK{c:Cv}{H a:Hp}(s:aD (pub c H) a):Celd (cQ c) a:=λb d=>by
 obtain⟨p,e⟩:=gM.mp d
 exact⟨p.1,p.2,s _ _ (pF e)⟩
theorem aDL{a:Cv}{F H:Hp}(s:aD F H):aD (pub a F) (pub a H):=λb o e=>by
 by_cases c:b∈cQ a
 .obtain ⟨p,q⟩:=gM.mp c
  rw[pF q]at e ⊢;ext
 .rw[dD c]at e ⊢;exact s b o e
theorem aBD{c:Cv}{F H f H2:Hp}(h:∀ b∈cQ c,H b=none)(s:aD F H)(e:Ext (pub c F) (pub c H) f H2):Ext F H (hid (cQ c) f) (hid (cQ c) H2):=by
 have i:=λb a=>aU s (h b a)
 have outH:∀ b o,H b=some o->b∉cQ c:=λb o q z=>by simp_all
 have d:∀ b o,F b=some o->b∉cQ c:=λb o q z=>by simp_all
 refine⟨λb o q=>?_,λb o q=>?_,λb o q=>?_,λb q n=>?_⟩
 .have a:=outH b o q
  rw[bC a];exact e.hh b o (by rw[dD a];ext)
 .have a:=d b o q
  rw[bC a];exact e.ff b o (by rw[dD a];ext)
 .have g:=nI q
  rw[bC g.2];exact e.fh b o g.1
 .by_cases a:b∈cQ c
  .exact absurd (pE a) n
  .rw[bC a]at n
   have:=e.nw b (by rw[dD a];ext) n
   unfold oG at this ⊢
   rw[dD a]at this;ext
noncomputable def dOf:R A->R D4
 | .ok (.d x)=>.ok x
 | .ok _=>.bad
 | .ex e=>.ex e
 | .bad=>.bad
def CloOk(P:P9)(w:W9)(K:Frag)(mg:Str->O9 V9)(base:Hz)(T:Hp)(S:ClSt)(fr:L9 Str)(k n:Nat)(Gm:L9 A->L9 D4->R D4):Prop:=
 ∀ (F0 F1:Hp) (caps:L9 A) (cvs:L9 V) (f:Az) (cl:L9 (Str×Az)) (doc pm ct:V9) (cc:Az),aD T F0->AFs (gOf P w K mg base T) K mg F0 caps cvs->aD F0 F1->
  F1 f=some (FnO f (S.obj cl doc pm cc ct))->F1 cc=some (.cod S.qual)->CapAt F1 fr cl cvs->(∀ c∈a6 fr cl,F0 c=none)->Beh P w K mg base T f F1 k n (Gm caps)
theorem aFX{cs:L9 Az}{F H d H2:Hp}(s:aD F H)(g:Celd cs F)(f:∀ c∈cs,H2 c=none)(e:Ext (hid cs F) (hid cs H) d H2):Ext F H (shw cs F d) (shw cs H H2)/\aD d (shw cs F d):=by
 have i:=λc h=>aU e.fh (f c h)
 refine⟨⟨λb o q=>?_,λb o q=>?_,λb o q=>?_,λb q n=>?_⟩,λb o q=>?_⟩
 .by_cases a:b∈cs
  .rw[sH a];ext
  .rw[eB a];exact e.hh b o (by rw[bC a];ext)
 .by_cases a:b∈cs
  .rw[sH a];ext
  .rw[eB a];exact e.ff b o (by rw[bC a];ext)
 .by_cases a:b∈cs
  .rw[sH a]at q ⊢;exact s b o q
  .rw[eB a]at q ⊢;exact e.fh b o q
 .by_cases a:b∈cs
  .obtain ⟨o,v,z⟩:=g b a
   ext
  .rw[eB a]at n
   have:=e.nw b (by rw[bC a];ext) n
   unfold oG at this ⊢
   rw[bC a]at this;ext
 .rw[eB λz=>by simp_all];ext
theorem AFs.data{g:Gb}{K:Frag}{mg:Str->O9 V9}{F:Hp}:∀ {vs:L9 V} {ds:L9 D4},DatVs K F vs ds->AFs g K mg F (ds.map .d) vs
 | _,_,.nil=>trivial
 | _,_,.cons h r=>⟨h,AFs.data r⟩
theorem AFs.append{g:Gb}{K:Frag}{mg:Str->O9 V9}{F:Hp}:∀ {as bs:L9 A} {vs us:L9 V},AFs g K mg F as vs->AFs g K mg F bs us->AFs g K mg F (as++bs) (vs++us)
 | [],_,[],_,_,h=>h
 | a::as,bs,v::vs,us,h,h2=>⟨h.1,AFs.append h.2 h2⟩
section
variable{P:P9}{w:W9}{K:Frag}{mg:Str->O9 V9}{base:Hz}{T:Hp}{S:ClSt}{N ps fr:L9 Str}{k:Nat}
theorem aBE{f h F H:Hp}{a:L9 A}{cvs vs:L9 V}{ds:L9 D4}(i:aD T f)(g:AFs (gOf P w K mg base T) K mg f a cvs)(k:aD f h)(e:aD h F)(j:aD F H)(C:CapAt h fr cl cvs)(l:∀ c∈a6 fr cl,f c=none)(n:DatVs K F vs ds) :
  Celd (a6 fr cl) F/\aD T (hid (a6 fr cl) F)/\aD (hid (a6 fr cl) F) (hid (a6 fr cl) H)/\AFs (gOf P w K mg base T) K mg (hid (a6 fr cl) F) (ds.map .d++a) (vs++cvs):=by
 have m:aD f (hid _ F):=λb o q=>by
  rw[bC λz=>by rw[l b z]at q;ext];exact e b o (k b o q)
 refine⟨((C.same e).celd),λb o q=>m b o (i b o q),λb o q=>?_,(AFs.data (nQ ((C.same e).celd) n)).append (g.same m)⟩
 rw[bC (nI q).2];exact j b o (nI q).1
def eX(n:Nat)(fb:Sg->R Fw):L9 A->L9 D4->R D4:=λcaps ds=>dOf (fnF n fb (ds.map .d++caps))
theorem aFY{F H:Hp}{Q:VK}{E:XK}{r:R A}(b:aD F H)(i:Celd cs F)(h:match dOf r with
 | .bad=>False
 | .ok d=>∀ v F' H',Ext F H F' H'->DatV K F' v d->Q v H'
 | .ex e=>∀ a C F' H',Ext F H F' H'->lL K mg F' e a C->E (.ref C) (some a) H'):match (generalizing:=false) r with
 | .bad=>False
 | .ok a=>∀ v F' H',Ext (hid cs F) (hid cs H) F' H'->AF (gOf P w K mg base T) K mg F' a v->(∀ a∈cs,H' a=none)->Q v (shw cs H H')
 | .ex e=>∀ a C F' H',Ext (hid cs F) (hid cs H) F' H'->lL K mg F' e a C->(∀ a∈cs,H' a=none)->E (.ref C) (some a) (shw cs H H'):=by
 cases r with
 | bad=>exact h
 | ok a=>
  cases a with
  | d x=>
   intro v F' H' e q c
   have e2:=aFX b i c e
   exact h v _ _ e2.1 (DatV.same e2.2 q)
  | l xs=>exact False.elim h
  | m xs=>exact False.elim h
  | x e=>exact False.elim h
  | g k n f=>exact False.elim h
  | k S=>exact False.elim h
  | f S=>exact False.elim h
  | o S=>exact False.elim h
  | w S=>exact False.elim h
  | h _ _ _ _=>exact False.elim h
 | ex x=>
  intro a C F' H' e q c
  have e2:=aFX b i c e
  exact h a C _ _ e2.1 (q.same e2.2)
theorem aDM{body:L9 Stmt}{fb:Sg->R Fw}(hb:S.body=.stmts body)(Sc:CloScope N ps fr S.scope)(q:∀ (cl:L9 (Str×Az)) (doc pm:V9) (cc:Az) (ct:V9) (us:L9 V9),us.length=ps.length->bindArgs (S.fd cl doc pm cc ct) ⟨us,[]⟩=pure (ps.zip us))
  (c:∀ (f cc:Az) (cl:L9 (Str×Az)) (A:U9) (outer:L9 Env) (s:S9) (H F:Hp) (E E':XK),Room k (A.deeper (bX S.qual S.scope s.heap.objs.size f (.ref cc) cl))->
   j7 ((mU (CXe P w) P w K mg base N fr S.qual S.scope f (.ref cc) cl A outer s H E').fly E) ⟨K,mg,w,F,hid (a6 fr cl) H,gOf P w K mg base T,(bX S.qual S.scope s.heap.objs.size f (.ref cc) cl).cells,λ_=>none⟩ E body fb) :
  CloOk P w K mg base T S fr (k+1) ps.length (eX N.length fb):=by
 intro D B r cvs f cl doc pm ct cc p d l t g C m
 refine⟨S.fd cl doc pm cc ct,ps,rfl,.all (q cl doc pm cc ct),⟨λvs H Q E h=>?_,λA outer s H args us vs Q E hr x j u n=>?_⟩,.inr ⟨_,_,_,_,t⟩⟩
 .obtain ⟨F,ds,h1⟩:=h
  rw[h1.2.2.2.1.length,h1.2.2.2.2.1]
 .obtain ⟨F,ds,h1⟩:=n
  have e:=aBE p d l h1.1 h1.2.2.1 C m h1.2.2.2.1
  refine aKB hb (h1.2.2.1 _ _ (h1.1 _ _ t)) (h1.2.2.1 _ _ (h1.1 _ _ g)) Sc (C.same λb o z=>h1.2.2.1 b o (h1.1 b o z)) hr x j u (by rw[h1.2.2.2.1.length,h1.2.2.2.2.1]) λi=>⟨_,c f cc cl A outer s H (hid (a6 fr cl) F) _ E i,?_⟩
  have y:=aFY (P:=P) (w:=w) (base:=base) (T:=T) h1.2.2.1 e.1 h1.2.2.2.2.2
  refine pN (Q:=λv H'=>(∀ a∈a6 fr cl,H' a=none)->Q v (shw _ H H')) e.2.1 e.2.2.1 e.2.2.2 ?_
  ext
theorem aV3{body:Ez}{fe:Sg->R D4}(hb:S.body=.expr body)(Sc:CloScope N ps fr S.scope)(G:∀ (cl:L9 (Str×Az)) (doc pm:V9) (cc:Az) (ct:V9) (us:L9 V9),us.length=ps.length->bindArgs (S.fd cl doc pm cc ct) ⟨us,[]⟩=pure (ps.zip us))
  (i:∀ (f cc:Az) (cl:L9 (Str×Az)) (A:U9) (outer:L9 Env) (s:S9) (H F:Hp) (E E':XK),Room k (A.deeper (bX S.qual S.scope s.heap.objs.size f (.ref cc) cl))->
   PD ((mU (CXe P w) P w K mg base N fr S.qual S.scope f (.ref cc) cl A outer s H E').fly E) ⟨K,mg,w,F,hid (a6 fr cl) H,gOf P w K mg base T,(bX S.qual S.scope s.heap.objs.size f (.ref cc) cl).cells,λ_=>none⟩ E body fe) :
  CloOk P w K mg base T S fr (k+1) ps.length (eX N.length (aM (vD fe))):=by
 intro Z F1 c cvs f cl doc pm ct cc q l y I t C p
 refine⟨S.fd cl doc pm cc ct,ps,rfl,.all (G cl doc pm cc ct),⟨λvs H Q E h=>?_,λA outer s H args us vs Q E hr W n O B=>?_⟩,.inr ⟨_,_,_,_,I⟩⟩
 .obtain ⟨F,ds,_,_,_,h1,h2,_⟩:=h
  rw[h1.length,h2]
 .obtain ⟨F,ds,h1,h2,j,J,V,U⟩:=B
  obtain⟨Y,X,L,M⟩:=aBE q l y h1 j C p J
  refine aNA hb (j _ _ (h1 _ _ I)) (j _ _ (h1 _ _ t)) Sc (C.same λb o z=>j b o (h1 b o z)) hr W n O (by rw[J.length,V]) λm=>⟨_,i f cc cl A outer s H (hid (a6 fr cl) F) _ E m,?_⟩
  have g:=aFY (P:=P) (w:=w) (base:=base) (T:=T) (r:=fnF N.length (aM (vD fe)) (ds.map .d++c)) j Y U
  refine⟨_,_,wK X L M,?_⟩
  unfold fnF aM vD at g
  cases e:fe ((ds.map _f.A.d++c).map some++replicate (N.length - (ds.map _f.A.d++c).length) none)with
  | bad=>rw[e]at g;exact g
  | ok d=>rw[e]at g;exact λv D H' e1 r1 u=>g v D H' e1 r1 u
  | ex x=>rw[e]at g;exact λa C D H' e1 r1 u=>g a C D H' e1 r1 u
end
def uQ(c:Ct)(F:Hp)(S:ClSt)(v:V):Prop:=∃ f cl doc pm cc ct,v=.ref f/\F f=some (FnO f (S.obj cl doc pm cc ct))/\F cc=some (.cod S.qual)/\ClOf c.cells S.scope cl
theorem uQ.same{c:Ct}{F a:Hp}{S:ClSt}{v:V}(s:aD F a):uQ c F S v->uQ c a S v:=λf=>by obtain⟨f,cl,doc,pm,b,ct,h1⟩:=f;exact⟨f,cl,doc,pm,b,ct,h1.1,s _ _ h1.2.1,s _ _ h1.2.2.1,h1.2.2.2⟩
theorem aFZ{c:Ct}{S:ClSt}{P0:Az}{qs:L9 (Pos×Str)}{cells:L9 (Str×Az)}{Y:Sg}{Z:_a.St}{F H:Hp}{Q:VK}(i:cells=c.cells)(l:c.g.T P0=some (.tbl qs))(ab:Ab c Y Z F H)(h:∀ v F' H',Ext F H F' H'->uQ c F' S v->Q v H'):tMk cells S P0 qs Z H Q:=by
 subst i
 refine⟨ab.fh _ _ (ab.f0 _ _ (ab.t0 _ _ l)),λf b cl doc pm ct H1 k j e=>?_⟩
 have e1:∃ d,Ext F H d H1/\d b=some (.cod S.qual):=by
  rcases k with ⟨q,rfl⟩|⟨q,rfl⟩
  .refine ⟨upd F b _,⟨bF _,λa o z=>?_,λa o z=>?_,λa z n=>?_⟩,aO⟩
   .by_cases w:a=b
    .subst w
     have:=ab.fh a o z
     rw[q]at this;cases this
     exact aO
    .rw[aG w];ext
   .by_cases w:a=b
    .subst w;rw[aO]at z;rw[q];ext
    .rw[aG w]at z;exact ab.fh a o z
   .by_cases w:a=b
    .subst w;exact .inr ⟨_,q⟩
    .rw[aG w]at n;simp_all
  .exact ⟨upd F b _,Ext.new ab.fh q,aO⟩
 obtain⟨d,e1⟩:=e1
 exact h _ _ _ (e1.1.trans (Ext.new e1.1.fh j)) ⟨f,cl,doc,pm,b,ct,rfl,aO,(Ext.new e1.1.fh j).ff _ _ e1.2,e⟩
noncomputable def uR(i:Nat)(q:Str):Sg->R Fw:=λY=>.ok (.nx (Y.set i (some (.k q))))
theorem z7{X:Cx}{c:Ct}{E:XK}{st:Stmt}{i:Nat}{q:Str}{S:ClSt}{P0:Az}{qs:L9 (Pos×Str)}{cells:L9 (Str×Az)}(b:cells=c.cells)(l:c.cls q=some S)(j:c.g.T P0=some (.tbl qs))(h:PS X st (lH (tMk cells S P0 qs) (jG i))):PSf X c E st (uR i q):=PS.imp h λD Z H a=>by
 obtain⟨Y,F,ab,k⟩:=a
 refine aFZ b j ab λv d H' e m=>?_
 exact Rk.ok k _ d H' e.ff ((ab.ext e).setF (let ⟨f,cl,doc,pm,cc,ct,h⟩:=m;⟨S,f,cl,doc,pm,cc,ct,l,h⟩) λz=>nomatch z)
noncomputable def yA:O9 (O9 A)->O9 A
 | some (some (.d x))=>some (.d x)
 | some (some (.x e))=>some (.x e)
 | some (some (.g k n G))=>some (.g k n G)
 | _=>none
noncomputable def eR:L9 Nat->Sg->O9 (L9 A)
 | [],_=>some []
 | j::js,Y=>match yA Y[j]?,eR js Y with
  | some a,some as=>some (a::as)
  | _,_=>none
theorem qY{o:O9 (O9 A)}{a:A}(h:yA o=some a):o=some (some a)/\∀ {c:Ct} {F H:Hp} {v:V},AO c F H a v->AF c.g c.K c.mg F a v:=by
 unfold yA at h
 split at h<;>cases h
 all_goals exact⟨rfl,λz=>z⟩
theorem aF0{c:Ct}{Y:Sg}{Z:_a.St}{F H:Hp}(ab:Ab c Y Z F H):∀ {js:L9 Nat} {caps:L9 A},eR js Y=some caps->∃ cvs,AFs c.g c.K c.mg F caps cvs/\cvs.length=js.length/\∀ (i:Nat) j,js[i]? = some j->∃ v,cvs[i]? = some v/\Z[j]? = some (some v)
 | [],_,h=>by cases h;exact⟨[],trivial,rfl,λi j z=>by simp_all⟩
 | j::js,caps,h=>by
  unfold eR at h
  split at h
  .rename_i a as h1 h2
   cases h
   obtain⟨cvs,r⟩:=aF0 ab h2
   obtain⟨v,b⟩:=ab.slot j a (qY h1).1
   refine⟨v::cvs,⟨(qY h1).2 b.2,r.1⟩,by simp[r.2.1],λi d e=>?_⟩
   cases i with
   | zero=>simp at e;subst e;exact⟨v,rfl,b.1⟩
   | succ i=>simp_all
  simp_all
def aDN(X:Cx)(T:Hp)(c:Ct)(js:L9 Nat)(Y:Sg)(F:Hp)(a:A)(v:V):Prop:=AF c.g c.K c.mg F a v \/
 ∃ S fr sl k n Gm caps,a=.g k n (Gm caps)/\uQ c F S v/\CloOk X.prog X.w X.K X.mg X.base T S fr k n Gm/\(∀ y,(y,NameKind.free)∈S.scope.names->y∈fr)/\(∀ y∈fr,(y,NameKind.free)∈S.scope.names)/\sl.map (λj=>X.N[j]?)=fr.map some/\(∀ j∈sl,j∈js)/\eR sl Y=some caps
theorem aDN.same{X:Cx}{T:Hp}{c:Ct}{js:L9 Nat}{Y:Sg}{F d:Hp}{a:A}{v:V}(s:aD F d)(h:aDN X T c js Y F a v):aDN X T c js Y d a v:=by
 rcases h with h|⟨S,fr,sl,k,n,Gm,b,h1,h2,e⟩
 · exact .inl (AF.same s h)
 · exact .inr ⟨S, fr, sl, k, n, Gm, b, h1, h2.same s, e⟩
def aID(X:Cx)(T:Hp)(c:Ct)(js:L9 Nat)(Y:Sg)(F:Hp):L9 A->L9 V->Prop
 | [],[]=>True
 | a::as,v::vs=>aDN X T c js Y F a v/\aID X T c js Y F as vs
 | _,_=>False
def tK1(X:Cx)(T:Hp)(c:Ct)(js:L9 Nat)(E:XK)(f:Sg->R A):TE:=λZ H Q=>∃ Y F,Ab c Y Z F H/\Rk c E F H (f Y) λa=>∀ v F' H',Ext F H F' H'->aDN X T c js Y F' a v->Q v H'
def tKs(X:Cx)(T:Hp)(c:Ct)(js:L9 Nat)(E:XK)(f:Sg->R (L9 A)):TA:=λZ H Q=>∃ Y F,Ab c Y Z F H/\Rk c E F H (f Y) λas=>∀ vs F' H',Ext F H F' H'->aID X T c js Y F' as vs->Q vs H'
section
variable{X:Cx}{T:Hp}{c:Ct}{js:L9 Nat}{E:XK}{e:Ez}{es:L9 Ez}
theorem aIE{f:Sg->R A}(h:PV X c E e f):PE X e (tK1 X T c js E f):=PE.imp h λZ H Q Y=>by obtain⟨Y,F,ab⟩:=Y;exact⟨Y,F,ab.1,ab.2.imp λa _ q v b H' e1 r=>q v b H' e1 (.inl r)⟩
def uS(q:Str)(sl:L9 Nat)(k n:Nat)(Gm:L9 A->L9 D4->R D4)(i:Nat):Sg->R A:=λY=>match Y[i]?,eR sl Y with
 | some (some (.k q')),some caps=>if q'=q then .ok (.g k n (Gm caps))else .bad
 | _,_=>.bad
theorem aF1{q:Str}{S:ClSt}{sl:L9 Nat}{Gm:L9 A->L9 D4->R D4}(s:c.cls q=some S)(M:CloOk X.prog X.w X.K X.mg X.base T S fr k n Gm)(h1:∀ y,(y,NameKind.free)∈S.scope.names->y∈fr)(h2:∀ y∈fr,(y,NameKind.free)∈S.scope.names)
  (g:sl.map (λj=>X.N[j]?)=fr.map some) (r:∀ j∈sl,j∈js) (h:PE X e (g7 i)):PE X e (tK1 X T c js E (uS q sl k n Gm i)):=PE.imp h λZ H Q ⟨Y,F,ab,k⟩=>by
 unfold uS at k
 split at k
 .rename_i o a hi t
  by_cases b:o=q
  .rw[AJ b]at k
   subst b
   obtain⟨v,m,u,f,cl,doc,pm,l,ct,d,p⟩:=ab.slot i _ hi
   rw[s]at d;cases d
   exact⟨v,m,Rk.ok k v F H (Ext.refl ab.fh) (.inr ⟨_,fr,sl,_,_,Gm,a,rfl,(⟨f,cl,doc,pm,l,ct,p⟩),M,h1,h2,g,r,t⟩)⟩
  .rw[AL b]at k;exact k.elim
 .exact k.elim
def aDO(sl:L9 Nat)(k n:Nat)(Gm:L9 A->L9 D4->R D4):Sg->R A:=λY=>match eR sl Y with
 | some caps=>.ok (.g k n (Gm caps))
 | none=>.bad
theorem aV4{S:ClSt}{sl:L9 Nat}{Gm:L9 A->L9 D4->R D4}{P0:Az}{cells:L9 (Str×Az)}(b:cells=c.cells)(l:c.g.T P0=some (.tbl qs))(M:CloOk X.prog X.w X.K X.mg X.base T S fr k n Gm)(h1:∀ y,(y,NameKind.free)∈S.scope.names->y∈fr)(h2:∀ y∈fr,(y,NameKind.free)∈S.scope.names)
  (d:sl.map (λj=>X.N[j]?)=fr.map some) (i:∀ j∈sl,j∈js) (h:PE X e (tMk cells S P0 qs)):PE X e (tK1 X T c js E (aDO sl k n Gm)):=PE.imp h λZ H Q ⟨Y,F,ab,k⟩=>by
 unfold aDO at k
 split at k
 .rename_i a o
  exact aFZ b l ab λv f H' e1 m=>Rk.ok k v f H' e1 (.inr ⟨_,fr,sl,_,_,Gm,a,rfl,m,M,h1,h2,d,i,o⟩)
 .exact k.elim
theorem aF2:PA X [] (tKs X T c js E aB):=PA.imp bI λZ H Q Y=>by obtain⟨Y,F,ab⟩:=Y;exact Rk.ok ab.2 [] F H (Ext.refl ab.1.fh) trivial
end
section
variable{X:Cx}{T:Hp}{c:Ct}{js:L9 Nat}{E:XK}{e:Ez}{es:L9 Ez}
theorem lN{f:Sg->R A}{g:Sg->R (L9 A)}(h:PE X e (tK1 X T c js E f))(h2:PA X es (tKs X T c js E g))(j:autoParam (starEach (e::es) X.env=(false,eval e X.env)::starEach es X.env) z3):PA X (e::es) (tKs X T c js E (aA f g)):=PA.imp (aT h h2 j) λZ H Q a=>by
 obtain⟨Y,F,ab,k⟩:=a
 refine⟨Y,F,ab,(Rk.bind k).imp λx _ q v i H1 s1 r1=>⟨Y,i,ab.ext s1,((Rk.bind q).ext s1).imp λxs _ q vs d H2 b r2=>?_⟩⟩
 exact Rk.ok q _ d H2 (s1.trans b) ⟨r1.same b.ff,r2⟩
theorem wP:∀ {js:L9 Nat} {Y:Sg} {caps:L9 A},eR js Y=some caps->∀ j∈js,∃ a,Y[j]? = some (some a)
 | [],_,_,_,j,hj=>by simp_all
 | i::js,Y,caps,h,j,hj=>by
  unfold eR at h
  split at h
  .rename_i a b h1 h2
   rcases AV.mp hj with z|z
   · subst z; exact⟨a, (qY h1).1⟩
   · exact wP h2 j z
  simp_all
theorem aR4{N:L9 α}{sl:L9 Nat}{fr:L9 α}(h:sl.map (λj=>N[j]?)=fr.map some):sl.length=fr.length/\∀ (i:Nat) x,fr[i]? = some x->∃ j,sl[i]? = some j/\N[j]? = some x:=by
 have a:=by have:=DD length h;simpa using this
 refine⟨a,λi x e=>?_⟩
 have hi:=(AG.mp e).1
 have h2:(sl.map (λj=>N[j]?))[i]? = (fr.map some)[i]?:=by rw[h]
 rw[AE,AE,e,AI (by ext)]at h2
 exact⟨sl[i],AI _,BV h2⟩
theorem aDP{S:ClSt}{sl:L9 Nat}{Gm:L9 A->L9 D4->R D4}{d:L9 A}{Y:Sg}{Z:_a.St}{F H:Hp}{B:Cv}{v:V}(hG:c.g=gOf X.prog X.w X.K X.mg X.base T)(hK:X.K=c.K)(hM:X.mg=c.mg)(q:X.env.cells=c.cells)(ab:Ab c Y Z F H)(R:PubRel X Z H js B)
  (hA:uQ c F S v) (M:CloOk X.prog X.w X.K X.mg X.base T S fr k n Gm) (h1:∀ y,(y,NameKind.free)∈S.scope.names->y∈fr) (h2:∀ y∈fr,(y,NameKind.free)∈S.scope.names)
  (O:sl.map (λj=>X.N[j]?)=fr.map some) (W:∀ j∈sl,j∈js) (hc:eR sl Y=some d):AF c.g c.K c.mg (pub B F) (.g k n (Gm d)) v:=by
 obtain⟨f,cl,doc,pm,cc,ct,rfl,q1,q2,s⟩:=hA
 obtain⟨cvs,r,l,gt⟩:=aF0 ab hc
 have I:=aR4 O
 have h:=λb hb=>aU ab.fh (R.free b hb)
 have u:∀ i x v,fr[i]? = some x->cvs[i]? = some v->∃ a o,cl.lookup x=some a/\B.lookup a=some _:=λi x v e1 e2=>by
  obtain⟨j,m,D⟩:=I.2 i x e1
  obtain⟨v',G,U⟩:=gt i j m
  rw[e2]at G;cases G
  obtain⟨x',a,o,v2,J,e8,L,E⟩:=R.all j (W j (AD m))
  rw[D]at J;cases J
  rw[U]at L;cases L
  obtain⟨P,t⟩:=s.all _ (h2 x (AD e1)) rfl
  have p:=s.of _ _ t
  rw[<-q]at p
  rw[e8]at p;cases p
  exact⟨a,o,t,E⟩
 refine⟨f,pub B F,rfl,bF _,?_⟩
 rw[hG]
 refine M F _ d cvs f cl doc pm ct cc (λa o z=>ab.f0 a o (ab.t0 a o (by rw[hG];exact z))) (by simp_all) (eD h) ((eD h) _ _ q1) ((eD h) _ _ q2) ⟨l.trans I.1,λn c e=>h1 n (s.only n c e),λn n' c e e'=>R.inj n n' c (by rw[q];exact s.of _ _ e) (by rw[q];exact s.of _ _ e'),λi x v e1 e2=>?_⟩ λa Q=>?_
 .obtain ⟨a,o,m⟩:=u i x v e1 e2
  exact⟨a,o,m.1,pF m.2⟩
 .obtain ⟨x,hx,e⟩:=CZ.mp Q
  obtain⟨i,hi,C⟩:=EW.mp hx
  obtain⟨P,o,m,D⟩:=u i x (cvs[i]'(by simp_all)) (by rw[AI hi,C]) (AI _)
  rw[e]at m;cases m
  exact h a (gM.mpr ⟨_,D⟩)
theorem aBF{Y:Sg}{Z:_a.St}{F H:Hp}{cv:Cv}(hG:c.g=gOf X.prog X.w X.K X.mg X.base T)(hK:X.K=c.K)(hM:X.mg=c.mg)(hcl:X.env.cells=c.cells)(ab:Ab c Y Z F H)(R:PubRel X Z H js cv):∀ {as:L9 A} {vs:L9 V},aID X T c js Y F as vs->AFs c.g c.K c.mg (pub cv F) as vs
 | [],[],_=>trivial
 | a::as,v::vs,h=>by
  refine⟨?_,aBF hG hK hM hcl ab R h.2⟩
  rcases h.1 with q|⟨S,fr,sl,k,n,Gm,d,rfl,m,p,e,l,f,o,i⟩
  · exact AF.same (eD λb j => aU ab.fh (R.free b j)) q
  · exact aDP hG hK hM hcl ab R m p e l f o i
def pO(js:L9 Nat)(n:Nat)(G:L9 A->R A)(f:Sg->R (L9 A)):Sg->R A:=λY=>match eR js Y with
 | some _=>(f Y).bind λas=>if as.length=n then(dOf (G as)).bind λx=>.ok (.d x)else .bad
 | none=>.bad
theorem aK3{G:L9 A->R A}{g:Gb}{f:Sg->R (L9 A)}(hG:c.g=gOf X.prog X.w X.K X.mg X.base T)(P:X.K=c.K)(I:X.mg=c.mg)(u:X.env.cells=c.cells)(J:g=c.g)(U:K=c.K)(O:mg=c.mg)
  (p:∀ j∈js,∃ x,X.N[j]? = some x/\X.env.kindOf x=some .cell/\X.fn x=true) (h:PE X e (aKE X js (spF g K mg n G) E (tKs X T c js E f))):PV X c E e (pO js n G f):=PE.imp h λZ H Q ⟨Y,F,ab,k⟩=>by
 subst J U O
 unfold pO at k
 split at k
 .rename_i B hc
  refine⟨Y,F,ab,(Rk.bind k).imp λt _ q vs L H1 e1 r1=>⟨λj D=>?_,λW R=>?_⟩⟩
  .obtain ⟨x,r⟩:=p j D
   obtain⟨a,V⟩:=wP hc j D
   obtain⟨v,M⟩:=ab.slot j a V
   exact⟨x,v,r.1,r.2.1,r.2.2,M.1⟩
  .by_cases s:t.length=n
   .rw[AJ s]at q
    refine⟨pub W L,t,λa o z=>eD (λb y=>aU e1.fh (R.free b y)) a o (e1.ff a o (ab.f0 a o (ab.t0 a o z))),aDL e1.fh,aBF hG P I u (ab.ext e1) R r1,s,?_⟩
    cases i:G t with
    | bad=>rw[i]at q;exact q
    | ok a=>
     rw[i]at q
     cases a with
     | d x=>
      intro v F2 H2 e2 r2
      exact Rk.ok q v _ _ (e1.trans (aBD R.free e1.fh e2)) (aFW (aDK e2.ff) r2)
     | l xs=>exact False.elim q
     | m xs=>exact False.elim q
     | x xs=>exact False.elim q
     | g k n f=>exact False.elim q
     | k S=>exact False.elim q
     | f S=>exact False.elim q
     | o S=>exact False.elim q
     | w S=>exact False.elim q
     | h _ _ _ _=>exact False.elim q
    | ex x=>
     rw[i]at q
     intro a C F2 H2 e2 r2
     obtain⟨q1,q2⟩:=aNZ (aDK e2.ff) r2
     exact⟨q a C _ _ ((ab.all.trans e1).trans (aBD R.free e1.fh e2)) q1,λb y=>by simp_all⟩
   .rw[AL s]at q;exact q.elim
 .exact k.elim
end
section
variable{P:P9}{w:W9}{K:Frag}{mg:Str->O9 V9}{base:Hz}{T:Hp}
def gF(G:L9 A->R A):L9 D4->R D4:=λds=>dOf (G (ds.map .d))
theorem aK4{G:L9 A->R A}(C:cB P w K mg base T k x ps G):∃ f,mg x=some (.ref f)/\∀ F1,Beh P w K mg base T f F1 k ps.length (gF G):=by
 obtain⟨f,fd,F,b,m,j⟩:=C
 refine⟨f,m,λF1=>⟨fd,ps,rfl,b,F.imp λvs H Q E h=>?_,.inl j⟩⟩
 obtain⟨F,ds,_,h2,i,p,q,c⟩:=h
 refine⟨F,ds.map .d,h2,i,AFs.data p,by simp_all,?_⟩
 unfold gF at c
 cases e:G _ with
 | bad=>rw[e]at c;exact c
 | ok a=>
  rw[e]at c
  cases a with
  | d x=>exact c
  | l xs=>exact False.elim c
  | m xs=>exact False.elim c
  | x xs=>exact False.elim c
  | g k n f=>exact False.elim c
  | k S=>exact False.elim c
  | f S=>exact False.elim c
  | o S=>exact False.elim c
  | w S=>exact False.elim c
  | h _ _ _ _=>exact False.elim c
 | ex x=>rw[e]at c;exact c
def aIF(k n:Nat)(G:L9 A->R A):Sg->R A:=λ_=>.ok (.g k n (gF G))
theorem aR5{X:Cx}{c:Ct}{E:XK}{k:Nat}{x:Str}{ps:L9 Str}{G:L9 A->R A}{p:Pos}(hG:c.g=gOf X.prog X.w X.K X.mg X.base T)(C:cB X.prog X.w X.K X.mg X.base T k x ps G)(b:Gl X x)(a:autoParam ((x == ("__debug__":Str))=false) z5):PV X c E (.Name x p) (aIF k ps.length G):=by
 obtain⟨f,m⟩:=aK4 C
 exact PE.imp (jE (v:=.ref f) b m.1 rfl a) λZ H Q Y=>by obtain⟨Y,F,ab⟩:=Y;exact Rk.ok ab.2 _ F H (Ext.refl ab.1.fh) ⟨f,F,rfl,bF F,by rw[hG];exact m.2 F⟩
structure DefAtT(K:Frag)(mg:Str->Option V9)(base:Heap)(T:Hp)(qs:List (Pos×Str))(x:Str)(st:Stmt)(ps:List Str):Prop where
 ex:∃ f oc od kV doc pm an c0 ct osl P0,K.lookup f=some ⟨oc,od,.func (fnOf x x (dC st) (bB st) (aF st) .none kV doc pm an (.ref c0) ct),osl⟩/\codeIn K (.ref c0) x=true/\keepIn K (.ref f)=true /\
  cO K (fnOf x x (dC st) (bB st) (aF st) .none kV doc pm an (.ref c0) ct) ps []/\mg x=some (.ref f)/\Tb mg base c0 P0/\T P0=some (.tbl qs)
theorem aN0{h:Hz}(D:DefAt K mg x st ps)(KX:K.In h)(i:aCS mg h base T qs xs)(hx:x∈xs):DefAtT K mg base T qs x st ps:=by
 obtain⟨f,fd,F⟩:=D.ex
 obtain⟨j,od,kV,doc,pm,g,d,ct,c,rfl,a⟩:=F.1.ex
 obtain⟨c0,P0,b⟩:=i x hx
 have e:=b.2.2 f _ _ F.2.2 (KX _ _ a.1) rfl
 subst e
 exact⟨f,j,od,kV,doc,pm,g,c0,ct,c,P0,a.1,a.2,F.1.kp,F.2.1,F.2.2,b.2.1,b.1⟩
theorem aF3{x:Str}{st:Stmt}{N ps:L9 Str}{k:Nat}{qs:L9 (Pos×Str)}{cls:Str->O9 ClSt}{fb:Sg->R Fw}(D:DefAtT K mg base T qs x st ps)(S:FnScope N ps (aF st))
  (b:∀ (f c0 P0:Az) (A:U9) (outer:L9 Env) (s:S9) (H F:Hp) (E:XK),Tb mg base c0 P0->T P0=some (.tbl qs)->Room k (A.deeper (envOfC x (aF st) s.heap.objs.size f (.ref c0)))->
   j7 ((fO (CXe P w) P w K mg base N x (aF st) f (.ref c0) A outer s H E).fly E) ⟨K,mg,w,F,H,gOf P w K mg base T,(envOfC x (aF st) s.heap.objs.size f (.ref c0)).cells,cls⟩ E (bB st) fb):cB P w K mg base T (k+1) x ps (fnF N.length fb):=by
 obtain⟨f,i,od,kV,doc,pm,g,c0,ct,e,P0,a⟩:=D.ex
 refine⟨f,_,aHM a.1 a.2.1 S (λvs H Q E h=>?_) (λA outer s H vs Q E hr h=>?_),a.2.2.2.1,a.2.2.2.2.1,a.2.2.1⟩
 .obtain ⟨F,d,h2⟩:=h
  rw[h2.2.2.1.len,h2.2.2.2.1]
 .obtain ⟨F,d,c⟩:=h
  exact⟨_,(b f c0 P0 A outer s H F E a.2.2.2.2.2.1 a.2.2.2.2.2.2 hr).unfly λ_ _ z=>aA4 z,pN c.1 c.2.1 c.2.2.1 c.2.2.2.2⟩
end
noncomputable def aV5:Stmt->Ez
 | .Assign _ e _=>e
 | .Return (some e) _=>e
 | _=>.Constant .none 0 ⟨0,0,0,0⟩
noncomputable def aV6(e:Ez)(i:Nat):Ez:=match e with
 | .Call _ as _ _=>as.getD i (.Constant .none 0 ⟨0,0,0,0⟩)
 | e=>e
noncomputable def clS(q:Str):Stmt->ClSt
 | .FunctionDef x a b _ _ _ sc _ _ _=>⟨x,q,a,.stmts b,sc⟩
 | s=>⟨"",q,dC s,.stmts [],aF s⟩
noncomputable def clE(q:Str):Ez->ClSt
 | .Lambda a b sc _=>⟨"<lambda>",q,a,.expr b,sc⟩
 | _=>⟨"",q,dC (.Pass ⟨0,0,0,0⟩),.stmts [],aF (.Pass ⟨0,0,0,0⟩)⟩
noncomputable def aN1:Stmt->Pos
 | .FunctionDef _ _ _ _ _ _ _ _ _ p=>p
 | _=>⟨0,0,0,0⟩
noncomputable def aZS:Ez->Pos
 | .Lambda _ _ _ p=>p
 | _=>⟨0,0,0,0⟩
theorem aK5{X:Cx}:∀ j∈([]:L9 Nat),∃ x,X.N[j]? = some x/\X.env.kindOf x=some .cell/\X.fn x=true:=λj h=>by simp_all
theorem z8{X:Cx}{i:Nat}{js:L9 Nat}(h:∃ x,X.N[i]? = some x/\X.env.kindOf x=some .cell/\X.fn x=true)(t:∀ j∈js,∃ x,X.N[j]? = some x/\X.env.kindOf x=some .cell/\X.fn x=true):∀ j∈i::js,∃ x,X.N[j]? = some x/\X.env.kindOf x=some .cell/\X.fn x=true:=λj a=>by
 rcases AV.mp a with z|z<;>simp_all
end _f
variable{ps:L9 (Int×Int)}
namespace _g
section
variable{prog:P9}{w:W9}{A:U9}{E:V9->S9->Prop}{s:S9}
theorem vC{t:Az}{items}{x:V9}(b:s.heap.IsTupleIter it t i)
  (e:s.heap.IsTuple t items) (hx:items[i]? = some x) (f:∀ h',h'.IsTupleIter it t (i+1)->Heap.SameBut it s.heap h'->Q x {s with heap:=h'}) :
  wpAny (model prog w) A (Builtin.SmallTypes.nextOf (.ref it)) Q E s:=by
 obtain⟨o,a⟩:=id b
 obtain⟨g,d,_,h,c⟩:=e
 refine AA (DI b.typeIs C9
  (DR C9 b.typeIs FB ?_ (E6 _)))
 show wpAny _ _ (field _ 0 >>= _) _ _ s
 refine AA (BY a.1 a.2.2 (x:=.ref t) rfl ?_)
 refine AA (BY a.1 a.2.2 rfl ?_)
 refine AA (DB d c ?_)
 simp[hx]
 refine AA (EE a.1 a.2.2 (by simp) (AH ⟨x,rfl,AH (f _ ?_ (B9 ..))⟩))
 exact⟨_,CH _ a.1 (ER (DK a.2.2 _)),(Obj.cls_mapFields ..).trans a.2.1,by
  rw[DK a.2.2];rfl⟩
theorem wQ{t:Az}{items}(j:A.handled=none)
  (b:s.heap.IsTupleIter it t i) (g:s.heap.IsTuple t items) (hx:items[i]? = none)
  (h:∀ h' e,Heap.ExtBut it s.heap h'->(∃ o,h'.get? e=some o/\o.cls=.type "StopIteration")->E (.ref e) {s with heap:=h'}) :
  wpAny (model prog w) A (Builtin.SmallTypes.nextOf (.ref it)) Q E s:=by
 obtain⟨o,c⟩:=id b
 obtain⟨k,f,_,l,d⟩:=g
 refine AA (DI b.typeIs C9
  (DR C9 b.typeIs FB ?_ (E6 _)))
 show wpAny _ _ (field _ 0 >>= _) _ _ s
 refine AA (BY c.1 c.2.2 (x:=.ref t) rfl ?_)
 refine AA (BY c.1 c.2.2 rfl ?_)
 refine AA (DB f d ?_)
 simp[hx]
 refine AA (FX (AA (EE c.1 c.2.2 (by simp) ?_)))
 refine AA ?_
 refine AA (m:=firstArgMember _ _) (wpAny_of_eq (a:=Value.none) (by rfl) ?_)
 refine EH ?_ (by size_fits)
 refine AA (wpAny_handled ?_)
 first|rfl|rw[j]
 refine AA (AH (wpAny_throw ?_))
 exact h _ _ (((B9 ..).extBut.push _).push _) ⟨_,AY _ rfl,rfl⟩
end
theorem aE3{w:W9}{A:U9}(g:A.handled=none)(it l:Az)(c:l≠it)(items:Array V9) :
  Draws prog w A it [it,l] items.size (λi v=>items[i]? = some v) (λi h=>h.IsTupleIter it l i/\h.IsTuple l items) where
 live:=λ_ _ st=>let ⟨o,ho,_⟩:=st.1;⟨o,ho⟩
 frame:=λ_ _ _ st d=>⟨let ⟨o,ho,r⟩:=st.1;⟨o,d it (by simp) o ho,r⟩,let ⟨o,ho,r⟩:=st.2;⟨o,d l (by simp) o ho,r⟩⟩
 item:=λi s Q E hi st f=>by
  refine vC st.1 st.2 (x:=items[i]) (by simp[hi]) λh' a b=>?_
  exact f _ h' s.toks (by simp[hi]) ⟨a,st.2.extBut b.extBut c⟩ b
 done:=λs Q E st e=>wQ g st.1 st.2 (by simp) e
structure Apart(z TI TO i1 i2:Az)(f1 f2:List Az):Prop where
 TIz:TI≠z
 TOz:TO≠z
 i1z:i1≠z
 i2z:i2≠z
 TITO:TI≠TO
 TIi1:TI≠i1
 TIi2:TI≠i2
 TOi1:TO≠i1
 TOi2:TO≠i2
 i12:i1≠i2
 z1:z∉f1
 z2:z∉f2
 t1:TO∉f1
 t2:TO∉f2
 i1f2:i1∉f2
 i2f1:i2∉f1
section
variable{prog:P9}{w:W9}{A:U9}{E:V9->S9->Prop}{s:S9}
abbrev qZ(h:Hz)(z TI TO:Az)(f0 f1:V9):Prop:=h.get? z=some {cls:=.type "zip",dict:=none,data:=.fields #[f0,f1,.bool false,.ref TI,.ref TO],slots:=#[]}
theorem aDQ{M:Model}{A:U9}{E:V9->S9->Prop}{s:S9}{Q:O9 Obj->S9->Prop}(h:Q (s.heap.get? a) s):wpAny M A (loadIfAlive a) Q E s:=λΓ p _=>by
 assumption
theorem aK6{z TI TO:Az}{f0:V9}{b:Bool}{Q:Bool->S9->Prop}(hz:qZ s.heap z TI TO f0 (.bool b))(a:f0=.none\/∃ T:Az,f0=rawInt T/\s.heap.get? T=none)(h:Q true s):wpAny (model prog w) A (Builtin.SmallTypes.ownedTupleIsFree (.ref z)) Q E s:=by
 refine AA (BY hz rfl (x:=f0) rfl ?_)
 rcases a with rfl|⟨T,rfl,c⟩
 .exact AH h
 .refine AA (aDQ ?_)
  rw[show((T:Int)).toNat=T by rfl,c]
  exact AH h
def ZN(h:Hz)(z TI TO:Az):Prop:=(∃ f0 bb,qZ h z TI TO f0 (.bool bb)/\(f0=.none\/∃ T:Az,f0=rawInt T))/\∃ a b,IsPair h TO a b
theorem aR6{z TI TO T:Az}{oT:Obj}{a:Bool}{Q:Bool->S9->Prop}(hz:qZ s.heap z TI TO (rawInt T) (.bool a))(d:s.heap.get? T=some oT)
  (h:∀ h',qZ h' z TI TO (rawInt T) (.bool true)->Heap.SameBut z s.heap h'->Q false {s with heap:=h'}):wpAny (model prog w) A (Builtin.SmallTypes.ownedTupleIsFree (.ref z)) Q E s:=by
 refine AA (BY hz rfl rfl ?_)
 refine AA (aDQ ?_)
 rw[show((T:Int)).toNat=T by rfl,d]
 refine AA (BY hz rfl (x:=.bool a) rfl ?_)
 cases a with
 | true=>exact AH (h _ hz ⟨rfl,λ_ _=>rfl⟩)
 | false=>
  refine AA (CQ hz (by simp) λh1 c b=>?_)
  exact AH (h h1 c b)
theorem Draws.nx{f:L9 Az}{P:Nat->V9->Prop}{S:Nat->Hz->Prop}(D:Draws prog w A it f n P S)(h:i<=n)(st:S i s.heap)
  (a:i < n->∀ x h' tk,P i x->S (i+1) h'->Heap.SameBut it s.heap h'->Q x {s with heap:=h',toks:=tk})
  (hE:i=n->∀ h' e,Heap.ExtBut it s.heap h'->(∃ o,h'.get? e=some o/\o.cls=.type "StopIteration")->E (.ref e) {s with heap:=h'}):wpAny (model prog w) A (Builtin.SmallTypes.nextOf (.ref it)) Q E s:=by
 rcases Nat.lt_or_ge i n with l|l
 .exact D.item i s Q E l st (a l)
 .obtain rfl:=Nat.le_antisymm h l
  exact D.done s Q E st (hE rfl)
structure Nxt(P1 P2:Nat->V9->Prop)(S1 S2:Nat->Heap->Prop)(h:Heap)(z TI TO i1 i2:Az)(i:Nat)(x y:V9)(h':Heap):Prop where
 p1:P1 i x
 p2:P2 i y
 zn:ZN h' z TI TO
 s1:S1 (i+1) h'
 s2:S2 (i+1) h'
 pr:IsPair h' h.objs.size x y
 sz:h'.objs.size=h.objs.size+1
 kp:∀ c o,c≠z->c≠TO->c≠i1->c≠i2->h.get? c=some o->h'.get? c=some o
theorem aV7{z TI TO U V:Az}{f1 f2:L9 Az}{n1 n2:Nat}{P1 P2:Nat->V9->Prop}{S1 S2:Nat->Hz->Prop}(D:Apart z TI TO U V f1 f2)
  (D1:Draws prog w A U f1 n1 P1 S1) (W:Draws prog w A V f2 n2 P2 S2) (hz:ZN s.heap z TI TO) (ai:IsPair s.heap TI (.ref U) (.ref V)) (h1:S1 i s.heap) (h2:S2 i s.heap) (l1:i<=n1) (l2:i < n1->i<=n2)
  (hQ:i < n1->i < n2->∀ x y h' tk,Nxt P1 P2 S1 S2 s.heap z TI TO U V i x y h'->Q (.ref s.heap.objs.size) {s with heap:=h',toks:=tk})
  (hE:i=n1\/(i < n1/\i=n2)->∀ h' tk e,(∀ c o,c≠z->c≠TO->c≠U->c≠V->s.heap.get? c=some o->h'.get? c=some o)->(∃ o,h'.get? e=some o/\o.cls=.type "StopIteration")->E (.ref e) {s with heap:=h',toks:=tk}) :
  wpAny (model prog w) A (Builtin.«zip.__next__» ⟨[.ref z],[]⟩) (λaj s'=>∃ v,aj=.done (.ret v)/\Q v s') E s:=by
 have fr:∀ {f:L9 Az} {c:Az} {g g':Hz},Heap.SameBut c g g'->c∉f->∀ b∈f,∀ o,g.get? b=some o->g'.get? b=some o:=λhs hc b hb o e=>hs.extBut _ _ (λz=>hc (z▸hb)) e
 obtain⟨⟨f0,bb,hz,hf⟩,a,b,ah⟩:=hz
 show wpAny _ _ (field _ 2 >>= _) _ _ _
 refine AA (BY hz rfl (x:=.bool false) rfl ?_)
 refine AA (BY hz rfl rfl (AA (DB ai rfl ?_)))
 have hc:(f0=.none\/∃ T:Az,f0=rawInt T/\s.heap.get? T=none)\/∃ (T:Az) (o:Obj),f0=rawInt T/\s.heap.get? T=some o:=by
  rcases hf with h|⟨T,h⟩
  .exact .inl (.inl h)
  .cases hg:s.heap.get? T with
   | none=>exact .inl (.inr ⟨T,h,hg⟩)
   | some o=>exact .inr ⟨T,o,h,hg⟩
 rcases hc with ak|⟨T,oT,rfl,hT⟩
 .refine AA (aK6 hz ak ?_)
  simp only[BR]
  refine AA (FX ?_)
  refine AA (BY hz rfl (x:=.ref TO) rfl ?_)
  refine AA (CQ hz (by simp) λC t k=>?_)
  replace t:qZ C z TI TO .ellipsis (.bool bb):=t
  refine AA ?_
  simp only[List.zipIdx_cons,List.zipIdx_nil,DJ,List.forIn_nil]
  refine AA (AA (wpAny_onRaise ?_))
  show wpAny _ _ (Builtin.SmallTypes.nextOf (.ref U) >>= _) _ _ _
  refine AA (Draws.nx (s:={s with heap:=C}) D1 l1 (D1.frame _ _ _ h1 (fr k D.z1)) (λq1 x p S px I d=>AH ?_) λq p e d he=>?_)
  .have d:Heap.SameBut U C p:=d
   have M:IsPair p TO a b:=d.extBut _ _ D.TOi1 (k.extBut _ _ D.TOz ah)
   refine AA (DB M rfl ?_)
   refine AA (wpAny_updateSeq_pair M λm u j=>?_)
   replace u:IsPair m TO x b:=u
   have j:Heap.SameBut TO p m:=j
   refine AA (wpAny_letGo (AH ?_))
   refine AA (AA (wpAny_onRaise ?_))
   show wpAny _ _ (Builtin.SmallTypes.nextOf (.ref V) >>= _) _ _ _
   refine AA (Draws.nx (s:={s with heap:=m,toks:=S}) W (l2 q1) (W.frame _ _ _ (W.frame _ _ _ (W.frame _ _ _ h2 (fr k D.z2)) (fr d D.i1f2)) (fr j D.t2)) (λq2 y N aa py af l=>AH ?_) λq N e l he=>?_)
   .have l:Heap.SameBut V m N:=l
    refine AA (DB (l.extBut _ _ D.TOi2 u) rfl ?_)
    refine AA (wpAny_updateSeq_pair (l.extBut _ _ D.TOi2 u) λr B n=>?_)
    replace B:IsPair r TO x y:=B
    refine AA (wpAny_letGo (AH (AH ?_)))
    refine AA (DB B rfl ?_)
    refine AA (wpAny_newTuple ?_)
    have n:Heap.SameBut TO N r:=n
    have hsz:r.objs.size=s.heap.objs.size:=by rw[n.1,l.1,j.1,d.1,k.1]
    have G:qZ r z TI TO .ellipsis (.bool bb):=n.extBut _ _ D.TOz.symm (l.extBut _ _ D.i2z.symm (j.extBut _ _ D.TOz.symm (d.extBut _ _ D.i1z.symm t)))
    show wpAny _ _ (Builtin.SmallTypes.ownedTupleHandOut (.ref z) (.ref r.objs.size) >>= _) _ _ _
    refine AA ?_
    unfold Builtin.SmallTypes.ownedTupleHandOut
    refine AA (CQ (AB _ G) (by simp) λh₇ K L=>?_)
    replace K:qZ h₇ z TI TO (rawInt r.objs.size) (.bool bb):=K
    refine CQ K (by simp) λZ ag H=>?_
    have up:∀ c o,c≠z->r.get? c=some o->Z.get? c=some o:=λc o F e=>H.extBut _ _ F (L.extBut _ _ F (AB _ e))
    refine AH ⟨_,rfl,?_⟩
    show Q (.ref r.objs.size) _
    rw[hsz]
    refine hQ q1 q2 x y Z aa ⟨px,py,⟨⟨_,false,ag,.inr ⟨_,rfl⟩⟩,x,y,up _ _ D.TOz B⟩,?_,?_,?_,by rw[H.1,L.1,BP,hsz],λc o F X Y c4 e=>up c o F (n.extBut _ _ X (l.extBut _ _ c4 (j.extBut _ _ X (d.extBut _ _ Y (k.extBut _ _ F e)))))⟩
    .exact D1.frame _ _ _ (D1.frame _ _ _ (D1.frame _ _ _ (D1.frame _ _ _ I (fr j D.t1)) (fr l D.i2f1)) (fr n D.t1)) λb hb o e=>up b o (λq=>D.z1 (q▸hb)) e
    .exact W.frame _ _ _ (W.frame _ _ _ af (fr n D.t2)) λb hb o e=>up b o (λq=>D.z2 (q▸hb)) e
    .rw[<-hsz]
     exact H.extBut _ _ (CJ (AQ G)) (L.extBut _ _ (CJ (AQ G)) (AY _ rfl))
   .obtain ⟨oe,J,O⟩:=he
    have P:qZ N z TI TO .ellipsis (.bool bb):=l _ _ D.i2z.symm (j.extBut _ _ D.TOz.symm (d.extBut _ _ D.i1z.symm t))
    have ac:e≠z:=λx=>by subst x;rw[P]at J;cases J;simp at O
    exact CQ P (by simp) λr _ n=>hE (.inr ⟨q1,q⟩) r S e (λc o F X Y c4 x=>n.extBut _ _ F (l _ _ c4 (j.extBut _ _ X (d.extBut _ _ Y (k.extBut _ _ F x))))) ⟨oe,n.extBut _ _ ac J,O⟩
  .obtain ⟨oe,J,O⟩:=he
   have R:qZ p z TI TO .ellipsis (.bool bb):=d _ _ D.i1z.symm t
   have ac:e≠z:=λx=>by subst x;rw[R]at J;cases J;simp at O
   exact CQ R (by simp) λm _ j=>hE (.inl q) m s.toks e (λc o F _ Y _ x=>j.extBut _ _ F (d _ _ Y (k.extBut _ _ F x))) ⟨oe,j.extBut _ _ ac J,O⟩
 .refine AA (aR6 hz hT λC t k=>?_)
  simp only[BZ,C8]
  show wpAny _ _ ((forIn #[Value.ref U,Value.ref V] _ _) >>= _) _ _ _
  refine AA ?_
  rw[<-Array.forIn_toList]
  simp only[DJ,List.forIn_nil]
  refine AA (AA (CL ?_))
  show wpAny _ _ (Builtin.SmallTypes.nextOf (.ref U) >>= _) _ _ _
  refine AA (Draws.nx (s:={s with heap:=C}) D1 l1 (D1.frame _ _ _ h1 (fr k D.z1)) (λq1 x p S px I d=>AH (AH ?_)) λq p e d he=>hE (.inl q) p s.toks e (λc o F _ X _ x=>d _ _ X (k.extBut _ _ F x)) he)
  have d:Heap.SameBut U C p:=d
  refine AA (AA (CL ?_))
  show wpAny _ _ (Builtin.SmallTypes.nextOf (.ref V) >>= _) _ _ _
  refine AA (Draws.nx (s:={s with heap:=p,toks:=S}) W (l2 q1) (W.frame _ _ _ (W.frame _ _ _ h2 (fr k D.z2)) (fr d D.i1f2)) (λq2 y m aa py ae j=>AH (AH (AH ?_))) λq m e j he=>hE (.inr ⟨q1,q⟩) m S e (λc o F _ X Y x=>j _ _ Y (d.extBut _ _ X (k.extBut _ _ F x))) he)
  have j:Heap.SameBut V p m:=j
  have hsz:m.objs.size=s.heap.objs.size:=by rw[j.1,d.1,k.1]
  refine AA (wpAny_newTuple (hsz:=by show 2<=sizeLine;decide) (AH ⟨_,rfl,?_⟩))
  show Q (.ref m.objs.size) _
  rw[hsz]
  have up:∀ c o,m.get? c=some o->(m.push {cls:=.type "tuple",data:=.seq #[x,y]}).get? c=some o:=λc o e=>AB _ e
  refine hQ q1 q2 x y _ aa ⟨px,py,⟨⟨_,true,up _ _ (j.extBut _ _ D.i2z.symm (d.extBut _ _ D.i1z.symm t)),.inr ⟨_,rfl⟩⟩,a,b,up _ _ (j.extBut _ _ D.TOi2 (d.extBut _ _ D.TOi1 (k.extBut _ _ D.TOz ah)))⟩,D1.frame _ _ _ (D1.frame _ _ _ I (fr j D.i2f1)) λb hb o e=>up b o e,W.frame _ _ _ ae λb hb o e=>up b o e,?_,by rw[BP,hsz],(λc o F _ X Y e=>up c o (j.extBut _ _ Y (d.extBut _ _ X (k.extBut _ _ F e))))⟩
  rw[<-hsz]
  exact AY _ rfl
theorem aF4{z TI TO:Az}{r l:L9 Az}{n1 n2:Nat}{p j:Nat->V9->Prop}{f d:Nat->Hz->Prop}{Q:O9 V9->S9->Prop}(D:Apart z TI TO a b r l)
  (D1:Draws prog w A.in1 a r n1 p f) (B:Draws prog w A.in1 b l n2 j d) (hz:ZN s.heap z TI TO) (g:IsPair s.heap TI (.ref a) (.ref b)) (h1:f i s.heap) (h2:d i s.heap) (u:i<=n1) (C:i < n1->i<=n2)
  (H:i < n1->i < n2->∀ x y h' tk,Nxt p j f d s.heap z TI TO a b i x y h'->Q (some (.ref s.heap.objs.size)) {s with heap:=h',toks:=tk})
  (hE:i=n1\/(i < n1/\i=n2)->∀ h' tk,(∀ c o,c≠z->c≠TO->c≠a->c≠b->s.heap.get? c=some o->h'.get? c=some o)->Q none {s with heap:=h',toks:=tk}):wpAny (model prog w) A (pyNext (.ref z)) Q E s:=by
 have m:s.TypeIs (.ref z) "zip":=by obtain⟨⟨_,_,h,_⟩,_⟩:=hz;exact⟨_,h,rfl⟩
 refine AA (GX (DI m GN
  (DR GN m F.entry_zip_next
   (aV7 D D1 B hz g h1 h2 u C (λG I x y h' tk n=>AH (H G I x y h' tk n)) λq h' tk e v t=>?_) (F.args_zip_next_1 _))))
 obtain⟨o,k⟩:=t
 refine AA (wpAny_isInstance ⟨o,k.1,k.2⟩ isSubtype_stop ?_)
 exact AH (hE q _ _ v)
theorem aV8{tg:Ez}{z TI TO T:Az}{Q:Unit->S9->Prop}(hz:ZN s.heap z TI TO)(ne:TO≠z)(g:∀ h',ZN h' z TI TO->Heap.SameBut z s.heap h'->Q () {s with heap:=h'}):wpAny (model prog w) A (letOwnedTupleGo tg (.ref z) (.ref T)) Q E s:=by
 have stay:=g s.heap hz ⟨rfl,λ_ _=>rfl⟩
 obtain⟨⟨i,k,f,j⟩,a,b,h⟩:=hz
 have d:wpAny (model prog w) A (do
   let o <-load z
   match o.cls,o.data with
   | .type n,.fields vs=>
    if ["enumerate","zip","dict_itemiterator","dict_reverseitemiterator","odict_iterator","itertools.zip_longest","itertools.pairwise"].contains n && vs[0]? == some (rawInt T)then
     rule "for.unpacks-the-owned-tuple"
     updateField z 0 .none
   | _,_=>pure ()) Q E s:=by
  refine AA (wpAny_load f ?_)
  show wpAny _ _ (if _ then _ else _) Q E s
  split
  .exact CQ f (by simp) λh' e c=>g h' ⟨⟨_,_,e,.inl rfl⟩,a,b,c.extBut _ _ ne h⟩ c
  .exact AH stay
 cases tg<;>first|exact d|exact AH stay
theorem aV9{z TI TO:Az}(hz:ZN s.heap z TI TO)(h:Q (.ref z) s):wpAny (model prog w) A (pyIter (.ref z)) Q E s:=by
 have a:s.TypeIs (.ref z) "zip":=by obtain⟨⟨_,_,h,_⟩,_⟩:=hz;exact⟨_,h,rfl⟩
 refine wpAny_pyIter_slot a F.slot_zip_iter (DR F.slot_zip_iter a F.entry_zip_iter ?_ (F.args_zip_iter_1 _))
 exact AH ⟨_,rfl,"zip",_,a,GN.lookup,h⟩
end
def nR(v:V9)(o:Obj)(h:Hz):Prop:=∀ (prog:P9) (w:W9) (A:U9) (E:V9->S9->Prop) (s:S9) (Q:V9->S9->Prop),s.heap=h->Q (.ref h.objs.size) {s with heap:=h.push o}->wpAny (model prog w) A (pyIter v) Q E s
noncomputable abbrev H2(h:Hz)(o1 o2:Obj):Hz:=(h.push o1).push o2
noncomputable abbrev H3(h:Hz)(o1 o2:Obj):Hz:=(H2 h o1 o2).push {cls:=.type "tuple",data:=.seq #[.ref h.objs.size,.ref (h.push o1).objs.size]}
noncomputable abbrev H4(h:Hz)(o1 o2:Obj):Hz:=(H3 h o1 o2).push {cls:=.type "tuple",data:=.seq #[.none,.none]}
noncomputable abbrev H5(h:Hz)(o1 o2:Obj):Hz:=(H4 h o1 o2).push {cls:=.type "zip",data:=.fields #[.none,.bool false,.bool false,.ref (H2 h o1 o2).objs.size,.ref (H3 h o1 o2).objs.size]}
theorem aK7(f l:V9)(a e:Obj) :
  Meets (Builtin.«zip.__new__» ⟨[.type "zip",f,l],[]⟩) (λ_ R s=>nR f a s.heap/\nR l e (s.heap.push a) /\
   R (.ok (.ret (.ref (H4 s.heap a e).objs.size))) {s with heap:=H5 s.heap a e}):=
 .of_wp λprog w A R s h=>by
  obtain⟨b,g,d,c,os⟩:=s;obtain⟨j,i,h⟩:=h
  have m:=sub_zip
  have n:∀ {A:U9} {E:V9->S9->Prop} {Q:V9->S9->Prop},Q (.ref b.objs.size) ⟨b.push a,g,d,c,os⟩->wpAny (model prog w) A (pyIter f) Q E ⟨b,g,d,c,os⟩:=λk=>j prog w _ _ ⟨b,g,d,c,os⟩ _ rfl k
  have p2:∀ {A:U9} {E:V9->S9->Prop} {Q:V9->S9->Prop},Q (.ref (b.push a).objs.size) ⟨(b.push a).push e,g,d,c,os⟩->wpAny (model prog w) A (pyIter l) Q E ⟨b.push a,g,d,c,os⟩:=λk=>i prog w _ _ ⟨b.push a,g,d,c,os⟩ _ rfl k
  wp_walk using n,p2
  exact⟨_,rfl,h⟩
section
variable{prog:P9}{w:W9}{A:U9}{E:V9->S9->Prop}{s:S9}
theorem aN2{e:V9}{a b:Obj}(h1:nR e a s.heap)(h2:nR g b (s.heap.push a))(q:a.isFreed=false)(p:b.isFreed=false)
  (h:∀ h',IsZip h' (s.heap.objs.size+4) (s.heap.objs.size+2) (s.heap.objs.size+3) .none->IsPair h' (s.heap.objs.size+2) (.ref s.heap.objs.size) (.ref (s.heap.objs.size+1))->
   IsPair h' (s.heap.objs.size+3) .none .none->h'.get? s.heap.objs.size=some a->h'.get? (s.heap.objs.size+1)=some b->h'.objs.size=s.heap.objs.size+5->
   (∀ c o,s.heap.get? c=some o->h'.get? c=some o)->Q (.ref (s.heap.objs.size+4)) {s with heap:=h'}) :
  wpAny (model prog w) A (call (.type "zip") [e,g]) Q E s:=by
 refine callType_new F.called_zip (by rfl) (F.typeCall_zip_2 _ _) (F.newCall_zip_2 _ _) (λobj=>F.args_object_init_3 obj _ _) F.entry_zip_new
  (aK7 e g a b) ⟨h1,h2,?_⟩
 have j:(s.heap.push a).objs.size=s.heap.objs.size+1:=BP ..
 have i:(H2 s.heap a b).objs.size=s.heap.objs.size+2:=by rw[BP,j]
 have d:(H3 s.heap a b).objs.size=s.heap.objs.size+3:=by rw[BP,i]
 have k:(H4 s.heap a b).objs.size=s.heap.objs.size+4:=by rw[BP,d]
 have f:(H5 s.heap a b).get? _=some _:=AY _ rfl
 have l:(H5 s.heap a b).get? _=some _:=AB _ (AY _ rfl)
 have m:(H5 s.heap a b).get? _=some _:=AB _ (AB _ (AY _ rfl))
 have n:(H5 s.heap a b).get? _=some b:=AB _ (AB _ (AB _ (AY _ p)))
 rw[i,d,k]at f
 rw[j,i]at m
 rw[d]at l
 rw[j]at n
 rw[k]
 exact⟨⟨_,f,rfl⟩,h _ f m l (AB _ (AB _ (AB _ (AB _ (AY _ q))))) n (by rw[BP,k]) λc o x=>
  AB _ (AB _ (AB _ (AB _ (AB _ x))))⟩
end
end _g
namespace _a
variable{Z:St}{H:Hp}
abbrev Col:=Hp->L9 V->Prop
structure ColOk(P:Program)(w:World)(K:Frag)(C:Col)(it:Az)(tn:Nat->Heap->Prop):Prop where
 obj:∀ i h,tn i h->∃ o,h.get? it=some o/\∀ v,o.data≠.cell v
 keep:∀ i h h',tn i h->(∀ o,h.get? it=some o->h'.get? it=some o)->tn i h'
 one:∀ (X:Cx),X.prog=P->X.w=w->X.K=K->∀ ap s Z H xs ys,Inv X ap Z H s->C H xs->C H ys->xs=ys
 draw:∀ (X:Cx),X.prog=P->X.w=w->X.K=K->∀ (i:Nat) (ap:List (Az×Obj)) (s:S9) (Z:St) (H:Hp) (xs:List V) (A:Around),Inv X ap Z H s->iV X ap H it->tn i s.heap->C H xs->A.handled=none->
  ∃ fp Pv St,Draws P w A it fp xs.length Pv St/\St i s.heap/\(∀ j h,St j h->tn j h)/\(∀ j v,Pv j v->∃ x,xs[j]? = some x/\aV x v)/\∀ b,iV X ap H b->b≠it->b∉fp
theorem aF5{X:Cx}(I:Inv X ap Z H s)(d:iV X ap H b)(e:X.base.get? a=some o):b≠a:=by
 intro z
 rcases d.2.2.2.1 with c|c
 .exact I.ok.noex a o e (z▸c)
 .have f:=AQ e
  have g:=I.ok.bsz
  ext
theorem aK8{X:Cx}{xs:L9 V}(I:Inv X ap Z H s)(c:iV X ap H b)(h:SqL X.K H a xs):b≠a:=by
 rcases h with (h|⟨o,h⟩)|⟨o,vs,n,h,_⟩
 · intro z; rw [<- z, c.1]at h; ext
 · intro z; rw [<- z, c.1]at h; ext
 · exact aF5 I c (I.ok.mod.kin _ _ h)
theorem aK9{X:Cx}{xs:L9 V}(I:Inv X ap Z H s)(c:iV X ap H b)(h:SqT X.K H a xs):b≠a:=by
 rcases h with (h|⟨o,h⟩)|⟨o,vs,n,h,_⟩
 · intro z; rw [<- z, c.1]at h; ext
 · intro z; rw [<- z, c.1]at h; ext
 · exact aF5 I c (I.ok.mod.kin _ _ h)
theorem aN3{w:W9}(a it:Az):ColOk P w K (λH xs=>SqL K H a xs) it (λi h=>h.IsListIter it a i) where
 obj:=λi h ⟨o,e,c,d⟩=>⟨o,e,λv z=>by rw[d]at z;cases z⟩
 keep:=λi h h' st k=>st.at λo e=>k o e
 one:=by
  intro X x y l ap s Z H xs ys I h1 h2
  subst l
  exact I.list_inj h1 h2
 draw:=by
  intro X x y l i ap s Z H xs A I F st n D
  subst x y l
  obtain⟨f,g,p,J⟩:=I.list n
  have m:=aK8 I F n
  refine⟨[it,a],(λi v=>f.toArray[i]? = some v),(λi h=>h.IsListIter it a i/\h.IsList a f.toArray),by rw[show xs.length=f.toArray.size by rw[g.length];simp];exact Draws.list D it a (BQ m) f.toArray,⟨st,p.isList⟩,λj h z=>z.1,λj v e=>?_,λb B E C=>?_⟩
  .have r:f[j]? = some v:=by simpa using e
   have t:j < xs.length:=by rw[g.length];exact(AG.mp r).1
   obtain⟨u,q,G⟩:=g.get (AI t)
   rw[r]at q;cases q
   exact⟨_,AI t,G⟩
  .rcases AV.mp C with z|z
   · exact E z
   · exact aK8 I B n (by simpa using z)
theorem aLA{w:W9}(a it:Az):ColOk P w K (λH xs=>SqT K H a xs) it (λi h=>h.IsTupleIter it a i) where
 obj:=λi h ⟨o,e,c,d⟩=>⟨o,e,λv z=>by rw[d]at z;cases z⟩
 keep:=λi h h' ⟨o,e,r⟩ k=>⟨o,k o e,r⟩
 one:=by
  intro X q t l ap s Z H xs ys I h1 h2
  subst l
  exact I.tuple_inj h1 h2
 draw:=by
  intro X q t l i ap s Z H xs A I E st n B
  subst q t l
  obtain⟨f,g,p,G⟩:=I.tuple n
  have m:=aK9 I E n
  refine⟨[it,a],(λi v=>f.toArray[i]? = some v),(λi h=>h.IsTupleIter it a i/\h.IsTuple a f.toArray),by rw[show xs.length=f.toArray.size by rw[g.length];simp];exact _g.aE3 B it a (BQ m) f.toArray,⟨st,p⟩,λj h z=>z.1,λj v e=>?_,λb x J y=>?_⟩
  .have C:f[j]? = some v:=by simpa using e
   have D:j < xs.length:=by rw[g.length];exact(AG.mp C).1
   obtain⟨u,F,L⟩:=g.get (AI D)
   ext
  .rcases AV.mp y with z|z
   · ext
   · exact aK9 I x n (by simpa using z)
noncomputable def wR(z:Str):L9 V:=z.cps.toList.map λc=>V.str ⟨#[c]⟩
theorem aR7{w:W9}(z:Str)(t:Tok)(it:Az):ColOk P w K (λ_ xs=>xs=wR z) it (λi h=>h.IsStrIter it (strIterType z) z t i) where
 obj:=λi h ⟨o,e,c,d⟩=>⟨o,e,λv z=>by rw[d]at z;cases z⟩
 keep:=λi h h' ⟨o,e,r⟩ k=>⟨o,k o e,r⟩
 one:=λ_ _ _ _ _ _ _ _ _ _ _ h1 h2=>h1.trans h2.symm
 draw:=by
  intro X m p g i ap s Z H xs A I y st q a
  subst m p g q
  have n:Draws X.prog X.w A it [it] z.cps.size (λi v=>∃ c u,z.cps[i]? = some c/\v=.str ⟨#[c]⟩ u) (λi h=>h.IsStrIter it (strIterType z) z t i):=by
   unfold strIterType
   split
   · exact Draws.strAscii a it z t
   · exact Draws.strWide a it z t
  refine⟨[it],_,_,by rw[show(wR z).length=z.cps.size by unfold wR;simp];exact n,st,λj h z=>z,?_,λb x l f=>l (by simpa using f)⟩
  rintro j v ⟨c,u,hc,rfl⟩
  exact⟨.str ⟨#[c]⟩,by unfold wR;rw[AE,DP,hc];rfl,u,rfl⟩
def Itz(C1 C2:Col):It:=
 ⟨λi H=>∃ xs ys,C1 H xs/\C2 H ys/\i < xs.length/\i < ys.length,λi H x H'=>∃ p u v,H p=none/\x=.ref p/\H'=upd H p (.tup [u,v])/\(∀ xs,C1 H xs->xs[i]? = some u)/\∀ ys,C2 H ys->ys[i]? = some v,
  λi H=>∃ xs ys,C1 H xs/\C2 H ys/\(i=xs.length\/(i < xs.length/\i=ys.length))⟩
theorem aDR{w:W9}{u r:Col}{z TI TO d:Az}{n p:Nat->Hz->Prop}{X:Cx}{xs ys:L9 V}(E:ColOk P w K u d n)(J:ColOk P w K r f p)(hd:[z,TI,TO,d,f].Nodup)(G:X.prog=P)(hw:X.w=w)(B:X.K=K)(L:X.calm=true)(I:Inv X ap Z H s)(g:∀ b∈[z,TI,TO,d,f],iV X ap H b)
  (st:_g.ZN s.heap z TI TO/\IsPair s.heap TI (.ref d) (.ref f)/\n i s.heap/\p i s.heap) (q1:u H xs) (q2:r H ys) :
  (∀ c∈[z,TI,TO,d,f],c < s.heap.objs.size)/\∃ f1 P1 S1 f2 P2 S2,Draws P w X.A.in1 d f1 xs.length P1 S1/\Draws P w X.A.in1 f f2 ys.length P2 S2/\S1 i s.heap/\(∀ j h,S1 j h->n j h)/\(∀ j v,P1 j v->∃ x,xs[j]? = some x/\aV x v)/\S2 i s.heap/\(∀ j h,S2 j h->p j h)/\(∀ j v,P2 j v->∃ x,ys[j]? = some x/\aV x v)/\_g.Apart z TI TO d f f1 f2:=by
 obtain⟨⟨⟨_,_,s1,_⟩,a,b,N⟩,R,F,t⟩:=st
 simp[not_false_eq_true]at hd
 obtain⟨⟨d1,d2,y,D⟩,⟨Q,M,O⟩,⟨q,C⟩,l⟩:=hd
 obtain⟨f1,P1,S1,D1⟩:=E.draw X G hw B i ap s Z H xs X.A.in1 I (g d (by simp)) F q1 (I.ok.hd L)
 obtain⟨f2,P2,S2,k⟩:=J.draw X G hw B i ap s Z H ys X.A.in1 I (g f (by simp)) t q2 (I.ok.hd L)
 refine⟨λc m=>?_,f1,P1,S1,f2,P2,S2,D1.1,k.1,D1.2.1,D1.2.2.1,D1.2.2.2.1,k.2.1,k.2.2.1,k.2.2.2.1,BQ d1,BQ d2,BQ y,BQ D,Q,M,O,q,C,l,D1.2.2.2.2 z (g z (by simp)) y,k.2.2.2.2 z (g z (by simp)) D,D1.2.2.2.2 TO (g TO (by simp)) q,k.2.2.2.2 TO (g TO (by simp)) C,k.2.2.2.2 d (g d (by simp)) l,D1.2.2.2.2 f (g f (by simp)) (BQ l)⟩
 simp[DE]at m
 rcases m with rfl|rfl|rfl|rfl|rfl
 .exact AQ s1
 .exact AQ R
 .exact AQ N
 .obtain ⟨o,e⟩:=E.obj _ _ F;exact AQ e.1
 .obtain ⟨o,e⟩:=J.obj _ _ t;exact AQ e.1
theorem aN4{w:W9}{tg:Ez}{C1 C2:Col}{z TI TO t:Az}{t1 t2:Nat->Hz->Prop}(O:ColOk P w K C1 p t1)(Q:ColOk P w K C2 t t2)(hd:[z,TI,TO,p,t].Nodup) :
  Turn P w K tg (Itz C1 C2) [z,TI,TO,p,t] z (λi h=>_g.ZN h z TI TO/\IsPair h TI (.ref p) (.ref t)/\t1 i h/\t2 i h) where
 mem:=by simp
 obj:=λi h aa c R=>by
  obtain⟨⟨⟨_,_,s1,_⟩,a,b,s3⟩,s2,s4,s5⟩:=aa
  simp only[AV,B8,DE]at R
  rcases R with rfl|rfl|rfl|rfl|rfl
  .exact ⟨_,s1,λv z=>by have z':Data.fields _=Data.cell v:=z;cases z'⟩
  .grind
  .grind
  .exact O.obj i h s4
  .exact Q.obj i h s5
 keep:=λi h h' ⟨⟨⟨f,g,s1,r⟩,a,b,s3⟩,s2,s4,s5⟩ k=>⟨⟨⟨f,g,k z (by simp) _ s1,r⟩,a,b,k TO (by simp) _ s3⟩,k TI (by simp) _ s2,O.keep i h h' s4 λo e=>k p (by simp) o e,Q.keep i h h' s5 λo e=>k t (by simp) o e⟩
 item:=by
  intro X F G M R i ap s Z H E I B st hg
  obtain⟨xs,ys,W,Y,l1,l2⟩:=hg
  obtain⟨N,f1,P1,S1,f2,P2,S2,D1,D2,a1,a2,a3,b1,b2,b3,A⟩:=aDR O Q hd F G M R I B st W Y
  have V:=λzs (h:C1 H zs)=>O.one X F G M ap s Z H zs xs I h W
  have U:=λzs (h:C2 H zs)=>Q.one X F G M ap s Z H zs ys I h Y
  subst F G M
  refine _g.aF4 A D1 D2 st.1 st.2.1 a1 b1 (BS l1) (λ_=>BS l2) (λ_ _ x y h' tk n=>?_) λq=>by ext
  obtain⟨u,hu,ru⟩:=a3 i x n.p1
  obtain⟨v,hv,rv⟩:=b3 i y n.p2
  refine⟨_,rfl,_g.aV8 n.zn A.TOz λh2 zn T=>?_⟩
  have ae:s.heap.objs.size≠z:=CJ (N z (by simp))
  have fT:H s.heap.objs.size=none:=I.hok.fresh (AM _)
  have j:∀ c o,c∉[z,TI,TO,p,t]->s.heap.get? c=some o->h2.get? c=some o:=λc o d q=>by
   simp only[AV,B8,DE,not_or]at d
   exact(T.2 c d.1).trans (n.kp c o d.1 d.2.2.1 d.2.2.2.1 d.2.2.2.2 q)
  have ac:∀ c l,H c=some l->c∉[z,TI,TO,p,t]:=λc l q D=>by rw[(B c D).1]at q;cases q
  have S:HOk X.prog X.w H h2:=λc l q=>by
   refine(I.hok c l q).stay (λc' v' d q'=>j c' v' ?_ q') (λ_ q=>q) (λ_ _ q=>q) λ_ _ q=>q
   ext
  have L:∀ c l,H c=some l->c≠s.heap.objs.size:=λc l q=>a9 q fT
  refine⟨.ref s.heap.objs.size,upd H s.heap.objs.size (.tup [u,v]),?_,rfl,⟨_,u,v,fT,rfl,rfl,λzs C=>by rw[V zs C];exact hu,λzs C=>by rw[U zs C];exact hv⟩,⟨zn,(T.2 TI A.TIz).trans (n.kp TI _ A.TIz A.TITO A.TIi1 A.TIi2 st.2.1),O.keep _ _ _ (a2 _ _ n.s1) λo e=>(T.2 p A.i1z).trans e,Q.keep _ _ _ (b2 _ _ n.s2) λo e=>(T.2 t A.i2z).trans e⟩,λc d=>by rw[aG (BG (N c d))];exact(B c d).1⟩
  show Inv X ap Z _ {s with heap:=h2,gens:=s.gens,drawn:=s.drawn,toks:=tk}
  refine I.step (ch:=[z,TI,TO,p,t]) (λc d=>?_) (λc o _ _ d q _=>j c o d q) (λc o _ _ d q _=>⟨o.slots,j c o d q⟩)
   (λc o _ q n=>by rw[aG (BG (AQ q))];exact n) (λc o d q=>⟨o,j c o d q⟩) (λc ys q=>by rw[aG (L c _ q)];exact q) (λc o l q=>by rw[aG (L c _ q)];exact q)
   (λc ps q=>by rw[aG (L c _ q)];exact q) (λm hm=>?_) (HOk.track S fT ⟨by show 2<=sizeLine;decide,[x,y],.cons ru (.cons rv .nil),⟨_,(T.2 _ ae).trans n.pr,⟨rfl,rfl⟩,_,rfl⟩⟩) I.bare
  .obtain ⟨e0,e1,e2,e3,e4,e5⟩:=B c d
   ext
  .obtain ⟨o,J,ep,ho,r⟩:=hm
   exact⟨o,J,ep,j _ o (λD=>(B _ D).2.1 rfl) ho,r⟩
 done:=by
  intro X F G M R i ap s Z H E I B st hg
  obtain⟨xs,ys,W,Y,af⟩:=hg
  obtain⟨N,f1,P1,S1,f2,P2,S2,D1,D2,a1,a2,a3,b1,b2,b3,A⟩:=aDR O Q hd F G M R I B st W Y
  subst F G M
  refine _g.aF4 A D1 D2 st.1 st.2.1 a1 b1 (by ext) (λ_=>by ext) (λ_ _=>by ext) λ_ h' tk kp=>⟨rfl,?_⟩
  have j:∀ c o,c∉[z,TI,TO,p,t]->s.heap.get? c=some o->h'.get? c=some o:=λc o d q=>by
   ext
  have ac:∀ c l,H c=some l->c∉[z,TI,TO,p,t]:=λc l q D=>by rw[(B c D).1]at q;cases q
  refine I.step (g':=s.gens) (d':=s.drawn) (ch:=[z,TI,TO,p,t]) (λc d=>?_) (λc o _ _ d q _=>j c o d q) (λc o _ _ d q _=>⟨o.slots,j c o d q⟩) (λ_ _ _ _ n=>n) (λc o d q=>⟨o,j c o d q⟩) (λ_ _ q=>q) (λ_ _ _ q=>q) (λ_ _ q=>q) (λm hm=>?_) (λc l q=>?_) I.bare
  .obtain ⟨e0,e1,e2,e3,e4,e5⟩:=B c d
   ext
  .obtain ⟨o,J,ep,ho,r⟩:=hm
   exact⟨o,J,ep,j _ o (λD=>(B _ D).2.1 rfl) ho,r⟩
  .refine (I.hok c l q).stay (λc' v' d q'=>j c' v' ?_ q') (λ_ q=>q) (λ_ _ q=>q) λ_ _ q=>q
   ext
 self:=λ_ _ _ _ _ st h=>_g.aV9 st.1 h
def z9(K:Frag)(H:Hp)(x:V)(C:Col):Prop:=
 (∃ a xs,x=.ref a/\SqL K H a xs/\C=λH xs=>SqL K H a xs)\/(∃ a xs,x=.ref a/\SqT K H a xs/\C=λH xs=>SqT K H a xs)\/∃ z,x=.str z/\C=λ_ xs=>xs=wR z
theorem wS{X:Cx}{x:V}{C:Col}(I:Inv X ap Z H s)(r:aV x u)(h:z9 X.K H x C) :
  ∃ (o:Obj) (tn:Az->Nat->Hz->Prop),(∀ h':Hz,(∀ b ob,s.heap.get? b=some ob->h'.get? b=some ob)->_g.nR u o h')/\o.isFreed=false/\(∀ it,ColOk X.prog X.w X.K C it (tn it))/\∀ it h',h'.get? it=some o->tn it 0 h':=by
 rcases h with ⟨a,xs,rfl,f,rfl⟩|⟨a,xs,rfl,f,rfl⟩|⟨z,rfl,rfl⟩
 .cases r
  obtain⟨c,j,p,g⟩:=I.list f
  refine⟨{cls:=.type "list_iterator",data:=.fields #[.ref a,.int 0 0]},λit i h=>h.IsListIter it a i,λh' d prog w A E s' Q e q=>?_,rfl,λit=>aN3 a it,λit h' e=>⟨_,e,rfl,rfl⟩⟩
  subst e
  refine wpAny_pyIter_list (items:=c.toArray) ?_ q
  obtain⟨o,e,r⟩:=p.isList
  exact⟨o,d _ _ e,r⟩
 .cases r
  obtain⟨c,j,p,g⟩:=I.tuple f
  refine⟨{cls:=.type "tuple_iterator",data:=.fields #[.ref a,.int 0 0]},λit i h=>h.IsTupleIter it a i,λh' d prog w A E s' Q e q=>?_,rfl,λit=>aLA a it,λit h' e=>⟨_,e,rfl,rfl⟩⟩
  subst e
  refine wpAny_pyIter_tuple (items:=c.toArray) ?_ q
  obtain⟨o,e,r⟩:=p
  exact⟨o,d _ _ e,r⟩
 .obtain ⟨t,rfl⟩:=r
  refine⟨{cls:=.type _,data:=.fields #[.str z t,.int 0 0]},λit i h=>h.IsStrIter it _ z t i,λh' d prog w A E s' Q e q=>?_,rfl,λit=>aR7 z t it,λit h' e=>⟨_,e,rfl,rfl⟩⟩
  subst e
  exact wpAny_pyIter_strU q
def aN5(K:Frag)(ta:TA):TI:=λZ H R=>ta Z H λvs H1=>∃ x y C1 C2,vs=[x,y]/\z9 K H1 x C1/\z9 K H1 y C2/\R (Itz C1 C2) H1
theorem aDS{X:Cx}{tg a b:Ez}{ta:TA}{p pos:Pos}(r:Gl X "zip")(u:X.mg "zip"=none)(n:PA X [a,b] ta)(C:autoParam (starEach [a,b] X.env=[(false,eval a X.env),(false,eval b X.env)]) z3)(hs2:autoParam (starEach [b] X.env=[(false,eval b X.env)]) z3) :
  PI X tg (.Call (.Name "zip" p) [a,b] [] pos) (aN5 X.K ta):=by
 intro ap s Z H R I h
 refine Call_ (mC I r u boot_zip (CC (thn (n pos ap s Z H _ I h) λus s1 j=>?_) (by simp_all) (by rw[hs2];rfl)))
 obtain⟨vs,H1,f,r1,w⟩:=j
 obtain⟨x,y,E,B,rfl,k⟩:=w
 cases r1 with
 | cons ru rr=>
  cases rr with
  | cons rv rr=>
   cases rr
   obtain⟨F,A,i⟩:=wS f ru k.1
   obtain⟨J,D,g⟩:=wS f rv k.2.1
   refine _g.aN2 (i.1 _ λ_ _ e=>e) (g.1 _ λ_ _ e=>AB _ e) i.2.1 g.2.1 λh' l v m o t z q=>?_
   refine wpAny_pyIter_zip l ?_
   refine⟨s1.heap.objs.size+4,[s1.heap.objs.size+4,s1.heap.objs.size+2,s1.heap.objs.size+3,s1.heap.objs.size,s1.heap.objs.size+1],_,_,H1,rfl,(f.kept (t':=s1.toks) q),aN4 (i.2.2.1 _) (g.2.2.1 _) ?_,⟨⟨⟨_,_,l,.inl rfl⟩,_,_,m⟩,v,i.2.2.2 _ _ o,g.2.2.2 _ _ t⟩,λc G=>?_,k.2.2⟩
   .simp
   .have d:s1.heap.objs.size<=c:=by
     ext
    exact f.fpOk d (f.hok.fresh d)
end _a
namespace _f
variable{F B:Hp}
noncomputable def aIG(p:D4×D4):D4:=.tuple [p.1,p.2]
noncomputable def mR(x y:D4):R (L9 D4):=(aP x).bind λxs=>(aP y).bind λys=>.ok ((xs.zip ys).map aIG)
theorem q9{d:D4}{xs:L9 D4}(h:aP d=.ok xs):xs.length<=16777216:=by
 unfold aP at h
 ext
theorem mJ{d:D4}{e:Er}:aP d≠.ex e:=by
 intro h
 unfold aP at h
 ext
theorem wU:∀ (cs:L9 Nat),DatVs K F (cs.map λc=>V.str ⟨#[c]⟩) (cs.map λc=>PyData.str ⟨#[c]⟩)
 | []=>.nil
 | c::t=>.cons (.str _) (wU t)
theorem aF6{v:V}{d:D4}{xs:L9 D4}(s:aD F B)(r:aQ K F B v d)(h:aP d=.ok xs):∃ C vs,z9 K B v C/\(∀ H1,aD B H1->C H1 vs)/\DatVs K F vs xs:=by
 unfold aP at h
 split at h
 .split at h
  .cases h
   obtain⟨p,vs,rfl,h1,h2⟩:=aQ.lst_of s r
   exact⟨_,vs,.inl ⟨p,vs,rfl,h1,rfl⟩,λH1 q=>h1.same q,h2⟩
  simp_all
 .split at h
  .cases h
   obtain⟨p,vs,rfl,h1,h2⟩:=aQ.tup_of s r
   exact⟨_,vs,.inr (.inl ⟨p,vs,rfl,h1.same s,rfl⟩),λH1 q=>(h1.same s).same q,h2.2⟩
  simp_all
 .rename_i z
  split at h
  .cases h
   obtain rfl:=aQ.str_of r
   exact⟨_,wR z,.inr (.inr ⟨z,rfl,rfl⟩),λ_ _=>rfl,wU _⟩
  simp_all
 simp_all
theorem wV{v:V}{d:D4}{xs:L9 D4}(s:aD F B)(r:DatV K F v d)(h:aP d=.ok xs):∃ C vs,z9 K B v C/\(∀ H1,aD F H1->C H1 vs)/\DatVs K F vs xs:=by
 unfold aP at h
 split at h
 .split at h
  .cases h
   obtain⟨p,vs,rfl,h1,h2⟩:=DatV.lst_of r
   exact⟨_,vs,.inl ⟨p,vs,rfl,h1.same s,rfl⟩,λH1 q=>h1.same q,h2⟩
  simp_all
 .split at h
  .cases h
   obtain⟨p,vs,rfl,h1,h2⟩:=DatV.tup_of r
   exact⟨_,vs,.inr (.inl ⟨p,vs,rfl,h1.same s,rfl⟩),λH1 q=>h1.same q,h2⟩
  simp_all
 .rename_i z
  split at h
  .cases h
   obtain rfl:=DatV.str_of r
   exact⟨_,wR z,.inr (.inr ⟨z,rfl,rfl⟩),λ_ _=>rfl,wU _⟩
  simp_all
 simp_all
theorem aF7:∀ {xs:L9 α} {ys:L9 β} {i:Nat} {x:α} {y:β},xs[i]? = some x->ys[i]? = some y->(xs.zip ys)[i]? = some (x,y)
 | [],_,_,_,_,h,_=>by simp_all
 | _::_,[],_,_,_,_,h=>by simp_all
 | x::xs,y::ys,0,_,_,h1,h2=>by simp at h1 h2;subst h1 h2;rfl
 | x::xs,y::ys,i+1,_,_,h1,h2=>by
  show(xs.zip ys)[i]? = _
  exact aF7 (by assumption) (by assumption)
theorem aF8{j f:Col}{us vs:L9 V}{xs ys:L9 D4}(hz:xs.length<=16777216)(h1:∀ H1,aD F H1->aD B H1->j H1 us)(h2:∀ H1,aD F H1->aD B H1->f H1 vs)(d1:DatVs K F us xs)(d2:DatVs K F vs ys) :
  Yld K (Itz j f) F B ((xs.zip ys).map aIG) where
 len:=by rw[fQ,AC,GO];ext
 go:=λi g H1 d c b hi=>by
  rw[AC,GO]at hi
  have a:aD F H1:=λx o z=>c x o (d x o z)
  exact⟨us,vs,h1 H1 a b,h2 H1 a b,by rw[d1.length];ext,by rw[d2.length];ext⟩
 yld:=λi g H1 v H2 x d c b y e=>by
  obtain⟨p,u,w,k,rfl,rfl,l,m⟩:=y
  have a:aD F H1:=λx o z=>c x o (d x o z)
  obtain⟨dx,e1,r1⟩:=d1.get (l us (h1 H1 a b))
  obtain⟨n,e2,r2⟩:=d2.get (m vs (h2 H1 a b))
  rw[AE,aF7 e1 e2]at e
  cases e
  have h:=aD.upd (o:=.tup [u,w]) (aU c k)
  exact⟨_,Ext.new c k,.tup (SqT.of aO) (.cons ((r1.same d).same h) (.cons ((r2.same d).same h) .nil))⟩
 stop:=λg H1 d c b=>by
  have a:aD F H1:=λx o z=>c x o (d x o z)
  refine⟨us,vs,h1 H1 a b,h2 H1 a b,?_⟩
  rw[AC,GO,d1.length,d2.length]
  ext
section
variable{X:Cx}{c:Ct}{E:XK}{tg e:Ez}
theorem aF9{f g:Sg->R D4}(n:X.K=c.K)(h:PI X tg e (aN5 X.K (c6 (tV (bO c) c E f) (c6 (tV (bO c) c E g) gK)))):PI0 X c E tg e (λY=>(f Y).bind λx=>(g Y).bind λy=>mR x y):=PI.imp h λZ H Q a=>by
 obtain⟨Y,F,ab,k⟩:=a
 refine⟨Y,F,ab,(Rk.bind k).imp λx _ q v j H1 s1 r1=>⟨Y,j,ab.ext s1,((Rk.bind q).ext s1).imp λy _ q w l H' s r=>?_⟩⟩
 unfold mR at q
 cases e1:aP x with
 | bad=>rw[e1]at q;exact q.elim
 | ex e=>exact absurd e1 mJ
 | ok xs=>
  rw[e1]at q
  cases e2:aP y with
  | bad=>rw[e2]at q;exact q.elim
  | ex e=>exact absurd e2 mJ
  | ok ys=>
   rw[e2]at q
   obtain⟨m,us,b⟩:=wV s.fh (DatV.same s.ff r1) e1
   obtain⟨i,vs,d⟩:=wV s.fh r e2
   rw[n]
   exact⟨v,w,m,i,rfl,b.1,d.1,Rk.ok q _ l H' (s1.trans s) (aF8 (q9 e1) (λH1 z _=>b.2.1 H1 z) (λH1 z _=>d.2.1 H1 z) b.2.2 d.2.2)⟩
theorem aR8{f g:Sg->R D4}(n:X.K=c.K)(h:PI X tg e (aN5 X.K (c6 (tV (aZ c) c E f) (c6 (tV (aZ c) c E g) gK)))):PIf X c E tg e (λY=>(f Y).bind λx=>(g Y).bind λy=>mR x y):=PI.imp h λZ H Q a=>by
 obtain⟨Y,F,ab,k⟩:=a
 refine⟨Y,F,ab,(Rk.bind k).imp λx _ q v j H1 s1 r1=>⟨Y,j,ab.ext s1,((Rk.bind q).ext s1).imp λy _ q w l H' s r=>?_⟩⟩
 unfold mR at q
 cases e1:aP x with
 | bad=>rw[e1]at q;exact q.elim
 | ex e=>exact absurd e1 mJ
 | ok xs=>
  rw[e1]at q
  cases e2:aP y with
  | bad=>rw[e2]at q;exact q.elim
  | ex e=>exact absurd e2 mJ
  | ok ys=>
   rw[e2]at q
   obtain⟨m,us,b⟩:=aF6 s.fh (aQ.ext s r1) e1
   obtain⟨i,vs,d⟩:=aF6 s.fh r e2
   rw[n]
   exact⟨v,w,m,i,rfl,b.1,d.1,Rk.ok q _ H' l H' (s1.trans s) (bF _) (aF8 (q9 e1) (λH1 _ z=>b.2.1 H1 z) (λH1 _ z=>d.2.1 H1 z) b.2.2 d.2.2)⟩
end
end _f
variable{y:V9}
namespace _a
variable{key:V9}
section
variable{K:Type}[DecidableEq K]{prog:P9}{w:W9}{knd:KeyKind prog w K}{A:U9}{E:V9->S9->Prop}{s:S9}
theorem pP{a:L9 (K×V9)}{k:K}(h:valueAt a k=none):k∉a.map (·.1):=λq=>by
 obtain⟨kv,b⟩:=A1.mp q
 unfold valueAt at h
 have h:=Option.map_eq_none_iff.mp h
 ext
theorem aN6{d:Az}{f:L9 (K×V9)}{k:K}(c:knd.is k key=true)(j:s.heap.DictOf knd d f)
  (h1:∀ v,valueAt f k=some v->Q v {s with toks:=s.toks+1})
  (h2:valueAt f k=none->∀ h',h'.DictOf knd d (f++[(k,y)])->Heap.SameBut d s.heap h'->Q y {s with heap:=h',toks:=s.toks+1})
  (hsz:f.length<=sizeLine):wpAny (model prog w) A (dictSetDefault d key y) Q E s:=by
 have hz:s.heap.DictLe d sizeLine:=λo es n h g=>by
  obtain⟨o',u,t,a,_,b,i⟩:=j
  rw[h]at a;cases a
  have e1:=i.2.1.length
  ext
 cases e:valueAt f k with
 | some v=>exact wpAny_dictSetDefault_of c j.mapOf (λz r=>h1 z r) λp=>by ext
 | none=>
  have x:=pP e
  obtain⟨o,es,n,h,B,g,m,i,p⟩:=j
  have hi:(es.findIdx? λe=>knd.is k e.key)=none:=by
   have q:(es.findIdx? λe=>knd.is k e.key)=f.findIdx? λkv=>decide (kv.1=k):=by rw[<-i.findIdx k];obtain⟨l⟩:=es;simp
   ext
  unfold dictSetDefault
  try with_reducible refine CL ?_
  refine AA (knd.pyHash c (AA (wpAny_dictFind_of c h g m ?_)))
  rw[hi]
  refine AA (FX (AA (wpAny_updateDictKeys (hz:=(hz _ _ _ h g)) h g (AH (h2 e _ ⟨_,_,n+1,CH _ h (Obj.isFreed_of_dict (DU g _)),B.mapDictKeys _,DU g _,m.push c _,?_,?_⟩ (B9 ..))))))
  .have q:=i.append c (knd.hash k) y
   ext
  ext
end
section
variable{K:Type}[DecidableEq K]{prog:P9}{w:W9}{knd:HeapKind prog w K}{A:U9}{E:V9->S9->Prop}{s:S9}
theorem aR9{d:Az}{xs:L9 (K×Az×V9)}{k:K}(l:knd.room A)(c:knd.is s.heap k a)(m:s.heap.DictOfH knd d xs)
  (h1:∀ p,atKey xs k=some p->Q p.2 {s with toks:=s.toks+knd.draws k})
  (h2:atKey xs k=none->∀ h',h'.DictOfH knd d (storedH xs k a y)->Heap.SameBut d s.heap h'->Q y {s with heap:=h',toks:=s.toks+knd.draws k})
  (hsz:xs.length<=sizeLine):wpAny (model prog w) A (dictSetDefault d (.ref a) y) Q E s:=by
 obtain⟨o,es,n,b⟩:=m
 unfold dictSetDefault
 try with_reducible refine CL ?_
 refine AA (knd.pyHash l c (AA (wpAny_dictFind_heap l c b.1 b.2.2.1 b.2.2.2.1 b.2.2.2.2.1 b.2.2.2.2.2 (λg=>?_) (λj p i=>?_))))
 .have h2:=h2 (atKey_none_of_get g)
  rw[storedH_new (atKey_none_of_get g)]at h2
  refine AA (FX (AA (wpAny_updateDictKeys (hz:=(by have e:=size_of_entries b.2.2.2.1;ext)) b.1 b.2.2.1 (AH (h2 _ ⟨_,_,n+1,CH _ b.1 (Obj.isFreed_of_dict (DU b.2.2.1 _)),b.2.1.mapDictKeys _,DU b.2.2.1 _,by simp[b.2.2.2.1,entryOfKey],λx f=>?_,?_⟩ (B9 ..))))))
  .rcases BO.mp f with f|f
   · exact knd.keeps (b.2.2.2.2.1 x f) b.1 b.2.2.1 (B9 ..)
   · rw [AZ.mp f]; exact knd.keeps c b.1 b.2.2.1 (B9 ..)
  .rw[BL,CN]
   refine⟨b.2.2.2.2.2,by simp,λx f z h=>?_⟩
   rw[show z=k by simpa using h]
   exact λq=>(not_mem_keys_of_get g) (q▸f)
 .refine AA (wpAny_dictEntries b.1 b.2.2.1 ?_)
  rw[entry_at b.2.2.2.1 j,i]
  exact AA (FX (AH (h1 p (atKey_of_get b.2.2.2.2.2 i))))
end
theorem aDT{w:W9}{d:Az}(b:(d == sysModules)=false) :
  MeetsIn prog w (Builtin.«dict.setdefault» ⟨[.ref d,key,y],[]⟩) (λA R s=>s.TypeIs (.ref d) "dict"/\wpAny (model prog w) A.in1 (dictSetDefault d key y) (λv s'=>R (.ok (.ret v)) s') (λe s'=>R (.error e) s') s):=
 .of_wp λA R s a=>by
  refine AA ?_
  refine AA (wpAny_notOrdered_dict a.1 ?_)
  refine AH ?_
  show wpAny _ _ (if (d == sysModules)=true then _ else(dictSetDefault d key y >>= _)) _ _ s
  rw[AL (by rw[b];exact EB)]
  exact AA (BW a.2 (λv s' q=>AH ⟨v,rfl,q⟩) λ_ _ q=>q)
end _a
variable{y:Nat}
namespace _f
def aWA(X:Cx):V->L9 V->Hp->VK->Prop:=λx xs H Q=>∃ p es k kv y,x=.ref p/\xs=[kv,y]/\DicAt X H p es k kv/\es.length<=sizeLine/\(∀ v,atE es k=some v->Q v H)/\(atE es k=none->∀ ep,Q y (upd H p (gN X.w p (oW es k kv y) ep)))
section
variable{X:Cx}{c:Ct}{E:XK}{e a b:Ez}{st:Stmt}{pos:Pos}
theorem aWB(M:X.A.units+64 < cLine):MtR X "dict.setdefault" (aWA X):=by
 intro ap s Z H x xs v us Q I L G h
 obtain⟨p,es,k,kv,y,rfl,rfl,D,O,r⟩:=h
 cases((L))
 cases G with
 | @cons _ ku _ us r1 t=>
  cases t with
  | @cons _ yu _ us r2 t=>
   cases t
   have d:s.TypeIs (.ref p) "dict":=by
    obtain⟨ep,l⟩:=D.o
    obtain⟨⟨_,o,m,h1,h2,_⟩,_,_⟩:=((I.hok p _ l))
    exact⟨o,h1,h2.1⟩
   obtain⟨q,⟨b,xs,rfl,rfl,i,u,dd⟩|⟨f,xs,rfl,rfl,i,u,dd⟩⟩:=D.cases I r1
   .have J:xs.length<=sizeLine:=by rw[<-Paired.length i];ext
    have a:=pI (k:=k) i
    refine call_meetsIn DQ d E3 (EZ _ _ _) (aDT q) ⟨d,aR9 (mG M) u dd (λN C=>?_) (λC h' g E=>?_) J⟩
    .rw[C]at a
     cases e:atE es k with
     | none=>rw[e]at a;cases a
     | some z=>
      rw[e]at a
      exact⟨_,H,I.tok _,a,r.1 z e⟩
    .rw[C]at a
     have e:atE es k=none:=by
      cases e:atE es k with
      | none=>rfl
      | some z=>rw[e]at a;cases a
     obtain⟨j,m,ep,c⟩:=g
     obtain⟨B,l⟩:=D.o
     refine⟨y,_,m6 I (by rw[l];exact True.intro) E ⟨j,c.1⟩ (kG q ⟨j,m,c.1,c.2.1,c.2.2.1,?_⟩),r2,r.2 e ep⟩
     rw[c.2.2.2.1]
     exact qM (aH2 r2 i)
   .have a:=pJ (k:=f) i
    refine call_meetsIn DQ d E3 (EZ _ _ _) (aDT q) ⟨d,aN6 u dd (λv n=>?_) (λn h' g E=>?_) (by rw[<-Paired.length i];ext)⟩
    .rw[n]at a
     cases e:atE es (iQ f)with
     | none=>rw[e]at a;cases a
     | some z=>
      rw[e]at a
      exact⟨_,H,I.tok _,a,r.1 z e⟩
    .rw[n]at a
     have e:atE es (iQ f)=none:=by
      cases e:atE es (iQ f)with
      | none=>rfl
      | some z=>rw[e]at a;cases a
     have pv:=aH3 (k:=f) r2 i
     have w:stored xs f yu=xs++[(f,yu)]:=by
      unfold stored
      rw[AL]
      intro z
      obtain⟨kv,h1⟩:=List.any_eq_true.mp z
      exact pP n (A1.mpr ⟨kv,h1.1,BC h1.2⟩)
     rw[w]at pv
     obtain⟨j,m,ep,c⟩:=g
     obtain⟨B,l⟩:=D.o
     refine⟨y,_,m6 I (by rw[l];exact True.intro) E ⟨j,c.1⟩ (kG (ep:=ep) q ⟨j,m,c.1,c.2.1,c.2.2.1,?_⟩),r2,r.2 e ep⟩
     exact qN pv c.2.2.2.2.1 λK F=>c.2.2.2.1 K (by simpa using F)
def uT(i:Nat)(f g:Sg->R D4):Sg->R Fw:=λY=>match Y[i]? with
 | some (some (.m a0))=>(f Y).bind λk=>(g Y).bind λy=>if bU k (a0.map (·.1))=true/\a0.length<=16777216 then .ok (.nx (if b7 a0 k=true then Y else Y.set i (some (.m (putM a0 k y)))))else .bad
 | _=>.bad
theorem aSA{f g:Sg->R D4}(M:X.K=c.K)(t:X.w=c.w)(h:PS X st (xH (aVZ X "dict" (aWA X) (g7 i) (c6 (tV (bO c) c E f) (c6 (tV (bO c) c E g) gK))))):PSf X c E st (uT i f g):=PS.imp h λD Z H ⟨Y,F,ab,k⟩=>by
 unfold uT at k
 split at k
 .rename_i l hi
  obtain⟨_,A,p,es,rfl,⟨P,C⟩,_⟩:=ab.slot i _ hi
  refine⟨_,A,λap s v I r=>?_,Y,F,ab,(Rk.bind k).imp λd _ q v L H1 s1 r1=>?_⟩
  .cases ((r))
   rw[<-t]at C
   obtain⟨⟨_,o,S,h1,h2,_⟩,_,_⟩:=((I.hok p _ C))
   exact⟨⟨o,h1,h2.1⟩,λa z=>by cases z;exact⟨o,h1,h2.2.1⟩⟩
  .refine ⟨Y,L,ab.ext s1,((Rk.bind q).ext s1).imp λy _ q u G H2 x r2=>?_⟩
   split at q
   .rename_i B
    have b:=s1.trans x
    obtain⟨Q,n,j,e⟩:=aB3 M t (ab.ext b) hi (DatV.same x.ff r1) B.1
    rw[A]at j
    cases j
    refine⟨p,n,d,v,u,rfl,rfl,e.1,?_,λz O=>?_,λO=>?_⟩
    .have:=by have:=DD length e.2.k1;simpa using this
     rw[this];exact B.2
    .have m:b7 l d=true:=by
      rcases(get_rel (k:=d) e.2.k1 e.2.vs)with ⟨N,_⟩|⟨_,_,_,J,_⟩
      · ext
      · unfold b7; rw [J]; rfl
     rw[AJ m]at q
     exact Rk.ok q Z G _ b.ff (ab.ext b)
    .have m:¬ b7 l d=true:=by
      rcases(get_rel (k:=d) e.2.k1 e.2.vs)with ⟨_,J⟩|⟨_,_,N,_,_⟩
      · unfold b7; simp_all
      ext
     rw[AL m]at q
     intro P
     rw[t]
     exact Rk.ok q Z G _ b.ff ((ab.ext b).putM hi A (e.2.put (DatV.same x.ff r1) r2))
   .exact q.elim
 .exact k.elim
end
end _f
namespace _g
theorem aLB(v:V9)(o:Obj) :
  Meets (Builtin.«enumerate.__new__» ⟨[.type "enumerate",v],[]⟩) (λ_ R s=>nR v o s.heap /\
   R (.ok (.ret (.ref (s.heap.push o).objs.size))) {s with heap:=(s.heap.push o).push {cls:=.type "enumerate",data:=.fields #[.none,.bool false,.ref s.heap.objs.size,rawInt 0,.none,.none]}}):=
 .of_wp λprog w A R s h=>by
  obtain⟨a,g,d,b,os⟩:=s;obtain⟨j,h⟩:=h
  have e:=sub_enumerate
  have f:∀ {A:U9} {E:V9->S9->Prop} {Q:V9->S9->Prop},Q (.ref a.objs.size) ⟨a.push o,g,d,b,os⟩->wpAny (model prog w) A (pyIter v) Q E ⟨a,g,d,b,os⟩:=λi=>j prog w _ _ ⟨a,g,d,b,os⟩ _ rfl i
  wp_walk
  refine wpAny_stack_any λst=>AH ?_
  split
  .rename_i c _ _ _ _ _
   cases(c == Value.type "enumerate")<;>(wp_walk using f;exact⟨_,rfl,h⟩)
  .wp_walk using f
   exact⟨_,rfl,h⟩
theorem aN7{w:W9}{A:U9}(h1:nR v o s.heap)(c:o.isFreed=false)
  (h:∀ h',IsEnum h' (s.heap.objs.size+1) s.heap.objs.size 0 .none->h'.get? s.heap.objs.size=some o->h'.objs.size=s.heap.objs.size+2->(∀ b o,s.heap.get? b=some o->h'.get? b=some o)->Q (.ref (s.heap.objs.size+1)) {s with heap:=h'}) :
  wpAny (model prog w) A (call (.type "enumerate") [v]) Q E s:=by
 refine callType_new F.called_enumerate (by rfl) (F.typeCall_enumerate_1 _) (F.newCall_enumerate_1 _) (λobj=>F.args_object_init_2 obj _) F.entry_enumerate_new (aLB v o) ⟨h1,?_⟩
 rw[(BP ..)]
 have a:=by
  have q:=AY (s.heap.push o) (o:={cls:=.type "enumerate",data:=.fields #[.none,.bool false,.ref s.heap.objs.size,rawInt 0,.none,.none]}) rfl
  rw[(BP ..)]at q;ext
 exact⟨⟨_,a,rfl⟩,h _ a (AB _ (AY _ c)) (by rw[BP,(BP ..)]) λb o y=>AB _ (AB _ y)⟩
end _g
variable{s:Int×Int}
namespace _a
variable{es:L9 Ez}
def Itn(C:Col):It:=
 ⟨λi H=>∃ xs,C H xs/\i < xs.length,λi H x H'=>∃ p v,H p=none/\x=.ref p/\H'=upd H p (.tup [.int i,v])/\∀ xs,C H xs->xs[i]? = some v,λi H=>∃ xs,C H xs/\i=xs.length⟩
theorem aLC{w:W9}{k1}{C:Col}{e:Az}{tn:Nat->Hz->Prop}(c:ColOk P w K C it tn)(p:e≠it) :
  Turn P w K (.Tuple es k1 tpos) (Itn C) [e,it] e (λi h=>(∃ old,IsEnum h e it i old)/\tn i h) where
 mem:=by simp
 obj:=λi h st b a=>by
  obtain⟨⟨old,s1⟩,l⟩:=st
  rcases AV.mp a with z|z
  .grind
  .obtain rfl:b=it:=by simpa using z
   exact c.obj i h l
 keep:=λi h h' st k=>by
  obtain⟨⟨old,s1⟩,l⟩:=st
  exact⟨⟨old,k e (by simp) _ s1⟩,c.keep i h h' l λo q=>k it (by simp) o q⟩
 item:=by
  intro X y B F hc i ap s Z H E I g st R
  obtain⟨⟨old,s1⟩,l⟩:=st
  obtain⟨xs,N,L⟩:=R
  have v:X.A.in1.handled=none:=I.ok.hd hc
  obtain⟨fp,Pv,S,D,a1,a2,a3,a4⟩:=c.draw X y B F i ap s Z H xs X.A.in1 I (g it (by simp)) l N v
  have one:=λzs (h:C H zs)=>c.one X y B F ap s Z H zs xs I h N
  subst y B F
  obtain⟨o2,T,_⟩:=c.obj _ _ l
  refine GI D s1 a1 L p (a4 e (g e (by simp)) p) λu h' O pu so si st ae kp=>?_
  obtain⟨x,Q,ru⟩:=a3 i u pu
  refine⟨_,rfl,FJ so λh2 se V=>?_⟩
  have aa:s.heap.objs.size≠e:=CJ (AQ s1)
  have ac:h2.get? s.heap.objs.size=some {cls:=.type "tuple",data:=.seq #[.int i O,u]}:=(V.2 _ aa).trans st
  have Y:H s.heap.objs.size=none:=I.hok.fresh (AM _)
  have f:∀ b o,b∉[e,it]->s.heap.get? b=some o->h2.get? b=some o:=λb o a q=>by
   simp only[AV,B8,DE,not_or]at a
   exact(V.2 b a.1).trans (kp b o a.1 a.2 q)
  have af:∀ b j,H b=some j->b∉[e,it]:=λb j q M=>by rw[(g b M).1]at q;cases q
  have J:HOk X.prog X.w H h2:=λb j q=>by
   refine(I.hok b j q).stay (λc' v' d q'=>f c' v' ?_ q') (λ_ q=>q) (λ_ _ q=>q) λ_ _ q=>q
   ext
  have G:HOk X.prog X.w (upd H s.heap.objs.size (.tup [.int i,x])) h2:=HOk.track J Y ⟨by show 2<=sizeLine;decide,[.int i O,u],.cons ⟨_,rfl⟩ (.cons ru .nil),⟨_,ac,⟨rfl,rfl⟩,_,rfl⟩⟩
  have t:∀ b j,H b=some j->b≠s.heap.objs.size:=λb j q=>a9 q Y
  have I2:Inv X ap Z (upd H s.heap.objs.size (.tup [.int i,x])) {s with heap:=h2,gens:=s.gens,drawn:=s.drawn,toks:=O+1}:=by
   refine I.step (ch:=[e,it]) (λb a=>?_) (λb o _ _ d q _=>f b o d q) (λb o _ _ d q _=>⟨o.slots,f b o d q⟩)
    (λb o _ q n=>by rw[aG (BG (AQ q))];exact n) (λb o d q=>⟨o,f b o d q⟩) (λb ys q=>by rw[aG (t b _ q)];exact q) (λb o j q=>by rw[aG (t b _ q)];exact q)
    (λb ps q=>by rw[aG (t b _ q)];exact q) (λm hm=>?_) G I.bare
   .obtain ⟨e0,e1,e2,e3,e4,e5⟩:=g b a
    ext
   .obtain ⟨o,W,ep,ho,r⟩:=hm
    exact⟨o,W,ep,f _ o (λM=>(g _ M).2.1 rfl) ho,r⟩
  refine⟨.ref s.heap.objs.size,_,I2,rfl,⟨_,x,Y,rfl,rfl,λzs U=>by rw[one zs U];exact Q⟩,⟨⟨_,by simpa using se⟩,c.keep _ _ _ (a2 _ _ si) λo q=>(V.2 it p.symm).trans q⟩,λb a=>?_⟩
  rw[aG]
  .exact (g b a).1
  .intro M
   have L:b < s.heap.objs.size:=by
    simp only[AV,B8,DE]at a
    rcases a with rfl|rfl
    · ext
    · exact AQ T
   ext
 done:=by
  intro X y B F hc i ap s Z H E I g st R
  obtain⟨⟨old,s1⟩,l⟩:=st
  obtain⟨xs,N,rfl⟩:=R
  have v:X.A.in1.handled=none:=I.ok.hd hc
  obtain⟨fp,Pv,S,D,a1,a2,a3,a4⟩:=c.draw X y B F _ ap s Z H xs X.A.in1 I (g it (by simp)) l N v
  subst y B F
  obtain⟨g0,g1,g2,g3,g4,g5⟩:=g it (by simp)
  exact GS D s1 a1 λh' eb=>⟨rfl,I.turned (t':=s.toks) (λb o a q=>eb b o a q) g0 g1 g3 g4 g5⟩
 self:=λ_ _ _ _ _ st h=>EI st.1.choose_spec h
def aP0(K:Frag)(ta:TA):TI:=λZ H R=>ta Z H λvs H1=>∃ x C,vs=[x]/\z9 K H1 x C/\R (Itn C) H1
theorem aSB{X:Cx}{k1}{a:Ez}{ta:TA}{p pos:Pos}(j:Gl X "enumerate")(n:X.mg "enumerate"=none)(o:PA X [a] ta)(m:autoParam (starEach [a] X.env=[(false,eval a X.env)]) z3) :
  PI X (.Tuple es k1 tpos) (.Call (.Name "enumerate" p) [a] [] pos) (aP0 X.K ta):=by
 intro ap s Z H R I h
 refine Call_ (mC I j n E9 (CC (thn (o pos ap s Z H _ I h) λus s1 f=>?_) m rfl))
 obtain⟨vs,H1,c,r1,t⟩:=f
 obtain⟨x,C,rfl,g⟩:=t
 obtain⟨u,rfl,q⟩:=qF r1
 obtain⟨y,w,d⟩:=wS c q g.1
 refine _g.aN7 (d.1 _ λ_ _ e=>e) d.2.1 λh' i k v r=>?_
 refine EI i ?_
 refine⟨s1.heap.objs.size+1,[s1.heap.objs.size+1,s1.heap.objs.size],_,_,H1,rfl,(c.kept (t':=s1.toks) r),aLC (d.2.2.1 _) (CJ (DC _)),⟨⟨_,i⟩,d.2.2.2 _ _ k⟩,λb l=>?_,g.2⟩
 rcases AV.mp l with z|z
 .subst z
  exact c.fpOk (E8 _) (c.hok.fresh (E8 _))
 .obtain rfl:=by simpa using z
  exact c.fpOk (AM _) (c.hok.fresh (AM _))
end _a
namespace _f
def aAA(p:D4×Nat):D4:=.tuple [.int (p.2:Int),p.1]
def uU(x:D4):R (L9 D4):=(aP x).bind λxs=>.ok (xs.zipIdx.map aAA)
theorem aSC{F B:Hp}{C:Col}{us:L9 V}{xs:L9 D4}(hz:xs.length<=16777216)(h1:∀ H1,aD F H1->aD B H1->C H1 us)(d1:DatVs K F us xs):Yld K (Itn C) F B (xs.zipIdx.map aAA) where
 len:=by rw[fQ,AC,EC];exact hz
 go:=λi f H1 b a d hi=>by
  rw[AC,EC]at hi
  have c:aD F H1:=λx o z=>a x o (b x o z)
  exact⟨us,h1 H1 c d,by rw[d1.length];exact hi⟩
 yld:=λi f H1 v H2 x b a d y e=>by
  obtain⟨p,u,g,rfl,rfl,j⟩:=y
  have c:aD F H1:=λx o z=>a x o (b x o z)
  obtain⟨dx,e1,r1⟩:=d1.get (j us (h1 H1 c d))
  rw[AE,List.getElem?_zipIdx,e1]at e
  simp only[Option.map_some,GB]at e
  cases e
  have h:=aD.upd (o:=.tup [.int i,u]) (aU a g)
  exact⟨_,Ext.new a g,.tup (SqT.of aO) (.cons (.int _) (.cons ((r1.same b).same h) .nil))⟩
 stop:=λf H1 b a d=>by
  have c:aD F H1:=λx o z=>a x o (b x o z)
  refine⟨us,h1 H1 c d,?_⟩
  rw[AC,EC,d1.length]
section
variable{X:Cx}{c:Ct}{E:XK}{tg e:Ez}
theorem aSD{f:Sg->R D4}(i:X.K=c.K)(h:PI X tg e (aP0 X.K (c6 (tV (bO c) c E f) gK))):PI0 X c E tg e (e1 uU f):=PI.imp h λZ H Q a=>by
 obtain⟨Y,F,ab,k⟩:=a
 refine⟨Y,F,ab,(Rk.bind k).imp λx _ q v d H' s r=>?_⟩
 unfold uU at q
 cases e1:aP x with
 | bad=>rw[e1]at q;exact q.elim
 | ex e=>exact absurd e1 mJ
 | ok xs=>
  rw[e1]at q
  obtain⟨g,us,b⟩:=wV s.fh r e1
  rw[i]
  exact⟨v,g,rfl,b.1,Rk.ok q _ d H' s (aSC (q9 e1) (λH1 z _=>b.2.1 H1 z) b.2.2)⟩
end
end _f
namespace _g
end _g
namespace _f
section
variable{X:Cx}{c:Ct}{E:XK}{tg e:Ez}
end
end _f
namespace _b
end _b
namespace _f
end _f
namespace _a
end _a
namespace _e
open _f
def yB:Sg->R Fw:=(aM (vD (e1 dLen (e2 dIx (e2 dIx (rV 0) (eC (.int 0))) (eC (.int 1))))))
def c7:L9 A->R A:=fnF 1 yB
def yC:Sg->R Fw:=(aM (vD (eL (bK [none,some 1] (e1 aP (rV 0)) (stN 0) cF (e2 dIx (e2 dIx (rV 0) (eC (.int 1))) (rV 1))))))
def hR:L9 A->R A:=fnF 2 yC
def rhT:Sg->R Bool:=(mQ (e1 asB (e2 dLt (e1 dLen (rV 5)) (e1 dLen (rV 3)))) (wH (e1 asB (aB5 12 2 (aA (rV 3) (aA (e1 dLen (rV 5)) aB))))))
def rhF:Sg->R Fw:=(aC (sIf (e1 asB (kX true 4 (eV 7))) (aC (jZ 4 (eV 7) (e1 dLen (rV 3)))
 (iY 3 (eV 7))) sNx)
 (iY 6 (oJ 4 (eV 7))))
def rhB:Sg->R Fw:=(aC (dG 6 (dI aB))
 (aC (kT (e1 aP (aIC 12 1 (aA (e2 dIx (rV 3) (e1 dLen (rV 5))) aB))) (stN 7) rhF)
 (iY 5 (e1 dTup (rV 6)))))
def aBG:Sg->R Fw:=aC (dG 3 (dI (aA (eV 0) aB))) (aC (x9 4 (aB4 (eV 0) (eC (.int 0)) aIB)) (aC (dG 5 (dI aB)) (aC (aW rhT rhB) (sFz 5 (sFz 3 (aM (vD (bH (aA (eV 3) (aA (eV 5) aB))))))))) )
def fF:L9 A->R A:=fnF 8 aBG
def aLD:Sg->R Fw:=(aM (vD (e1 (kU "str") (rV 0))))
def kK:L9 A->R A:=fnF 1 aLD
def oM:Sg->R Fw:=(aC (aS 1 (vD (e1 dTup (eL (bK [none] (e1 aP (rV 0)) (stN 0) cF (e2 dIx (rV 0) (eC (.int 0))))))))
 (aM (vD (bH (aA (e2 dIx (rV 1) (eC (.int 0))) (aA (eV 1) aB))))))
def fW:L9 A->R A:=fnF 2 oM
def oT:Sg->R Bool:=(wH (e1 asB (eA (aE 1 kK (aA (vV 2) aB)))))
def oB:Sg->R Fw:=(aC (sIf (e1 asB (kX false 3 (eV 2))) (aM (vD (eC (.str "ever")))) sNx)
 (aC (jZ 3 (eV 2) (eC (.bool true)))
 (aC (aS 4 (vD (e2 dIx (rV 1) (rV 2))))
 (aC (sIf (e1 asB (e2 dEq (e2 dIx (rV 4) (eC (.int 1))) (eC (.int 1)))) (aM (vD (e2 dIx (rV 4) (eC (.int 0))))) sNx)
 (aS 2 (vD (e2 dIx (rV 0) (e2 dIx (rV 4) (eC (.int 0))))))))))
def aBH:Sg->R Fw:=aC (kW 3) (aC (aW oT oB) (aM (vV 2)))
def kM:L9 A->R A:=fnF 5 aBH
def aDU:Sg->R Fw:=(aC (aS 2 (aE 3 kM (aA (vD (e2 dIx (rV 0) (eC (.int 1)))) (aA (vV 1) (aA (vD (e2 dIx (rV 0) (eC (.int 0)))) aB)))))
 (aC (aS 3 (vD (e1 dTup (eL (bK [none,some 0,some 1] (dR (e1 dLen (rV 1))) (stN 0) cF (eA (aE 3 kM (aA (vD (e2 dIx (rV 1) (eC (.int 1)))) (aA (vV 2) (aA (vV 0) aB))))))))))
 (aM (vD (bH (aA (eV 2) (aA (eV 3) aB)))))))
def gE:L9 A->R A:=fnF 4 aDU
def wT:Sg->R Bool:=(wH (e1 asB (eA (aE 1 kK (aA (vV 2) aB)))))
def wB:Sg->R Fw:=(aC (sIf (e1 asB (kX false 3 (eV 2))) (aM (vD (eC (.str "ever")))) sNx)
 (aC (jZ 3 (eV 2) (eC (.bool true)))
 (aC (aS 4 (vD (e2 dIx (e2 dIx (rV 0) (rV 2)) (eC (.int 2)))))
 (aS 2 (vD (eIf (e1 asB (eA (aE 1 kK (aA (vV 4) aB)))) (eV 4) (e2 dIx (e2 dIx (rV 1) (eC (.int 1))) (rV 4))))))))
def rQ:Sg->R Fw:=aC (aS 2 (vD (e2 dIx (rV 1) (eC (.int 0))))) (aC (kW 3) (aC (aW wT wB) (aM (vV 2))))
def dS:L9 A->R A:=fnF 5 rQ
def j9:Sg->R Fw:=(aM (vD (eL (bK [none,some 0] (e1 aP (rV 1)) (stN 0) cF (eA (aE 2 gE (aA (vV 1) (aA (vV 0) aB))))))))
def kY:Sg->R Fw:=(aM (vD (e2 dGt (e1 dLen (rV 0)) (eC (.int 200)))))
def vP:Sg->R Fw:=(aC (kT (e1 aP (eV 2)) (stN 3) (aS 1 (vD (e2 dIx (e2 dIx (e2 dIx (rV 0) (eC (.int 0))) (rV 1)) (e2 iZ (eC (.str "abc")) (rV 3))))))
 (aM (vV 1)))
def jU:L9 A->R A:=fnF 4 vP
def aBI:Sg->R Fw:=(aC (aS 3 (vD (e2 dIx (rV 2) (eC (.int 0)))))
 (aC (aS 4 (vD (e2 dIx (rV 0) (e2 dIx (rV 2) (eC (.int 1))))))
 (aC (sIf (e1 asB (e2 dEq (rV 3) (eC (.int 0)))) (aM (vD (bH (aA (e2 dIx (rV 4) (eC (.int 0))) (aA (eC (.int 1)) aB))))) sNx)
 (aC (sIf (e1 asB (e2 dEq (rV 3) (e2 bJ (e1 dLen (rV 1)) (eC (.int 1))))) (aM (vD (bH (aA (e2 dIx (rV 4) (eC (.int 2))) (aA (e1 dNeg (eC (.int 1))) aB))))) sNx)
 (aM (vD (e2 dIx (e2 dIx (rV 4) (eC (.int 1))) (e2 iZ (eC (.str "abc")) (e2 dIx (rV 1) (e2 dSub (rV 3) (eC (.int 1))))))))))))
def mK:L9 A->R A:=fnF 5 aBI
def aGA:Sg->R Fw:=(aC (aS 1 (vD (e1 dTup (eL (bK [none] (dR (rV 0)) (stN 0) cF (bH (aA (eC (.int 1)) (aA (eV 0) aB))))))))
 (aC (aS 2 (vD (e1 dTup (eL (bK [none] (dR (rV 0)) (stN 0) cF (bH (aA (e1 dNeg (eC (.int 1))) (aA (eV 0) aB))))))))
 (aM (vD (bH (aA (eV 1) (aA (eV 2) aB)))))))
def uV:L9 A->R A:=fnF 3 aGA
def gT:Sg->R Bool:=(mQ (e1 asB (e2 dIsnt (rV 2) (eC .none))) (e1 asB (e2 dEq (e2 dIx (rV 2) (eC (.int 0))) (rV 3))))
def gB:Sg->R Fw:=(aC (sIf (e1 asB (kX false 4 (eV 2))) (aM (vD (eC .none))) sNx)
 (aC (jZ 4 (eV 2) (eC (.bool true)))
 (aC (aS 2 (vD (eIf (e1 asB (e2 dEq (rV 3) (eC (.int 1)))) (e2 dIx (e2 dIx (rV 1) (eC (.int 0))) (e2 dIx (rV 2) (eC (.int 1)))) (e2 dIx (e2 dIx (rV 0) (eC (.int 1))) (e2 dIx (rV 2) (eC (.int 1)))))))
 (aS 3 (vD (e1 dNeg (rV 3)))))))
def aIH:Sg->R Fw:=aC (kW 4) (aC (aW gT gB) (aM (vV 2)))
def hU:L9 A->R A:=fnF 5 aIH
def aDV:Sg->R Fw:=(aC (aS 2 (vD (e1 dTup (eL (bK [none,some 0,some 1] (e1 aP (e2 dIx (rV 0) (eC (.int 0)))) (stN 0) cF (eA (aE 4 hU (aA (vV 1) (aA (vV 2) (aA (vV 0) (aA (vD (eC (.int 1))) aB)))))))))))
 (aC (aS 3 (vD (e1 dTup (eL (bK [none,some 0,some 1] (e1 aP (e2 dIx (rV 1) (eC (.int 1)))) (stN 0) cF (eA (aE 4 hU (aA (vV 1) (aA (vV 2) (aA (vV 0) (aA (vD (e1 dNeg (eC (.int 1)))) aB)))))))))))
 (aM (vD (bH (aA (eV 2) (aA (eV 3) aB)))))))
def lO:L9 A->R A:=fnF 4 aDV
def sdT:Sg->R Bool:=(mQ (e1 asB (e2 dIsnt (rV 2) (eC .none))) (e1 asB (kX true 3 (eV 2))))
def sdB:Sg->R Fw:=(aC (jZ 3 (eV 2) (eC (.bool true)))
 (aC (aS 4 (vD (e2 dIx (rV 0) (e2 dIx (rV 2) (eC (.int 1))))))
 (aC (aS 5 (vD (eIf (e1 asB (e2 dEq (e2 dIx (rV 2) (eC (.int 0))) (e1 dNeg (eC (.int 1))))) (e2 dIx (rV 4) (eC (.int 0))) (e2 dIx (rV 4) (eC (.int 2))))))
 (aC (sIf (e1 asB (e2 dIn (rV 5) (eC (.tuple [.str "by",.str "out"])))) (aM (vV 5)) sNx)
 (aS 2 (vD (eIf (e1 asB (e2 dEq (e2 dIx (rV 2) (eC (.int 0))) (e1 dNeg (eC (.int 1))))) (e2 dIx (e2 dIx (rV 1) (eC (.int 0))) (rV 5)) (e2 dIx (e2 dIx (rV 1) (eC (.int 1))) (rV 5)))))))))
def aLE:Sg->R Fw:=aC (aS 2 (vD (bH (aA (e1 dNeg (eC (.int 1))) (aA (eC (.int 0)) aB))))) (aC (kW 3) (aC (aW sdT sdB) (aM (vD (eC (.str "ever"))))))
def sQ:L9 A->R A:=fnF 6 aLE
def pQ:Sg->R Fw:=(aM (vD (bH (aA (e2 dIx (rV 0) (eC (.int 2))) (aA (e1 dTup (eL (bK [none] (e1 aP (e2 dIx (rV 0) (eC (.int 1)))) (stN 0) cF (bH (aA (e2 dIx (rV 0) (eC (.int 0))) (aA (e1 dNeg (e2 dIx (rV 0) (eC (.int 1)))) aB)))))) (aA (e2 dIx (rV 0) (eC (.int 0))) aB))))))
def gQ:L9 A->R A:=fnF 1 pQ
def yD:Sg->R Fw:=(aM (vD (e1 dTup (eL (bK [none] (e1 aP (rV 0)) (stN 0) cF (eA (aE 1 gQ (aA (vV 0) aB))))))))
def mV:L9 A->R A:=fnF 1 yD
def yE:Sg->R Fw:=(aM (vD (e1 dLen (e2 dIx (e2 dIx (rV 0) (eC (.int 0))) (eC (.int 0))))))
def mW:L9 A->R A:=fnF 1 yE
def aGB:Sg->R Fw:=(aM (vD (eC (.bool false))))
def kN:L9 A->R A:=fnF 2 aGB
def aDW:Sg->R Fw:=(aC (kW 1)
 (aC (kT (e1 uU (eV 0)) (stT [(stN 2),(stN 3)]) (uT 1 (eV 3) (eV 2)))
 (aM (vD (eL (bK [none,some 1] (e1 aP (rV 0)) (stN 0) cF (oJ 1 (eV 0))))))))
def kA:L9 A->R A:=fnF 4 aDW
def lP:Sg->R Fw:=(aM (vD (e1 dTup (eL (bK [none,some 0] (e1 aP (rV 1)) (stN 0) cF (e2 dIx (rV 1) (rV 0)))))))
def cD:L9 A->R A:=fnF 2 lP
def aGC:Sg->R Fw:=(aM (aE 1 kA (aA (vD (eL (bK [none,none,some 1] (e2 mR (rV 1) (rV 0)) (stT [(stN 0),(stN 1)]) cF (bH (aA (eV 0) (aA (eA (aE 2 cD (aA (vV 2) (aA (vV 1) aB)))) aB)))))) aB)))
def pR:L9 A->R A:=fnF 2 aGC
def arT:Sg->R Bool:=(e1 asB (e2 dNe (rV 2) (rV 1)))
def arB:Sg->R Fw:=(aC (aS 1 (vV 2)) (aS 2 (aE 2 pR (aA (vD (e2 dIx (rV 0) (eC (.int 0)))) (aA (vV 1) aB)))))
def rR:Sg->R Fw:=(aC (aS 1 (aE 1 kA (aA (vD (e2 dIx (rV 0) (eC (.int 1)))) aB)))
 (aC (aS 2 (aE 2 pR (aA (vD (e2 dIx (rV 0) (eC (.int 0)))) (aA (vV 1) aB)))) (aC (aW arT arB) (aM (vV 1)))))
def dU:L9 A->R A:=fnF 3 rR
def eE:Sg->R Fw:=(aM (aE 2 cD (aA (vV 1) (aA (vD (e2 dIx (e2 dIx (rV 2) (eC (.int 0))) (rV 0))) aB))))
def aAB:Sg->R Fw:=(aC (aS 1 (aE 1 dU (aA (vV 0) aB)))
 (aC (uR 2 "least.<locals>.after")
 (aC (aS 3 (pO [1,0] 3 fF (aA (vD (e2 dIx (rV 1) (eC (.int 0)))) (aA (uS "least.<locals>.after" [1,0] 2 1 (eX 3 eE) 2) (aA (aIF 1 2 kN) aB)))))
 (aM (vD (bH (aA (e1 dTup (e2 dIx (rV 3) (eC (.int 1)))) (aA (e1 dTup (eL (bK [none,some 0] (e1 aP (e2 dIx (rV 3) (eC (.int 0)))) (stN 0) cF (e2 dIx (e2 dIx (rV 1) (eC (.int 1))) (rV 0))))) aB))))))))
def m8:L9 A->R A:=fnF 4 aAB
def oN:Sg->R Fw:=(aM (vD (eIf (e1 asB (e2 dEq (rV 0) (eC (.str "ever")))) (eC (.str "out")) (eV 0))))
def fX:L9 A->R A:=fnF 1 oN
def pS:Sg->R Fw:=(aC (aS 2 (vD (eIf (e1 asB (e2 dEq (rV 1) (eC (.int 0)))) (eC (.int 0)) (eC (.str "out")))))
 (aM (vD (bH (aA (eV 2) (aA (e1 dTup (eL (bK [none] (e1 aP (e2 dIx (e2 dIx (rV 0) (eC (.int 0))) (rV 1))) (stN 0) cF (bH (aA (eV 0) (aA (eC (.int 1)) aB)))))) (aA (e2 dIx (e2 dIx (rV 0) (eC (.int 1))) (rV 1)) aB)))))))
def gR:L9 A->R A:=fnF 3 pS
def nS:Sg->R Fw:=(aM (vD (eIf (e1 asB (e2 dIn (rV 0) (eC (.tuple [.str "by",.str "out"])))) (eV 0) (e2 bJ (rV 0) (rV 1)))))
def gS:L9 A->R A:=fnF 2 nS
def vQ:Sg->R Fw:=(aC (aS 2 (vD (e1 dTup (eL (bK [none,some 1] (e1 aP (e2 dIx (rV 0) (eC (.int 1)))) (stN 0) cF (bH (aA (e2 bJ (e2 dIx (rV 0) (eC (.int 0))) (rV 1)) (aA (e2 dIx (rV 0) (eC (.int 1))) aB))))))))
 (aM (vD (bH (aA (eA (aE 2 gS (aA (vD (e2 dIx (rV 0) (eC (.int 0)))) (aA (vV 1) aB)))) (aA (eV 2) (aA (eA (aE 2 gS (aA (vD (e2 dIx (rV 0) (eC (.int 2)))) (aA (vV 1) aB)))) aB)))))))
def jV:L9 A->R A:=fnF 3 vQ
def aGD:Sg->R Fw:=(aM (vD (eL (bK [none,some 1] (e1 aP (rV 0)) (stN 0) cF (eA (aE 2 jV (aA (vV 0) (aA (vV 1) aB))))))))
def uW:L9 A->R A:=fnF 2 aGD
end _e
namespace _e
variable{rs:L9 Rw}
def jW(k:Nat)(rs:L9 Rw):Tb:=⟨rs.map λr=>some ((r.c.getD k (0,0)).2,(r.c.getD k (0,0)).1),rs.map λr=>some ((r.c.getD k (0,0)).2,(r.c.getD k (0,0)).1)⟩
theorem aN8(k:Nat)(rs:L9 Rw):tbD (jW k rs)=aHW (aHX k rs) (aHX k rs):=by
 unfold tbD jW aHX
 rw[A6];rfl
theorem m9{r:Rw}(M:Mach rs sg)(hr:r∈rs)(a:k < sg):r.c[k]? = some (r.c.getD k (0,0))/\nG rs.length (r.c.getD k (0,0)):=by
 have h:=M.row r hr
 exact⟨(by rw[AK,AI (by simp_all)];rfl),h.1.2.2 _ (AD (by rw[AK,AI (by simp_all)];rfl))⟩
theorem aH.take(S:aH sg z)(i:Nat):aH sg (z.take i):=⟨by rw[B6];have:=S.1;ext,λc a=>S.2 c (E1 a)⟩
def aII(rs:L9 Rw)(z:L9 Nat)(s:Int×Int):Prop:=1<=s.1/\s.1<=(z.length:Int)/\0<=s.2/\s.2 < (rs.length:Int)
theorem aII.valid(h:aII rs z s):bM rs z s:=⟨by have:=h.1;ext,by have:=h.2.1;ext,h.2.2⟩
theorem aLF(M:Mach rs sg)(S:aH sg z)(V:aII rs z s):∃ ch cc,z[s.1.toNat - 1]? = some ch/\bD sg ch=true/\z.getD (s.1.toNat - 1) 97=ch/\(aJ rs s.2).c[ch - 97]? = some cc/\(aJ rs s.2).c.getD (ch - 97) (0,0)=cc/\nG rs.length cc:=by
 have d:s.1≠0:=by have:=V.1;ext
 have h1:s.1≠z.length+1:=by have:=V.2.1;ext
 obtain⟨ch,a⟩:=uH S V.valid d h1
 obtain⟨cc,e,b,f⟩:=lK M S V.valid d h1
 rw[a.2.2]at e b
 exact⟨ch,cc,a.1,a.2.1,a.2.2,e,b,f⟩
theorem yF(l:L9 Nat)(a:Nat):∀ n:Nat,a+n<=l.length->((range n).map λk=>a+k).filterMap (λi=>l[i]?)=(l.drop a).take n
 | 0,_=>rfl
 | n+1,h=>by
  rw[List.range_succ,BL,GV,yF l a n (by ext),CU,List.getElem?_drop]
  rfl
theorem aBJ{z:Str}{a b:Nat}(h1:a<=b)(h2:b<=z.cps.toList.length):Txt.slice z (some (a:Int)) (some (b:Int))=⟨((z.cps.toList.drop a).take (b - a)).toArray⟩:=by
 have g:z.length=z.cps.toList.length:=by rfl
 unfold Txt.slice
 rw[StrLaws.strSliceIndices_plain h1 (by simp_all)]
 have e:((range (b - a)).map λk=>a+k).filterMap (λi=>z.cps[i]?)=(z.cps.toList.drop a).take (b - a):=by
  rw[<-yF z.cps.toList a _ (by ext)]
  simp
 rw[e]
 by_cases h:(1 == 1 && (((range (b - a)).map λk=>a+k).length == z.length))=true
 .have f:b - a=z.length:=by
   ext
  have d:a=0:=by ext
  have c:b=z.cps.toList.length:=by ext
  have e2:(z.cps.toList.drop a).take (b - a)=z.cps.toList:=by rw[d,c,List.drop_zero,Nat.sub_zero,CG (AM _)]
  simp_all
 ext
theorem aIJ{z:Str}(h:i<=z.cps.toList.length):Txt.slice z none (some (i:Int))=⟨(z.cps.toList.take i).toArray⟩:=by
 have e:Txt.slice z none (some i)=Txt.slice z (some ((0:Nat))) (some i):=by rfl
 rw[e,aBJ (B5 _) h];rfl
theorem aIK{z:Str}(h:i<=z.cps.toList.length):Txt.slice z (some (i:Int)) none=⟨(z.cps.toList.drop i).toArray⟩:=by
 have a:z.length=z.cps.toList.length:=by rfl
 have e:Txt.slice z (some i) none=Txt.slice z (some i) (some (z.cps.toList.length)):=by unfold Txt.slice;rw[StrLaws.sliceIdx_none_hi,a]
 rw[e,aBJ h (AM _),CG (by simp)]
end _e
variable{i:Int}
namespace _f
variable{lo hi:O9 Int}{Y:Sg}
@[simp] theorem dH(d:D4)(Y:Sg):eC d Y=.ok d:=id rfl
@[simp] theorem dM(g:α->R β)(f:Sg->R α)(Y:Sg):e1 g f Y=(f Y).bind g:=id rfl
@[simp] theorem eM{γ:Type}(g:α->β->R γ)(f:Sg->R α)(a:Sg->R β)(Y:Sg):e2 g f a Y=(f Y).bind λx=>(a Y).bind λy=>g x y:=id rfl
@[simp] theorem kZ(i:Nat)(Y:Sg):eV i Y=match Y[i]? with|some (some (.d x))=>.ok x|_=>.bad:=id rfl
@[simp] theorem c8(i:Nat)(Y:Sg):rV i Y=match Y[i]? with|some (some (.d x))=>.ok x|some (some (.l xs))=>.ok (.list xs)|_=>.bad:=id rfl
@[simp] theorem fC(i:Nat)(Y:Sg):vV i Y=match Y[i]? with|some (some (.d x))=>.ok (.d x)|some (some (.x e))=>.ok (.x e)|some (some (.g k n f))=>.ok (.g k n f)|some (some (.f a0))=>.ok (.f a0)|_=>.bad:=id rfl
@[simp] theorem dY(f:Sg->R D4)(Y:Sg):vD f Y=(f Y).bind λx=>.ok (.d x):=id rfl
@[simp] theorem jX(x:D4):getD (.d x)=.ok x:=id rfl
@[simp] theorem k7(f:Sg->R A)(Y:Sg):eA f Y=(f Y).bind getD:=id rfl
@[simp] theorem yG(f:Sg->R (L9 D4))(Y:Sg):eL f Y=(f Y).bind λxs=>.ok (.list xs):=id rfl
@[simp] theorem b6(Y:Sg):(aB (α:=α)) Y=.ok []:=id rfl
@[simp] theorem bY(f:Sg->R α)(g:Sg->R (L9 α))(Y:Sg):aA f g Y=(f Y).bind λx=>(g Y).bind λxs=>.ok (x::xs):=id rfl
@[simp] theorem uX(f:Sg->R (L9 D4))(Y:Sg):bH f Y=(f Y).bind λxs=>if xs.length<=16777216 then .ok (.tuple xs)else .bad:=id rfl
@[simp] theorem kO(f:Sg->R (L9 D4))(Y:Sg):dI f Y=(f Y).bind λxs=>if xs.length<=16777216 then .ok xs else .bad:=id rfl
@[simp] theorem cL(n:Nat)(G:L9 A->R A)(f:Sg->R (L9 A))(Y:Sg):aE n G f Y=(f Y).bind λas=>if as.length=n then G as else .bad:=id rfl
@[simp] theorem cZ(n:Nat)(fb:Sg->R Fw)(b:L9 A):fnF n fb b=(fb (b.map some++replicate (n - b.length) none)).bind λw=>match w with | .rt (.l _)=>.bad | .rt a=>.ok a | .nx _=>.ok (.d .none)|_=>.bad:=id rfl
@[simp] theorem mL(Y:Sg):sNx Y=.ok (.nx Y):=id rfl
@[simp] theorem aN(f g:Sg->R Fw)(Y:Sg):aC f g Y=(f Y).bind λw=>match w with | .nx Y'=>g Y'|w=>.ok w:=id rfl
@[simp] theorem jJ(f:Sg->R A)(Y:Sg):aM f Y=(f Y).bind λa=>.ok (.rt a):=id rfl
@[simp] theorem iI(t:Sg->R Bool)(f g:Sg->R Fw)(Y:Sg):sIf t f g Y=(t Y).bind λb=>if b=true then f Y else g Y:=id rfl
@[simp] theorem aWC(t:Sg->R Bool)(f g:Sg->R α)(Y:Sg):eIf t f g Y=(t Y).bind λb=>if b=true then f Y else g Y:=id rfl
@[simp] theorem cY(i:Nat)(f:Sg->R A)(Y:Sg):aS i f Y=(f Y).bind λa=>.ok (.nx (Y.set i (some a))):=id rfl
@[simp] theorem kB(i:Nat)(f:Sg->R (L9 D4))(Y:Sg):dG i f Y=(f Y).bind λxs=>.ok (.nx (Y.set i (some (.l xs)))):=id rfl
@[simp] theorem aDX(f:Sg->R A)(Y:Sg):uO f Y=(f Y).bind λ_=>.ok (.nx Y):=id rfl
@[simp] theorem aZ7(i:Nat)(f:Sg->R Fw)(Y:Sg):sFz i f Y=f (fz i Y):=id rfl
@[simp] theorem a0H(i:Nat)(Y:Sg):fz i Y=match Y[i]? with|some (some (.l xs))=>Y.set i (some (.d (.list xs)))|_=>Y:=id rfl
@[simp] theorem aAC(i:Nat)(f:Sg->R D4)(Y:Sg):iY i f Y=match Y[i]? with|some (some (.l xs))=>(f Y).bind λx=>if xs.length < 16777216 then .ok (.nx (Y.set i (some (.l (xs++[x])))))else .bad|_=>.bad:=id rfl
@[simp] theorem aSE(fs:D4->Sg->O9 Sg)(f:Sg->R D4)(Y:Sg):qW fs f Y=(f Y).bind λx=>(zU (fs x Y)).bind λY'=>.ok (.nx Y'):=id rfl
@[simp] theorem pT(fi:Sg->R (L9 D4))(fs:D4->Sg->O9 Sg)(fb:Sg->R Fw)(Y:Sg):kT fi fs fb Y=(fi Y).bind λxs=>jO fs fb xs Y:=id rfl
@[simp] theorem nT(js:L9 (O9 Nat))(fi:Sg->R (L9 D4))(fs:D4->Sg->O9 Sg)(ft:Sg->R Bool)(fe:Sg->R D4)(Y:Sg):bK js fi fs ft fe Y=(fi Y).bind λxs=>compL fs ft fe (cK js Y) xs:=id rfl
@[simp] theorem aDY(i:Nat)(x:D4)(Y:Sg):stN i x Y=some (Y.set i (some (.d x))):=id rfl
@[simp] theorem aLG(fs:L9 (D4->Sg->O9 Sg))(xs:L9 D4)(Y:Sg):stT fs (.tuple xs) Y=stL fs xs Y:=id rfl
@[simp] theorem aGE(Y:Sg):stL [] [] Y=some Y:=id rfl
@[simp] theorem aDZ(f:D4->Sg->O9 Sg)(fs:L9 (D4->Sg->O9 Sg))(x:D4)(xs:L9 D4)(Y:Sg):stL (f::fs) (x::xs) Y=(f x Y).bind (stL fs xs):=id rfl
@[simp] theorem aGF(Y:Sg):cF Y=.ok true:=id rfl
@[simp] theorem i5(b:Bool):asB (.bool b)=.ok b:=id rfl
@[simp] theorem aSF(f:Sg->R Bool)(Y:Sg):wH f Y=(f Y).bind λb=>.ok (!b):=id rfl
@[simp] theorem aAD(f g:Sg->R Bool)(Y:Sg):mQ f g Y=(f Y).bind λb=>if b=true then g Y else .ok false:=id rfl
@[simp] theorem aZ8(f g:Sg->R Bool)(Y:Sg):bOr f g Y=(f Y).bind λb=>if b=true then .ok true else g Y:=id rfl
@[simp] theorem sR(g:D4->O9 Int->O9 Int->R α)(f:Sg->R D4)(lo hi:Sg->R (O9 Int))(Y:Sg):eSl g f lo hi Y=(f Y).bind λx=>(lo Y).bind λl=>(hi Y).bind λh=>g x l h:=id rfl
@[simp] theorem sS(Y:Sg):oNo Y=.ok none:=id rfl
@[simp] theorem pU(f:Sg->R D4)(Y:Sg):oSo f Y=(f Y).bind λx=>match x with | .int i=>.ok (some i)|_=>.bad:=id rfl
@[simp] theorem mX(f:Sg->R D4)(Y:Sg):dR f Y=(f Y).bind λx=>match x with | .int j=>fK 0 j|_=>.bad:=id rfl
@[simp] theorem aIL(f g:Sg->R D4)(Y:Sg):zQ f g Y=(f Y).bind λx=>(g Y).bind λy=>match x,y with | .int i,.int j=>fK i j|_,_=>.bad:=id rfl
@[simp] theorem aSG(f:Sg->R D4)(g:Sg->R (O9 Int))(Y:Sg):aNU f g Y=(f Y).bind λx=>(g Y).bind λo=>if o=some (-1)then aDB x else .bad:=id rfl
@[simp] theorem nU(i:Nat)(Y:Sg):kW i Y=.ok (.nx (Y.set i (some (.m [])))):=id rfl
@[simp] theorem aAE(a:Bool)(i:Nat)(f:Sg->R D4)(Y:Sg):kX a i f Y=(f Y).bind λk=>match Y[i]? with|some (some (.m a0))=>if bU k (a0.map (·.1))=true then .ok (.bool (if a=true then !b7 a0 k else b7 a0 k))else .bad|some (some (.f a0))=>if bU k (a0.map (·.1))=true then .ok (.bool (if a=true then !b7 a0 k else b7 a0 k))else .bad|_=>.bad:=id rfl
@[simp] theorem aD0(i:Nat)(f:Sg->R D4)(Y:Sg):oJ i f Y=match Y[i]? with|some (some (.m a0))=>(f Y).bind λk=>if bU k (a0.map (·.1))=true then(match fP a0 k with|some v=>.ok v|none=>.bad)else .bad|some (some (.f a0))=>(f Y).bind λk=>if bU k (a0.map (·.1))=true then(match fP a0 k with|some v=>.ok v|none=>.bad)else .bad|_=>.bad:=id rfl
@[simp] theorem aD1(i:Nat)(f g:Sg->R D4)(Y:Sg):jZ i f g Y=(g Y).bind λv=>match Y[i]? with|some (some (.m a0))=>(f Y).bind λk=>if bU k (a0.map (·.1))=true/\a0.length<=16777216 then .ok (.nx (Y.set i (some (.m (putM a0 k v)))))else .bad|_=>.bad:=id rfl
@[simp] theorem sT(i j:Int):bJ (.int i) (.int j)=.ok (.int (i+j)):=id rfl
@[simp] theorem aLH(i j:Int):dSub (.int i) (.int j)=.ok (.int (i - j)):=id rfl
@[simp] theorem sU(i:Int):dNeg (.int i)=.ok (.int (-i)):=id rfl
@[simp] theorem aIM(i j:Int):dLt (.int i) (.int j)=.ok (.bool (decide (i < j))):=id rfl
@[simp] theorem a0I(i j:Int):dLe (.int i) (.int j)=.ok (.bool (decide (i<=j))):=id rfl
@[simp] theorem a0J(i j:Int):dGt (.int i) (.int j)=.ok (.bool (decide (j < i))):=id rfl
@[simp] theorem a0K(i j:Int):dGe (.int i) (.int j)=.ok (.bool (decide (j<=i))):=id rfl
theorem cC{j:Int}(h:0 < j):dMod (.int i) (.int j)=.ok (.int (i % j)):=AJ h
theorem gU{j:Int}(h:0 < j)(h2:j < 18446744073709551616):dDiv (.int i) (.int j)=.ok (.int (i / j)):=AJ ⟨h,h2⟩
theorem sV{j:Int}(h : -18446744073709551616 < j)(h2:j < 18446744073709551616):dMul (.int i) (.int j)=.ok (.int (i * j)):=AJ (.inr ⟨h,h2⟩)
theorem aD2{j:Int}(h : -18446744073709551616 < i)(h2:i < 18446744073709551616):dMul (.int i) (.int j)=.ok (.int (i * j)):=AJ (.inl ⟨h,h2⟩)
@[simp] theorem k9(xs:L9 D4):dLen (.list xs)=.ok (.int xs.length):=id rfl
@[simp] theorem yH(xs:L9 D4):dLen (.tuple xs)=.ok (.int xs.length):=id rfl
theorem pV{z:Str}(h:z.length<=16777216):dLen (.str z)=.ok (.int z.length):=AJ h
@[simp] theorem yI(xs:L9 D4):dTup (.list xs)=.ok (.tuple xs):=id rfl
@[simp] theorem aZ9(xs:L9 D4):dTup (.tuple xs)=.ok (.tuple xs):=id rfl
@[simp] theorem a0A(i:Int):dInt (.int i)=.ok (.int i):=id rfl
@[simp] theorem aWD(b:Bool):dInt (.bool b)=.ok (.int (if b=true then 1 else 0)):=id rfl
@[simp] theorem a0L(x:D4):dIs x .none=.ok (.bool (iR x)):=id rfl
@[simp] theorem aZ1(x:D4):dIsnt x .none=.ok (.bool (!iR x)):=id rfl
@[simp] theorem aZ2:iR .none=true:=id rfl
@[simp] theorem aZ3(xs:L9 D4):iR (.tuple xs)=false:=id rfl
@[simp] theorem aZ4(i:Int):iR (.int i)=false:=id rfl
@[simp] theorem aZ5(i:Str):iR (.str i)=false:=id rfl
theorem kP{xs:L9 α}{v:α}(h0:0<=i)(h:xs[i.toNat]? = some v):atI xs i=some v:=by
 obtain⟨j,rfl⟩:∃ j:Nat,i=j:=⟨i.toNat,by ext⟩
 exact cP h
theorem aD3(x:α)(t:L9 α):atI (x::t) 0=some x:=cP rfl
theorem aGG(x y:α)(t:L9 α):atI (x::y::t) 1=some y:=cP rfl
theorem aSH(x y z:α)(t:L9 α):atI (x::y::z::t) 2=some z:=cP rfl
theorem iS{xs:L9 D4}{v:D4}(h:atI xs i=some v):dIx (.tuple xs) (.int i)=.ok v:=by show(match atI xs i with|some v=>R.ok v|none=>.bad)=_;rw[h]
theorem lA{xs:L9 D4}{v:D4}(h:atI xs i=some v):dIx (.list xs) (.int i)=.ok v:=by show(match atI xs i with|some v=>R.ok v|none=>.bad)=_;rw[h]
theorem aIN{z:Str}{u:Nat}(hz:z.length<=16777216)(h:atI z.cps.toList i=some u):dIx (.str z) (.int i)=.ok (.str ⟨#[u]⟩):=by
 show(if z.length<=sizeLine then match atI z.cps.toList i with|some u=>R.ok _|none=>.bad else .bad)=_
 rw[fQ,AJ hz,h]
@[simp] theorem pW(x:D4)(t:L9 D4):dIx (.tuple (x::t)) (.int 0)=.ok x:=iS (aD3 x t)
@[simp] theorem aD4(x y:D4)(t:L9 D4):dIx (.tuple (x::y::t)) (.int 1)=.ok y:=iS (aGG x y t)
@[simp] theorem aWE(x y z:D4)(t:L9 D4):dIx (.tuple (x::y::z::t)) (.int 2)=.ok z:=iS (aSH x y z t)
@[simp] theorem aLI(x:D4)(t:L9 D4):dIx (.list (x::t)) (.int 0)=.ok x:=lA (aD3 x t)
@[simp] theorem aWF(x y:D4)(t:L9 D4):dIx (.list (x::y::t)) (.int 1)=.ok y:=lA (aGG x y t)
theorem c9{xs:L9 D4}(h:xs.length<=16777216):aP (.tuple xs)=.ok xs:=AJ h
theorem eF{xs:L9 D4}(h:xs.length<=16777216):aP (.list xs)=.ok xs:=AJ h
theorem rA{z:Str}(h:z.cps.toList.length<=16777216):aP (.str z)=.ok (z.cps.toList.map λu=>.str ⟨#[u]⟩):=AJ h
theorem yJ{x y:D4}(hx:shaped x=true)(a:shaped y=true):dEq x y=.ok (.bool (PyData.eqv x y)):=AJ ⟨hx,a⟩
theorem aLJ{x y:D4}(hx:shaped x=true)(a:shaped y=true):dNe x y=.ok (.bool (!PyData.eqv x y)):=AJ ⟨hx,a⟩
@[simp] theorem a0B(T:String)(i:Int):kU T (.int i)=.ok (.bool (j8 "int" T)):=id rfl
@[simp] theorem a0C(T:String)(i:Str):kU T (.str i)=.ok (.bool (j8 "str" T)):=id rfl
@[simp] theorem a0D(T:String)(i:L9 D4):kU T (.tuple i)=.ok (.bool (j8 "tuple" T)):=id rfl
@[simp] theorem a0E(T:String)(i:L9 D4):kU T (.list i)=.ok (.bool (j8 "list" T)):=id rfl
@[simp] theorem a0F(T:String)(i:Bool):kU T (.bool i)=.ok (.bool (j8 "bool" T)):=id rfl
@[simp] theorem a0G(T:String):kU T .none=.ok (.bool (j8 "NoneType" T)):=id rfl
theorem aYD{xs:L9 D4}(h:¬ (_b.sIx xs.length 0 lo=0/\_b.sIx xs.length xs.length hi=xs.length)):dSl (.tuple xs) lo hi=.ok (.tuple (oY xs lo hi)):=AJ h
theorem aYE(xs:L9 D4)(lo hi:O9 Int):dSl (.list xs) lo hi=.ok (.list (oY xs lo hi)):=id rfl
theorem aB6{z:Str}(h:z.length<=16777216):dSl (.str z) lo hi=.ok (.str (Txt.slice z lo hi)):=AJ h
theorem aWG{xs ys:L9 D4}(h:xs.isEmpty=false)(h2:xs.length+ys.length<=16777216):bJ (.tuple xs) (.tuple ys)=.ok (.tuple (xs++ys)):=AJ ⟨h,by assumption⟩
theorem aLK{y:Str}(h:x.length+y.length<=16777216):bJ (.str x) (.str y)=.ok (.str (x++y)):=AJ (by assumption)
theorem bA{fs:D4->Sg->O9 Sg}{fe:Sg->R D4}{Y0:Sg}{d:α->D4}{g:α->D4}:∀ {xs:L9 α},(∀ x∈xs,∃ Y1,fs (d x) Y0=some Y1/\fe Y1=.ok (g x))->compL fs cF fe Y0 (xs.map d)=.ok (xs.map g)
 | [],_=>rfl
 | x::t,h=>by
  obtain⟨Y1,h1⟩:=h x A4
  rw[AW]
  unfold compL
  rw[h1.1,bA λy a=>h y (AU _ a),kJ,R.bind_ok,aGF,R.noEx_ok,h1.2];rfl
theorem i6{fs:D4->Sg->O9 Sg}{fb:Sg->R Fw}{d:α->D4}{xs:L9 α}(J:Nat->Sg->Prop)(h0:J 0 Y)(a:∀ (i:Nat) (x:α) (Y:Sg),xs[i]? = some x->J i Y->∃ Y1 Y2,fs (d x) Y=some Y1/\(fb Y1=.ok (.nx Y2)\/fb Y1=.ok (.ct Y2))/\J (i+1) Y2) :
  ∃ Y',jO fs fb (xs.map d) Y=.ok (.nx Y')/\J xs.length Y':=by
 induction xs generalizing Y J with
 | nil=>exact⟨Y,rfl,h0⟩
 | cons x t ih=>
  obtain⟨Y1,Y2,h1,h2,c⟩:=a 0 x Y rfl h0
  obtain⟨Y',b⟩:=ih (λi=>J (i+1)) c (λi y Y f e=>a _ y Y (by assumption) e)
  refine⟨Y',?_,b.2⟩
  rw[AW]
  unfold jO
  rw[h1,kJ,R.bind_ok]
  rcases h2 with h2|h2<;>rw[h2]<;>exact b.1
theorem dE{t:Sg->R Bool}{b:Sg->R Fw}{a:Sg}(h1:t Y=.ok true)(h2:b Y=.ok (.nx a)):aW t b Y=aW t b a:=by
 rw[sN,h1,h2];rfl
theorem fG{t:Sg->R Bool}{b:Sg->R Fw}{a:A}(h1:t Y=.ok true)(h2:b Y=.ok (.rt a)):aW t b Y=.ok (.rt a):=by
 rw[sN,h1,h2];rfl
theorem bR{t:Sg->R Bool}{b:Sg->R Fw}(h1:t Y=.ok false):aW t b Y=.ok (.nx Y):=by
 rw[sN,h1,R.bind_ok,AL (by simp)]
def been(d:α->D4)(ps:L9 α):L9 (D4×D4):=ps.map λp=>(d p,.bool true)
theorem sW(d:α->D4)(ps:L9 α):(been d ps).map (·.1)=ps.map d:=by unfold been;rw[A6];rfl
theorem i7{d:α->D4}(c:∀ a b,d a=d b->a=b){ps:L9 α}{p:α}:b7 (been d ps) (d p)=true↔p∈ps:=by
 rw[wL,sW]
 ext
theorem eS{d:α->D4}(c:∀ a b,d a=d b->a=b){ps:L9 α}{p:α}(h:p∉ps):b7 (been d ps) (d p)=false:=by
 cases q:b7 _ _ with
 | false=>rfl
 | true=>exact absurd ((i7 c).mp q) h
theorem fM{d:α->D4}(c:∀ a b,d a=d b->a=b){ps:L9 α}{p:α}(h:p∉ps):putM (been d ps) (d p) (.bool true)=been d (ps++[p]):=by
 unfold putM
 rw[eS c h]
 unfold been
 rw[BL];rfl
theorem bS{d:α->D4}(b:∀ a,g8 (d a)=true)(ps:L9 α)(p:α):bU (d p) ((been d ps).map (·.1))=true:=by
 unfold bU
 rw[sW,b,FH,DL,CK]
 ext
theorem eG(d:α->D4)(ps:L9 α):(been d ps).length=ps.length:=by unfold been;simp
def prD(p:Int×Int):D4:=.tuple [.int p.1,.int p.2]
theorem cH(a b:Int×Int)(h:prD a=prD b):a=b:=by
 unfold prD at h
 ext
theorem cS(a:Int×Int):g8 (prD a)=true:=rfl
end _f
variable{n:Int}
namespace _e
open _f
variable{rs:L9 Rw}
theorem uY{r:Rw}:c7 [.d (aK (r::rs))]=.ok (.d (.int r.c.length)):=by
 simp[c7,yB,aK,aY]
theorem Mach.cons{rs:L9 Rw}{sg:Nat}(M:Mach rs sg):∃ r t,rs=r::t/\r.c.length=sg:=by
 cases rs with
 | nil=>have:=M.len;simp_all
 | cons r t=>exact⟨r,t,rfl,(M.row r A4).2⟩
def ck(k:Nat)(r:Rw):Int×Int:=r.c.getD k (0,0)
theorem aGH(M:Mach rs sg)(b:k < sg):hR [.d (aK rs),.d (.int k)]=.ok (.d (.list (rs.map λr=>cellD (ck k r)))):=by
 have h:=bA (fs:=stN 0) (fe:=e2 dIx (e2 dIx (rV 0) (eC (.int 1))) (rV 1)) (Y0:=[none,some (.d (.int k))]) (d:=aY) λr hr=>by
  refine⟨_,rfl,?_⟩
  have e:dIx _ _=.ok (cellD (ck k r)):=iS (cP (by rw[AE,(m9 M hr b).1];rfl))
  assumption
 have a:(rs.map aY).length<=16777216:=by have:=M.len2;ext
 simp[hR,yC,aK,c9 a,cK,h]
theorem fH{n:Nat}(h:n<=16777216):fK 0 (n:Int)=.ok ((range n).map λi:Nat=>.int (i:Int)):=by
 unfold fK
 rw[AJ (by ext)]
 unfold nN
 simp
theorem aYF{n:Nat}(h:n<=1000):uV [.d (.int n)]=.ok (.d (tbD (pD n))):=by
 rw[aQ1]
 simp only[uV,aGA,cZ,aN,cY,dY,dM,yG,nT,mX,c8,R.bind_ok,AW,BE,A8,AT,A5,replicate,AS,(fH (n:=n) (by ext)),cK,GC,(bA (fs:=stN 0) (fe:=bH (aA (eC _) (aA (eV 0) aB))) (Y0:=[none]) (g:=λi:Nat=>nF 1 i) (xs:=range n) λi _=>⟨_,rfl,by rfl⟩),(bA (fs:=stN 0) (fe:=bH (aA (e1 dNeg (eC (.int 1))) (aA (eV 0) aB))) (Y0:=[none]) (g:=λi:Nat=>nF (-1) i) (xs:=range n) λi _=>⟨_,rfl,by rfl⟩),yI,A0,AN]
 rfl
theorem aLL(z y:Str):iZ (.str z) (.str y)=match Builtin.Str.occurrences z y 0 z.length 1 with|i::_=>R.ok (PyData.int i)|[]=>.bad:=rfl
theorem pX(h:bD 3 c=true):iZ (.str "abc") (.str ⟨#[c]⟩)=.ok (.int ((c - 97:Nat):Int)):=by
 obtain⟨r,e⟩:=aJ5 h
 rw[aLL,e]
theorem nV{n:Nat}(a:n<=3)(h:bD n c=true):bD 3 c=true:=A2 (by have:=BC h;ext)
theorem sX(b:bD sg c=true):aH sg (⟨#[c]⟩:Str).cps.toList:=⟨by simp,λx a=>by
 simp_all⟩
theorem hX(s:Int×Int):thD (some s)=prD s:=id rfl
theorem vR(s:Int×Int):shaped (prD s)=true:=id rfl
theorem yK(i:Int):shaped (.int i)=true:=id rfl
theorem bV(i j:Int):dEq (.int i) (.int j)=.ok (.bool (decide (i=j))):=by rfl
theorem yL(s:Int×Int):dIx (prD s) (.int 0)=.ok (.int s.1):=pW _ _
theorem sY(s:Int×Int):dIx (prD s) (.int 1)=.ok (.int s.2):=aD4 _ _ _
theorem aSI(s:Int×Int):iR (prD s)=false:=id rfl
def gρ(a b:Tb)(th:Th)(w:Int)(ps:L9 (Int×Int)):Sg:=[some (.d (tbD a)),some (.d (tbD b)),some (.d (thD th)),some (.d (.int w)),some (.m (been prD ps))]
theorem aGI(a b:Tb)(w:Int)(ps:L9 (Int×Int)):gT (gρ a b none w ps)=.ok false:=by rfl
theorem uZ(a b:Tb)(s:Int×Int)(w:Int)(ps:L9 (Int×Int)):gT (gρ a b (some s) w ps)=.ok (decide (s.1=w)):=by rfl
theorem aGJ{t:Tb}(h:t.good m)(h0:0<=q)(h1:q < m):dIx (.tuple (t.f.map thD)) (.int q)=.ok (thD (t.at 1 q)):=by
 refine iS (kP h0 ?_)
 have:=(h.at (w:=1) h0 h1).1
 simp_all
theorem aLM{t:Tb}(h:t.good m)(h0:0<=q)(h1:q < m):dIx (.tuple (t.a.map thD)) (.int q)=.ok (thD (t.at (-1) q)):=by
 refine iS (kP h0 ?_)
 have:=(h.at (w:=-1) h0 h1).1
 simp_all
theorem aIO(t:Tb):dIx (tbD t) (.int 0)=.ok (.tuple (t.f.map thD)):=pW _ _
theorem aIP(t:Tb):dIx (tbD t) (.int 1)=.ok (.tuple (t.a.map thD)):=aD4 _ _ _
theorem aWH{a b:Tb}{w:Int}(h:s∈ps):gB (gρ a b (some s) w ps)=.ok (.rt (.d .none)):=by
 simp[gB,gρ,hX,(bS cS ps s),((i7 cH).mpr h)]
theorem aYG{a b:Tb}(d:a.good m)(hb:b.good m)(h:s∉ps)(V:eK m s)(i:ps.length<=16777216) :
  gB (gρ a b (some s) s.1 ps)=.ok (.nx (gρ a b (if s.1=1 then b.at 1 s.2 else a.at (-1) s.2) (-s.1) (ps++[s]))):=by
 have e:=fM cH h
 have c:(been prD ps).length<=16777216:=by rw[eG];ext
 have f:=aGJ hb V.2.1 V.2.2
 have g:=aLM d V.2.1 V.2.2
 simp only[gB,gρ,hX,aN,iI,dM,aAE,kZ,AS,AN,R.bind_ok,(bS cS ps s),BR,(eS cH h),i5,BZ,C8,mL,aD1,dH,c,and_self,AX,A0,cY,dY,aWC,eM,c8,bV,sY,aIO,aIP,decide_eq_true_eq]
 by_cases q:s.1=1<;>simp_all
def aIQ(c:Int×Int):Int×Int:=(c.1,-c.2)
def rB(r:Rw):Rw:=⟨r.r,r.c.map aIQ,r.l⟩
def iN(rs:L9 Rw):L9 Rw:=rs.map rB
theorem aWI(M:Mach rs sg):mV [.d (aK rs)]=.ok (.d (aK (iN rs))):=by
 have hr:∀ r∈rs,gQ [.d (aY r)]=.ok (.d (aY (rB r))):=λr hr=>by
  have a:(r.c.map cellD).length<=16777216:=by have:=(M.row r hr).2;have:=M.sg3;ext
  simp[gQ,pQ,aY,c9 a,cK,(bA (fs:=stN 0) (fe:=bH (aA (e2 dIx (rV 0) (eC (.int 0))) (aA (e1 dNeg (e2 dIx (rV 0) (eC (.int 1)))) aB))) (Y0:=[none]) (d:=cellD) (g:=λc=>cellD (aIQ c)) (xs:=r.c) λc _=>⟨_,rfl,by rfl⟩)]
  simp[rB]
 have b:(rs.map aY).length<=16777216:=by have:=M.len2;ext
 simp[mV,yD,aK,c9 b,cK,(bA (fs:=stN 0) (fe:=eA (aE 1 gQ (aA (vV 0) aB))) (Y0:=[none]) (d:=aY) (g:=λr=>aY (rB r)) (xs:=rs) λr h=>⟨_,rfl,by simp_all⟩)]
 simp[iN]
theorem aD5(M:Mach rs sg):Mach (iN rs) sg where
 len:=by unfold iN;rw[AC];exact M.len
 len2:=by unfold iN;rw[AC];exact M.len2
 sg1:=M.sg1
 sg3:=M.sg3
 row:=λr hr=>by
  unfold iN at hr ⊢
  obtain⟨e,g,rfl⟩:=A1.mp hr
  obtain⟨⟨h,k,i⟩,j⟩:=M.row e g
  rw[AC]
  refine⟨⟨k,h,λc l=>?_⟩,by show(e.c.map aIQ).length=sg;rw[AC];exact j⟩
  obtain⟨c0,f,rfl⟩:=A1.mp (show c∈e.c.map aIQ from l)
  obtain⟨a,b,d⟩:=i c0 f
  exact⟨a,b,by show -c0.2=1 \/ -c0.2 = -1;ext⟩
theorem aLN{f O i:Type}{st:S->O9 (S⊕O)}{c:f->O9 (f⊕i)}(φ:S->f)(ψ:O->i)(V:S->Prop)(j:∀ s s',V s->st s=some (.inl s')->V s')(h:∀ s,V s->c (φ s)=(st s).map (Sum.map φ ψ)){s:S}(v:V s):aR c (φ s)=(aR st s).map ψ:=by
 refine((show Res c _ _ from λo'=>?_).eq).symm
 have a:∀ n s o,V s->Ex st n s o->Ex c n (φ s) (ψ o):=by
  intro n s o v e
  induction e with
  | out q=>exact .out (by simp_all)
  | go q t ih=>exact .go (by simp_all) (ih (j _ _ v q))
 have b:∀ n x o',Ex c n x o'->∀ s,V s->x=φ s->∃ o,o'=ψ o/\Ex st n s o:=by
  intro n x o' e
  induction e with
  | out q=>
   intro s v g
   subst g
   rw[h s v]at q
   cases e:st s with
   | none=>simp_all
   | some y=>
    rw[e]at q
    cases y with
    | inl z=>cases q
    | inr o=>cases q;exact⟨o,rfl,.out e⟩
  | go q t ih=>
   intro s v g
   subst g
   rw[h s v]at q
   cases e:st s with
   | none=>simp_all
   | some y=>
    rw[e]at q
    cases y with
    | inr z=>cases q
    | inl s1=>
     cases q
     obtain⟨o,h1⟩:=ih s1 (j _ _ v e) rfl
     exact⟨o,h1.1,.go e h1.2⟩
 constructor
 .intro q
  cases e:aR st s with
  | none=>simp_all
  | some o=>
   rw[e]at q
   cases q
   obtain⟨n,d⟩:=((g6 st s) o).mp e
   exact⟨n,a n s o v d⟩
 .rintro ⟨n,d⟩
  obtain⟨o,rfl,k⟩:=b n _ o' d s v rfl
  rw[((g6 st s) o).mpr ⟨n,k⟩];rfl
def o0:Sg->R Fw:=(aC (aS 2 (vD (eC (.int 0))))
 (aC (sIf (e1 asB (e2 dGt (e1 dLen (rV 0)) (eC (.int 0)))) (aS 2 (vD (e2 dIx (rV 0) (e2 dMod (rV 1) (e1 dLen (rV 0)))))) sNx)
 (aC (aS 3 (vD (e2 dMod (e2 dMul (e2 bJ (e2 bJ (e2 dMod (rV 2) (eC (.int 2147483647))) (e2 dMul (eC (.int 7919)) (rV 1))) (eC (.int 1))) (eC (.int 48271))) (eC (.int 2147483647)))))
 (aM (vD (e2 bJ (e2 dMul (e2 dDiv (rV 2) (eC (.int 2147483647))) (eC (.int 2147483659))) (e2 dMod (e2 bJ (e2 dMul (rV 3) (eC (.int 69621))) (e2 dMul (eC (.int 104729)) (rV 1))) (eC (.int 2147483659)))))))))
def bP:L9 A->R A:=fnF 4 o0
def rC:Sg->R Fw:=(aC (sIf (e1 asB (e2 dEq (e2 dMod (rV 0) (eC (.int 3))) (eC (.int 0)))) (aM (vD (e2 dIx (eL (dI (aA (eC (.str "by")) (aA (eC (.str "out")) aB)))) (e2 dMod (e2 dDiv (rV 0) (eC (.int 3))) (eC (.int 2)))))) sNx)
 (aM (vD (e2 dMod (e2 dDiv (rV 0) (eC (.int 3))) (rV 1)))))
def hZ:L9 A->R A:=fnF 2 rC
def nW:Sg->R Fw:=(aC (aS 3 (vD (e2 dMod (rV 0) (e2 bJ (rV 1) (eC (.int 2))))))
 (aC (aS 0 (vD (e2 dDiv (rV 0) (e2 bJ (rV 1) (eC (.int 2))))))
 (aC (dG 4 (dI aB))
 (aC (kT (dR (rV 2)) (stN 5) (aC (iY 4 (bH (aA (e2 dMod (e2 dDiv (rV 0) (eC (.int 2))) (rV 1)) (aA (e2 dSub (eC (.int 1)) (e2 dMul (e2 dMod (rV 0) (eC (.int 2))) (eC (.int 2)))) aB))))
 (aS 0 (vD (e2 dDiv (rV 0) (e2 dMul (eC (.int 2)) (rV 1)))))))
 (aC (dG 6 (dI (aA (eV 3) (aA (e2 dMod (rV 0) (e2 bJ (rV 1) (eC (.int 2)))) aB))))
 (aC (dG 6 (bK [none,some 1] (e1 aP (rV 6)) (stN 0) cF (eIf (e1 asB (e2 dGe (rV 0) (rV 1))) (e2 dIx (eL (dI (aA (eC (.str "by")) (aA (eC (.str "out")) aB)))) (e2 dSub (rV 0) (rV 1))) (eV 0))))
 (aM (vD (bH (aA (e2 dIx (rV 6) (eC (.int 0))) (aA (e1 dTup (rV 4)) (aA (e2 dIx (rV 6) (eC (.int 1))) aB))))))))))))
def h8:L9 A->R A:=fnF 7 nW
def mxB:Sg->R Fw:=aC (aS 0 (vD (e2 dMod (e2 bJ (e2 dMul (rV 0) (eC (.int 48271))) (eC (.int 7919))) (eC (.int 2147483647))))) (iY 3 (e2 dDiv (rV 0) (eC (.int 64))))
def mxE:Sg->R D4:=bH (aA (e2 dMod (rV 0) (rV 1)) (aA (e2 dSub (eC (.int 1)) (e2 dMul (e2 dDiv (e2 dMod (e2 dDiv (rV 0) (eC (.int 64))) (eC (.int 3))) (eC (.int 2))) (eC (.int 2)))) aB))
def nX:Sg->R Fw:=(aC (dG 3 (dI aB))
 (aC (kT (dR (e2 bJ (rV 2) (eC (.int 2)))) (stN 4) mxB)
 (aC (aS 5 (vD (e1 dTup (eL (bK [none,some 1] (e1 aP (eSl dSl (rV 3) (oSo (eC (.int 2))) oNo)) (stN 0) cF mxE)))))
 (aM (vD (bH (aA (eA (aE 2 hZ (aA (vD (e2 dIx (rV 3) (eC (.int 0)))) (aA (vV 1) aB)))) (aA (eV 5) (aA (eA (aE 2 hZ (aA (vD (e2 dIx (rV 3) (eC (.int 1)))) (aA (vV 1) aB)))) aB)))))))))
def iA:L9 A->R A:=fnF 6 nX
def mcT:Sg->R Bool:=(mQ (e1 asB (e2 dLt (e2 bJ (rV 1) (rV 5)) (e1 dLen (rV 0)))) (e1 asB (e2 dEq (e2 dMod (e2 dIx (rV 0) (eC (.int 0))) (eC (.int 2))) (eC (.int 1)))))
def mcU:Sg->R Bool:=(mQ (e1 asB (e2 dEq (rV 5) (eC (.int 0)))) (mQ (e1 asB (e1 (kU "str") (e2 dIx (rV 6) (eC (.int 0))))) (e1 asB (e2 dGt (e2 dMod (e2 dDiv (eA (aE 2 bP (aA (vV 0) (aA (vV 1) aB)))) (eC (.int 8))) (eC (.int 8))) (eC (.int 0))))))
def mcB:Sg->R Fw:=(sIf mcT (iY 4 (eA (aE 3 h8 (aA (vD (e2 dIx (rV 0) (e2 bJ (rV 1) (rV 5)))) (aA (vV 2) (aA (vV 3) aB)))))) (aC (aS 6 (aE 3 iA (aA (vD (e2 dMod (eA (aE 2 bP (aA (vV 0) (aA (vD (e2 bJ (rV 1) (rV 5))) aB)))) (eC (.int 2147483647)))) (aA (vV 2) (aA (vV 3) aB)))))
 (aC (sIf mcU (aS 6 (vD (e2 bJ (bH (aA (e2 dMod (e2 dDiv (eA (aE 2 bP (aA (vV 0) (aA (vV 1) aB)))) (eC (.int 64))) (rV 2)) aB)) (eSl dSl (rV 6) (oSo (eC (.int 1))) oNo)))) sNx)
 (iY 4 (eV 6)))))
def pY:Sg->R Fw:=(aC (dG 4 (dI aB)) (aC (kT (dR (rV 2)) (stN 5) mcB) (aM (vD (e1 dTup (rV 4))))))
def eH:L9 A->R A:=fnF 7 pY
def lB:Sg->R Fw:=(aC (sIf (mQ (e1 asB (e2 dLt (rV 1) (e1 dLen (rV 0)))) (e1 asB (e2 dEq (e2 dMod (e2 dIx (rV 0) (eC (.int 0))) (eC (.int 2))) (eC (.int 1))))) (aC (aS 4 (vD (e2 dIx (rV 0) (rV 1))))
 (aC (aS 5 (vD (eC (.str ""))))
 (aC (kT (dR (rV 2)) (stN 6) (aC (aS 5 (vD (e2 bJ (rV 5) (e2 dIx (eC (.str "abc")) (e2 dMod (rV 4) (rV 3))))))
 (aS 4 (vD (e2 dDiv (rV 4) (rV 3))))))
 (aM (vV 5))))) sNx)
 (aM (vD (e2 aB2 (eC (.str "")) (eL (bK [none,some 0,some 1,some 3] (dR (rV 2)) (stN 0) cF (e2 dIx (eC (.str "abc")) (e2 dMod (eA (aE 2 bP (aA (vV 1) (aA (vD (e2 bJ (rV 2) (rV 0))) aB)))) (rV 3)))))))))
def gV:L9 A->R A:=fnF 7 lB
def vS:Sg->R Fw:=(aC (qW (stT [(stN 3),(stN 4)]) (eV 2))
 (aC (qW (stT [(stN 5),(stN 6),(stN 7)]) (e2 dIx (rV 0) (rV 4)))
 (aC (sIf (bOr (e1 asB (e2 dEq (rV 3) (eC (.int 0)))) (e1 asB (e2 dGt (rV 3) (e1 dLen (rV 1))))) (aC (aS 8 (vD (e2 dIx (eL (dI (aA (eV 5) (aA (eV 7) aB)))) (e1 dInt (e2 dGt (rV 3) (eC (.int 0)))))))
 (aC (sIf (e1 asB (e1 (kU "str") (rV 8))) (aM (vD (eC .none))) sNx)
 (aM (vD (bH (aA (e2 dIx (eL (dI (aA (eC (.int 1)) (aA (e1 dLen (rV 1)) aB)))) (e1 dInt (e2 dGt (rV 3) (eC (.int 0))))) (aA (eV 8) aB))))))) sNx)
 (aC (qW (stT [(stN 8),(stN 9)]) (e2 dIx (rV 6) (e2 iZ (eC (.str "abc")) (e2 dIx (rV 1) (e2 dSub (rV 3) (eC (.int 1)))))))
 (aM (vD (bH (aA (e2 bJ (rV 3) (rV 9)) (aA (eV 8) aB)))))))))
def iK:L9 A->R A:=fnF 10 vS
def wW:Sg->R Bool:=(e1 asB (kX true 3 (e2 dIx (rV 2) (e1 dNeg (eC (.int 1))))))
def wX:Sg->R Fw:=(aC (jZ 3 (e2 dIx (rV 2) (e1 dNeg (eC (.int 1)))) (eC (.bool true)))
 (aC (aS 4 (aE 3 iK (aA (vV 0) (aA (vV 1) (aA (vD (e2 dIx (rV 2) (e1 dNeg (eC (.int 1))))) aB)))))
 (aC (sIf (e1 asB (e2 dIs (rV 4) (eC .none))) (sFz 2 (aM (vV 2))) sNx)
 (iY 2 (eV 4)))))
def rS:Sg->R Fw:=aC (dG 2 (dI (aA (bH (aA (eC (.int 0)) (aA (eC (.int 0)) aB))) aB))) (aC (kW 3) (aC (aW wW wX) (sFz 2 (aM (vV 2)))))
def j2:L9 A->R A:=fnF 5 rS
def vT:Sg->R Fw:=(aC (qW (stT [(stN 2),(stN 3)]) (e2 dIx (eA (aE 2 j2 (aA (vV 0) (aA (vV 1) aB)))) (e1 dNeg (eC (.int 1)))))
 (aC (sIf (e1 asB (e2 dIsnt (eA (aE 3 iK (aA (vV 0) (aA (vV 1) (aA (vD (bH (aA (eV 2) (aA (eV 3) aB)))) aB))))) (eC .none))) (aM (vD (eC (.str "ever")))) sNx)
 (aM (vD (e2 dIx (eL (dI (aA (e2 dIx (e2 dIx (rV 0) (rV 3)) (eC (.int 0))) (aA (e2 dIx (e2 dIx (rV 0) (rV 3)) (eC (.int 2))) aB)))) (e1 dInt (e2 dGt (rV 2) (eC (.int 0)))))))))
def eO:L9 A->R A:=fnF 4 vT
def byT:Sg->R Bool:=(e1 asB (e2 dLe (rV 2) (e1 dLen (rV 1))))
def byB:Sg->R Fw:=(aC (sIf (e1 asB (kX false 4 (bH (aA (eV 2) (aA (eV 3) aB))))) (aM (vD (eC (.str "ever")))) sNx)
 (aC (jZ 4 (bH (aA (eV 2) (aA (eV 3) aB))) (eC (.bool true)))
 (aC (sIf (mQ (e1 asB (e2 dEq (rV 2) (eC (.int 0)))) (e1 asB (e1 (kU "str") (e2 dIx (e2 dIx (rV 0) (rV 3)) (eC (.int 0)))))) (aM (vD (e2 dIx (e2 dIx (rV 0) (rV 3)) (eC (.int 0))))) sNx)
 (qW (stT [(stN 2),(stN 3)]) (eA (aE 3 iK (aA (vV 0) (aA (vV 1) (aA (vD (bH (aA (eV 2) (aA (eV 3) aB)))) aB)))))))))
def rT:Sg->R Fw:=aC (kW 4) (aC (aW byT byB) (aM (vV 3)))
def fR:L9 A->R A:=fnF 5 rT
def nY:Sg->R Fw:=(aC (dG 2 (bK [none,some 0,some 1] (dR (e1 dLen (rV 0))) (stN 0) cF (eA (aE 4 fR (aA (vV 1) (aA (vV 2) (aA (vD (e1 dLen (rV 2))) (aA (vV 0) aB))))))))
 (aM (vD (bH (aA (eA (aE 4 fR (aA (vV 0) (aA (vV 1) (aA (vD (eC (.int 0))) (aA (vD (eC (.int 0))) aB)))))) (aA (e1 dTup (rV 2)) aB))))))
def eI:L9 A->R A:=fnF 3 nY
def wyT:Sg->R Bool:=(e1 asB (e2 dLt (e1 dLen (rV 5)) (e1 dLen (rV 3))))
def wyF:Sg->R Fw:=(aC (aS 8 (vD (e2 bJ (e2 dIx (rV 3) (e1 dLen (rV 5))) (rV 7))))
 (aC (aS 9 (aE 2 eI (aA (vV 0) (aA (vV 8) aB))))
 (aC (sIf (e1 asB (kX true 4 (eV 9))) (aC (jZ 4 (eV 9) (e1 dLen (rV 3)))
 (iY 3 (eV 8))) sNx)
 (iY 6 (oJ 4 (eV 9))))))
def wyB:Sg->R Fw:=(aC (dG 6 (dI aB))
 (aC (kT (e1 aP (eSl dSl (eC (.str "abc")) oNo (oSo (rV 1)))) (stN 7) wyF)
 (aC (iY 5 (e1 dTup (rV 6)))
 (sIf (e1 asB (e2 dGt (e1 dLen (rV 3)) (rV 2))) (aM (vD (eC .none))) sNx))))
def wyE:Sg->R Fw:=(sFz 3 (aM (vD (bH (aA (eV 3) (aA (e1 dTup (rV 5)) (aA (e1 dTup (eL (bK [none,some 0] (e1 aP (rV 3)) (stN 0) cF (eA (aE 2 eO (aA (vV 1) (aA (vV 0) aB))))))) aB)))))))
def vU:Sg->R Fw:=(aC (dG 3 (dI (aA (eC (.str "")) aB)))
 (aC (x9 4 (aB4 (eA (aE 2 eI (aA (vV 0) (aA (vD (eC (.str ""))) aB)))) (eC (.int 0)) aIB))
 (aC (dG 5 (dI aB)) (aC (aW wyT wyB) wyE))))
def cE:L9 A->R A:=fnF 10 vU
def sZ:Sg->R Fw:=(aC (aS 2 (vD (e2 bJ (eC (.int 1)) (e2 dMod (eA (aE 2 bP (aA (vV 0) (aA (vV 1) aB)))) (eC (.int 2))))))
 (aC (aS 3 (vD (e2 bJ (eC (.int 1)) (e2 dMod (eA (aE 2 bP (aA (vV 0) (aA (vD (e2 bJ (rV 1) (eC (.int 1)))) aB)))) (e2 dIx (eL (dI (aA (eC (.int 5)) (aA (eC (.int 3)) aB)))) (e2 dSub (rV 2) (eC (.int 1))))))))
 (aC (aS 4 (aE 4 eH (aA (vV 0) (aA (vD (e2 bJ (rV 1) (eC (.int 2)))) (aA (vV 3) (aA (vV 2) aB))))))
 (aC (aS 5 (aE 3 cE (aA (vV 4) (aA (vV 2) (aA (vD (eC (.int 40))) aB)))))
 (aC (aW (e1 asB (e2 dIs (rV 5) (eC .none))) (aC (aS 3 (vD (e2 dSub (rV 3) (eC (.int 1)))))
 (aC (aS 4 (aE 4 eH (aA (vV 0) (aA (vD (e2 bJ (rV 1) (eC (.int 2)))) (aA (vV 3) (aA (vV 2) aB))))))
 (aS 5 (aE 3 cE (aA (vV 4) (aA (vV 2) (aA (vD (eC (.int 40))) aB))))))))
 (aM (vD (bH (aA (eV 4) (aA (eV 5) aB))))))))))
def i8:L9 A->R A:=fnF 6 sZ
def dW(ns:L9 Int):D4:=.list (ns.map .int)
theorem lQ(ns:L9 Int):dLen (dW ns)=.ok (.int ns.length):=by unfold dW;simp
theorem tD{ns:L9 Int}{i:Int}(h0:0<=i)(h1:i < ns.length):∃ v,dIx (dW ns) (.int i)=.ok (.int v):=by
 refine⟨ns[i.toNat]'(by ext),lA (kP h0 ?_)⟩
 simp
theorem pZ(ns:L9 Int)(k:Int):∃ v,bP [.d (dW ns),.d (.int k)]=.ok (.d (.int v)):=by
 by_cases h:(0:Int) < ns.length
 .obtain ⟨v,b⟩:=tD (i:=k % ns.length) (B2 _ (by ext)) (B3 _ h)
  have a:0 < ns.length:=by ext
  unfold bP o0
  simp[lQ,a,(cC h),b,cC,sV,aD2,gU]
 .have a:¬ 0 < ns.length:=by ext
  unfold bP o0
  simp[lQ,a,cC,sV,aD2,gU]
theorem aWJ(x y:D4)(i:Int):∃ z,dIx (.list [x,y]) (.int (i % 2))=.ok z/\(z=x\/z=y):=by
 rcases Int.emod_two_eq i with h|h<;>simp_all
theorem aP1(x:Int)(b:0 < n):∃ t:Tn,hZ [.d (.int x),.d (.int n)]=.ok (.d t.d)/\t.good n:=by
 by_cases h:x % 3=0
 .obtain ⟨z,a⟩:=aWJ (.str "by") (.str "out") (x / 3)
  have e:hZ [.d (.int x),.d (.int n)]=.ok (.d z):=by
   unfold hZ rC
   simp[cC,gU,bV,(A2 h),a.1]
  rcases a.2 with rfl|rfl
  .exact ⟨.w "by",e,.inl rfl⟩
  .exact ⟨.w "out",e,.inr rfl⟩
 .refine ⟨.n (x / 3 % n),?_,B2 _ (by ext),B3 _ b⟩
  unfold hZ rC
  simp[cC,gU,bV,(BA h),b]
  rfl
theorem aIR{n:Nat}(h:n<=16777216):fK 0 (n:Int)=.ok ((range n).map λi:Nat=>.int (i:Int)):=fH h
theorem aN9{fs:D4->Sg->O9 Sg}{fb:Sg->R Fw}{x:D4}{xs:L9 D4}{Y a b:Sg}(h1:fs x Y=some a)(h2:fb a=.ok (.nx b)):jO fs fb (x::xs) Y=jO fs fb xs b:=by
 conv=>lhs;unfold jO
 simp_all
theorem aIS{Z:Type}{fs:D4->Sg->O9 Sg}{fb:Sg->R Fw}{d:α->D4}{e:β->D4}{G:β->Prop}{R':L9 D4->Z->Sg}:∀ {xs:L9 α},(∀ x∈xs,∀ L s,L.length < 16777216->∃ Y1 s' b,fs (d x) (R' L s)=some Y1/\fb Y1=.ok (.nx (R' (L++[e b]) s'))/\G b)->∀ L s,L.length+xs.length<=16777216->
  ∃ (s':Z) (bs:L9 β),jO fs fb (xs.map d) (R' L s)=.ok (.nx (R' (L++bs.map e) s'))/\bs.length=xs.length/\∀ b∈bs,G b
 | [],_,L,s,_=>⟨s,[],by rw[BE,BE,C5];rfl,rfl,λb h=>nomatch h⟩
 | x::t,h,L,s,hl=>by
  rw[AT]at hl
  obtain⟨Y1,s1,b,h1⟩:=h x A4 L s (by ext)
  obtain⟨s',bs,c⟩:=aIS (λy a=>h y (AU _ a)) (L++[e b]) s1 (by rw[A7,CS];ext)
  exact⟨s',b::bs,by rw[AW,aN9 h1.1 h1.2.1,c.1,FQ];rfl,by simp_all,λy a=>(AV.mp a).elim (λe=>e▸h1.2.2) (c.2.2 y)⟩
theorem aSJ(x:Int)(j:0 < n)(A:sg<=1000):∃ r:Rw,iA [.d (.int x),.d (.int n),.d (.int sg)]=.ok (.d (aY r))/\r.good n/\r.c.length=sg:=by
 have hr:fK 0 (sg+2)=.ok _:=fH (n:=sg+2) (by ext)
 obtain⟨⟨y,u⟩,ps,t,o,_⟩:=aIS (fs:=stN 4) (fb:=mxB) (d:=λi:Nat=>.int i) (e:=PyData.int) (G:=λ_=>True) (xs:=range (sg+2)) (R':=λL s=>[some (.d (.int s.1)),some (.d (.int n)),some (.d (.int sg)),some (.l L),s.2,none]) (λk _ L s v=>by
  refine⟨_,((s.1 * 48271+7919) % 2147483647,some (.d (.int k))),(s.1 * 48271+7919) % 2147483647 / 64,rfl,?_,trivial⟩
  unfold mxB
  simp[sV,cC,gU,v]) [] (x,none) (by simp;ext)
 rw[BM]at o
 obtain⟨a,b,qs,rfl,w⟩:∃ a b qs,ps=a::b::qs/\qs.length=sg:=by
  match ps,o with
  | a::b::qs,o=>exact⟨a,b,qs,rfl,by simp_all⟩
 have h:dSl (.list (.int a::.int b::qs.map .int)) (some 2) none=.ok (.list (qs.map .int)):=by
  show R.ok _=_
  unfold oY _b.sIx
  ext
 obtain⟨t0,p⟩:=aP1 a j
 obtain⟨z,f⟩:=aP1 b j
 have m:=bA (fs:=stN 0) (fe:=mxE) (Y0:=[none,some (.d (.int n))]) (d:=PyData.int) (g:=λq=>cellD (q % n,1 - q / 64 % 3 / 2 * 2)) (xs:=qs) λq _=>⟨_,rfl,by unfold mxE;simp[cC,gU,sV,j,cellD]⟩
 have hi:aP (.list (qs.map .int))=.ok (qs.map .int):=eF (by rw[AC];ext)
 refine⟨⟨t0,qs.map λq=>(q % n,1 - q / 64 % 3 / 2 * 2),z⟩,?_,⟨p.2,f.2,λc m=>?_⟩,by simpa using w⟩
 .unfold iA aY
  rw[nX,A6]
  change compL _ _ _ _ _=.ok (qs.map (cellD∘λq=>(q % n,1 - q / 64 % 3 / 2 * 2)))at m
  simp only[BD,AW]at t
  generalize qs.map PyData.int=Q at *
  generalize qs.map (cellD∘λq=>(q % n,1 - q / 64 % 3 / 2 * 2))=C at *
  simp[hr,t,h,hi,cK,m,p.1,f.1]
 .obtain ⟨q,_,rfl⟩:=A1.mp m
  refine⟨B2 _ (by ext),B3 _ j,?_⟩
  ext
theorem aSK(x:Int)(C:0 < n)(F:n<=1000)(J:sg<=1000):∃ r:Rw,h8 [.d (.int x),.d (.int n),.d (.int sg)]=.ok (.d (aY r))/\r.good n/\r.c.length=sg:=by
 have hr:=fH (n:=sg) (by ext)
 have f:0 < n+2:=by ext
 have s:0 < 2 * n:=by ext
 have m:2 * n < 18446744073709551616:=by ext
 obtain⟨L,I,y,cs,v,o,q,rfl⟩:=i6 (fs:=stN 5) (fb:=aC (iY 4 (bH (aA (e2 dMod (e2 dDiv (rV 0) (eC (.int 2))) (rV 1)) (aA (e2 dSub (eC (.int 1)) (e2 dMul (e2 dMod (rV 0) (eC (.int 2))) (eC (.int 2)))) aB)))) (aS 0 (vD (e2 dDiv (rV 0) (e2 dMul (eC (.int 2)) (rV 1))))))
  (d:=λi:Nat=>.int i) (xs:=range sg) (Y:=[some _,some _,some _,some _,some (.l []),none,none])
  (λi Y=>∃ (y:Int) (cs:L9 _) (v:O9 A),cs.length=i/\(∀ c∈cs,nG n c)/\Y=[some (.d (.int y)),some (.d (.int n)),some (.d (.int sg)),some (.d (.int (x % (n+2)))),some (.l (cs.map cellD)),v,none]) ⟨x / (n+2),[],none,rfl,λc p=>by simp_all,rfl⟩
  (λi k Y G B=>by
   obtain⟨y,cs,v,o,q,rfl⟩:=B
   have hi:=by have:=(AG.mp G).1;simpa using this
   have K:(cs.map cellD).length < 16777216:=by rw[AC,o];ext
   refine⟨_,_,rfl,.inl ?_,y / (2 * n),cs++[(y / 2 % n,1 - y % 2 * 2)],some (.d (.int k)),by simp[o],λc p=>?_,rfl⟩
   .have u:cs.length < 16777216:=by ext
    simp[sV,aD2,cC,gU,C,s,m,cellD,u]
   .rcases BO.mp p with z|z
    .exact q c z
    .rw[AZ.mp z]
     refine⟨B2 _ (by ext),B3 _ C,?_⟩
     simp only;ext)
 rw[BM]at o
 have j:∀ e:Int,0<=e->e < n+2->∃ t:Tn,(eIf (e1 asB (e2 dGe (rV 0) (rV 1))) (e2 dIx (eL (dI (aA (eC (.str "by")) (aA (eC (.str "out")) aB)))) (e2 dSub (rV 0) (rV 1))) (eV 0)) [some (.d (.int e)),some (.d (.int n))]=.ok t.d/\t.good n:=λe H h1=>by
  by_cases h:n<=e
  .obtain rfl|rfl:e=n\/e=n+1:=by ext
   .exact ⟨.w "by",by simp[Tn.d],.inl rfl⟩
   .exact ⟨.w "out",by simp[Tn.d,show n+1 - n=1 by ext,show n<=n+1 by ext],.inr rfl⟩
  .exact ⟨.n e,by simp[Tn.d,h],H,by ext⟩
 obtain⟨t0,D⟩:=j (x % (n+2)) (B2 _ (by ext)) (B3 _ f)
 obtain⟨E,g⟩:=j (y % (n+2)) (B2 _ (by ext)) (B3 _ f)
 have p:compL (stN 0) cF (eIf (e1 asB (e2 dGe (rV 0) (rV 1))) (e2 dIx (eL (dI (aA (eC (.str "by")) (aA (eC (.str "out")) aB)))) (e2 dSub (rV 0) (rV 1))) (eV 0)) [none,some (.d (.int n))] [.int (x % (n+2)),.int (y % (n+2))]=.ok [t0.d,E.d]:=by
  simp only[compL,aDY,AX,kJ,R.bind_ok,aGF,R.noEx_ok,BR,D.1,g.1]
 have hi:∀ a b:D4,aP (.list [a,b])=.ok [a,b]:=λa b=>eF (by simp)
 refine⟨⟨t0,cs,E⟩,?_,⟨D.2,g.2,q⟩,o⟩
 unfold h8 nW
 simp only[cZ,AW,BE,A8,BD,AT,A5,replicate,aN,cY,dY,eM,c8,dH,AS,AN,R.bind_ok,sT,cC f,gU f (by ext),AX,A0,kB,kO,b6,pT,mX,hr]
 simp only[B5,BR,R.bind_ok,AX,A0,AS,AN,hr,I]
 simp only[bY,kZ,b6,eM,c8,dH,AS,AN,R.bind_ok,sT,cC f,nT,dM,AX,A0]
 simp[hi,cK,p,aY,cC f]
theorem aLO{ns:L9 Int}{at':Int}{n:Nat}(H:0<=at')(h1:1<=n)(h2:n<=1000)(s1:1<=sg)(I:sg<=3):∃ rs:L9 Rw,eH [.d (dW ns),.d (.int at'),.d (.int n),.d (.int sg)]=.ok (.d (aK rs))/\Mach rs sg/\rs.length=n:=by
 have hr:=fH (n:=n) (by ext)
 have m:0 < (n:Int):=by ext
 obtain⟨s',rs,C,u,M⟩:=aIS (fs:=stN 5) (fb:=mcB) (d:=λi:Nat=>.int i) (e:=aY) (xs:=range n) (R':=λL s=>[some (.d (dW ns)),some (.d (.int at')),some (.d (.int n)),some (.d (.int sg)),some (.l L),s.1,s.2]) (λk _ L s o=>by
  obtain⟨b,x,p⟩:∃ b,mcT [some (.d (dW ns)),some (.d (.int at')),some (.d (.int n)),some (.d (.int sg)),some (.l L),some (.d (.int k)),s.2]=.ok b/\(b=true->∃ w,dIx _ _=.ok (.int w)):=by
   unfold mcT
   by_cases z:at'+k < (ns.length:Int)
   .obtain ⟨N,q⟩:=tD (ns:=ns) (i:=0) (CM _) (by ext)
    exact⟨decide (N % 2=1),by simp[lQ,z,q,cC,bV],λ_=>tD (by ext) z⟩
   .exact ⟨false,by simp[lQ,z],λh=>nomatch h⟩
  cases b with
  | true=>
   obtain⟨w1,t⟩:=p rfl
   obtain⟨K,j⟩:=aSK w1 (n:=(n:Int)) (sg:=sg) m (by ext) (by ext)
   refine⟨_,(some (.d (.int k)),s.2),K,rfl,?_,j.2⟩
   generalize dW ns=B at *
   unfold mcB
   simp[x,t,j.1,o]
  | false=>
   obtain⟨v,E⟩:=pZ ns (at'+k)
   obtain⟨f,g⟩:=pZ ns at'
   obtain⟨r,hr⟩:=aSJ (v % 2147483647) (n:=(n:Int)) (sg:=sg) m (by ext)
   have D:dMod (.int v) (.int 2147483647)=.ok (.int (v % 2147483647)):=cC (by decide)
   have J:dIx (aY r) (.int 0)=.ok r.l.d:=pW _ _
   obtain⟨G,y⟩:∃ b,kU "str" r.l.d=.ok (.bool b):=by cases r.l<;>exact⟨_,rfl⟩
   obtain⟨c,F⟩:∃ c,mcU [some (.d (dW ns)),some (.d (.int at')),some (.d (.int n)),some (.d (.int sg)),some (.l L),some (.d (.int k)),some (.d (aY r))]=.ok c:=by
    generalize aY r=O at *
    refine⟨decide (k=0) && (G && decide (0 < f / 8 % 8)),?_⟩
    unfold mcU
    cases G<;>by_cases h:k=0<;>simp[g,cC,gU,bV,J,y,h]
   have A:dSl (aY r) (some 1) none=.ok (.tuple [.tuple (r.c.map cellD),r.r.d]):=by
    unfold aY
    rw[aYD (by unfold _b.sIx;simp)]
    unfold oY _b.sIx
    simp
   have a:bJ (.tuple [.int (f / 64 % (n:Int))]) (.tuple [.tuple (r.c.map cellD),r.r.d])=.ok (aY ⟨.n (f / 64 % (n:Int)),r.c,r.r⟩):=by
    rw[aWG rfl (by simp)];rfl
   refine⟨_,(some (.d (.int k)),some (.d (aY (if c=true then⟨.n (f / 64 % (n:Int)),r.c,r.r⟩else r)))),if c=true then⟨.n (f / 64 % (n:Int)),r.c,r.r⟩else r,rfl,?_,by cases c;exact hr.2;exact(⟨⟨⟨B2 _ (by ext),B3 _ m⟩,hr.2.1.2.1,hr.2.1.2.2⟩,hr.2.2⟩)⟩
   generalize dW ns=B at *
   unfold mcB
   cases c
   .simp[x,E,D,hr.1,F,o]
   .simp[x,E,D,hr.1,F,o,g,gU,cC m,A,a]) [] (none,none) (by simp;ext)
 rw[BM]at u
 refine⟨rs,?_,⟨by ext,by ext,s1,I,λr hr=>by rw[u];exact M r hr⟩,u⟩
 unfold eH aK
 rw[pY]
 simp only[BD]at C
 generalize dW ns=B at *
 generalize rs.map aY=P at *
 simp[hr,C]
theorem vW(x y:Str):(x++y).cps.toList=x.cps.toList++y.cps.toList:=by
 show(x.cps++y.cps).toList=_
 simp
def spB:Sg->R Fw:=(aC (aS 5 (vD (e2 bJ (rV 5) (e2 dIx (eC (.str "abc")) (e2 dMod (rV 4) (rV 3)))))) (aS 4 (vD (e2 dDiv (rV 4) (rV 3)))))
theorem aSL{ns:L9 Int}{at':Int}{m sg:Nat}(w:0<=at')(Q:m<=1000)(s1:1<=sg)(N:sg<=3):∃ z:Str,gV [.d (dW ns),.d (.int at'),.d (.int m),.d (.int sg)]=.ok (.d (.str z))/\aH sg z.cps.toList/\z.cps.toList.length=m:=by
 have hr:=fH (n:=m) (by ext)
 have G:0 < (sg:Int):=by ext
 have o:∀ y:Int,∃ c,dIx _ _=.ok _/\bD sg c=true:=λy=>by
  obtain⟨c,h1⟩:=aQ0 (k:=y) s1 N
  exact⟨c,aIN (by decide) h1.1,h1.2⟩
 have E:∃ z:Str,(aM (vD (e2 aB2 (eC (.str "")) (eL (bK [none,some 0,some 1,some 3] (dR (rV 2)) (stN 0) cF (e2 dIx (eC (.str "abc")) (e2 dMod (eA (aE 2 bP (aA (vV 1) (aA (vD (e2 bJ (rV 2) (rV 0))) aB)))) (rV 3)))))))) [some (.d (dW ns)),some (.d (.int at')),some (.d (.int m)),some (.d (.int sg)),none,none,none]=.ok (.rt (.d (.str z)))/\aH sg z.cps.toList/\z.cps.toList.length=m:=by
  have b:∀ i:Nat,∃ c,(e2 dIx (eC (.str "abc")) (e2 dMod (eA (aE 2 bP (aA (vV 1) (aA (vD (e2 bJ (rV 2) (rV 0))) aB)))) (rV 3))) [some (.d (.int i)),some (.d (dW ns)),some (.d (.int at')),some (.d (.int sg))]=.ok (.str ⟨#[c]⟩)/\bD sg c=true:=λi=>by
   obtain⟨v,O⟩:=pZ ns (at'+i)
   obtain⟨c,h1⟩:=o v
   exact⟨c,by simp[O,cC G,h1.1],h1.2⟩
  obtain⟨f,p⟩:=(Classical.skolem.mp b)
  have D:qU ((range m).map λi:Nat=>PyData.str ⟨#[f i]⟩)=some (((range m).map f).map one):=by
   rw[A6]
   generalize range m=l
   induction l with
   | nil=>rfl
   | cons a t ih=>simp only[AW,qU,ih];rfl
  have M:aB2 (.str "") (.list ((range m).map λi:Nat=>.str ⟨#[f i]⟩))=.ok (.str ⟨((range m).map f).toArray⟩):=by
   show(match qU ((range m).map λi:Nat=>PyData.str ⟨#[f i]⟩)with|some ys=>if _ then R.ok _ else .bad|none=>.bad)=_
   rw[D]
   simp only
   rw[AJ (by rw[aQX,AC,AC,BM];show m+m * 0<=_;ext),aQZ]
  refine⟨⟨((range m).map f).toArray⟩,?_,⟨by simp;ext,λc b=>?_⟩,by simp⟩
  .simp[hr,cK,(bA (fs:=stN 0) (fe:=e2 dIx (eC (.str "abc")) (e2 dMod (eA (aE 2 bP (aA (vV 1) (aA (vD (e2 bJ (rV 2) (rV 0))) aB)))) (rV 3))) (Y0:=[none,some (.d (dW ns)),some (.d (.int at')),some (.d (.int sg))]) (d:=λi:Nat=>.int (i:Int)) (g:=λi:Nat=>.str ⟨#[f i]⟩) (xs:=range m) λi _=>⟨_,rfl,(p i).1⟩),M]
  .simp at b
   obtain⟨i,_,rfl⟩:=b
   exact(p i).2
 obtain⟨J,e,u⟩:=E
 by_cases s:at' < (ns.length:Int)
 .obtain ⟨P,h⟩:=tD (ns:=ns) (i:=0) (CM _) (by ext)
  by_cases K:P % 2=1
  .obtain ⟨w1,C⟩:=tD (ns:=ns) (i:=at') w s
   obtain⟨S,p,y,z,H,r,F,rfl⟩:=i6 (fs:=stN 6) (fb:=aC (aS 5 (vD (e2 bJ (rV 5) (e2 dIx (eC (.str "abc")) (e2 dMod (rV 4) (rV 3)))))) (aS 4 (vD (e2 dDiv (rV 4) (rV 3)))))
    (d:=λi:Nat=>.int (i:Int)) (xs:=range m) (Y:=[some (.d (dW ns)),some (.d (.int at')),some (.d (.int m)),some (.d (.int sg)),some (.d (.int w1)),some (.d (.str "")),none])
    (λi Y=>∃ (y:Int) (z:Str) (H:O9 A),z.cps.toList.length=i/\(∀ c∈z.cps.toList,bD sg c=true)/\Y=[some (.d (dW ns)),some (.d (.int at')),some (.d (.int m)),some (.d (.int sg)),some (.d (.int y)),some (.d (.str z)),H]) ⟨w1,"",none,rfl,λc b=>(nomatch (show c∈([]:L9 Nat)from b)),rfl⟩
    (λi k Y L B=>by
     obtain⟨y,z,H,r,F,rfl⟩:=B
     have hi:i < m:=by have:=(AG.mp L).1;simpa using this
     obtain⟨c,h1⟩:=o y
     have j:bJ (.str z) (.str ⟨#[c]⟩)=.ok (.str (z++⟨#[c]⟩)):=aLK (by
      have:z.length=z.cps.toList.length:=by simp[Str.length]
      show z.length+1<=_
      ext)
     refine⟨_,_,rfl,.inl ?_,y / sg,z++⟨#[c]⟩,some (.d (.int k)),by rw[vW,A7,r];rfl,λx I=>?_,rfl⟩
     .simp[cC G,h1.1,j,gU G (show(sg:Int) < 18446744073709551616 by ext)]
     .rw[vW]at I
      rcases BO.mp I with q|q
      .exact F x q
      .have:x=c:=by simpa using q
       rw[this];exact h1.2)
   rw[BM]at r
   refine⟨z,?_,⟨by ext,F⟩,r⟩
   unfold gV lB
   simp only[cZ,AW,BE,A8,BD,AT,A5,replicate,aN,iI,aAD,dM,eM,c8,dH,AS,AN,R.bind_ok,lQ,aIM,i5,s,decide_true,BR,h,cC (show(0:Int) < 2 by decide),bV,K,cY,dY,C,AX,A0,pT,mX,hr,p,jJ,fC]
  .refine ⟨J,?_,u.1,u.2⟩
   unfold gV lB
   simp only[cZ,AW,BE,A8,BD,AT,A5,replicate]
   rw[aN,iI]
   simp only[aAD,dM,eM,c8,dH,AS,AN,R.bind_ok,lQ,aIM,i5,s,decide_true,BR,h,cC (show(0:Int) < 2 by decide),bV,K,decide_false,BZ,C8,mL]
   rw[e];rfl
 .refine ⟨J,?_,u.1,u.2⟩
  unfold gV lB
  simp only[cZ,AW,BE,A8,BD,AT,A5,replicate]
  rw[aN,iI]
  simp only[aAD,dM,eM,c8,dH,AS,AN,R.bind_ok,lQ,aIM,i5,s,decide_false,BZ,C8,mL]
  rw[e];rfl
end _e
namespace _e
variable{rs:L9 Rw}
def bW(rs:L9 Rw)(z:L9 Nat)(s:Int×Int):O9 ((Int×Int)⊕Str):=
 match (aL rs z s).1 with
 | .w x=>some (.inr x)
 | .n q=>some (.inl (s.1+(aL rs z s).2,q))
theorem walk_step{s:Int×Int}:(∃ x,bL rs z s=none/\(aL rs z s).1=.w x/\bW rs z s=some (.inr x))\/∃ s',bL rs z s=some s'/\bW rs z s=some (.inl s'):=by
 unfold bL bW
 cases(aL rs z s).1 with
 | w x=>exact .inl ⟨x,rfl,rfl,rfl⟩
 | n q=>exact .inr ⟨_,rfl,rfl⟩
def fY(r:Rw)(w:Int):Tn:=if w = -1 then r.l else r.r
def iJ(rs:L9 Rw)(t:Tb)(s:Int×Int):O9 ((Int×Int)⊕Str):=
 match fY (aJ rs s.2) s.1 with
 | .w x=>some (.inr x)
 | .n q=>match t.at (-s.1) q with
  | none=>none
  | some th=>some (.inl th)
def plW(z:L9 Nat)(s:Int×Int):Int×Int:=(if s.1 = -1 then 0 else(z.length:Int)+1,s.2)
theorem aLP(hw:s.1=1\/s.1 = -1):aL rs z (plW z s)=(fY (aJ rs s.2) s.1,-s.1):=by
 unfold aL plW fY
 ext
theorem oO(M:Mach rs sg)(P:eK rs.length s):(fY (aJ rs s.2) s.1).good rs.length:=by
 have hr:=M.row _ (AD (bQ P.2.1 P.2.2))
 unfold fY
 split
 · exact hr.1.1
 · exact hr.1.2.1
theorem aOA{z:L9 Nat}{w:Int}(hw:w=1\/w = -1):(plW z (w,0)).1 + -w=if w = -1 then 1 else(z.length:Int):=by
 unfold plW
 ext
theorem aIT{t:Tb}(M:Mach rs sg)(G:t.good rs.length){s':Int×Int}(P:eK rs.length s)(h:iJ rs t s=some (.inl s')):eK rs.length s':=by
 have g:=oO M P
 unfold iJ at h
 cases e:fY _ s.1 with
 | w x=>rw[e]at h;cases h
 | n q=>
  rw[e]at h g
  simp at h
  have a:=(G.at (w:=-s.1) g.1 g.2).2
  cases e2:t.at _ q with
  | none=>rw[e2]at h;cases h
  | some th=>rw[e2]at h a;cases h;exact a
end _e
variable{z:Str}
namespace _e
open _f
variable{rs:L9 Rw}
theorem aD6:j8 "int" "str"=false:=by rfl
theorem aD7:j8 "str" "str"=true:=by rfl
theorem i9(h0:0<=q)(h1:q < (rs.length:Int)):dIx (aK rs) (.int q)=.ok (aY (aJ rs q)):=iS (kP h0 (by rw[AE,bQ h0 h1];rfl))
def mS:O9 (Int×Int)->D4
 | none=>.none
 | some s=>prD s
theorem gW(z:Str):z.length=z.cps.toList.length:=by rfl
theorem yM(M:Mach rs sg)(S:aH sg z.cps.toList)(V:bM rs z.cps.toList s):iK [.d (aK rs),.d (.str z),.d (prD s)]=.ok (.d (mS (bL rs z.cps.toList s))):=by
 obtain⟨p,q⟩:=s
 have hr:=i9 V.2.2.1 V.2.2.2
 have t:z.length<=16777216:=by rw[gW];have:=S.1;ext
 have h:=pV t
 rw[gW]at h
 generalize v:z.cps.toList=g at *
 unfold iK vS
 by_cases f:p=0
 .subst f
  have a:bL rs g (0,q)=match (aJ rs q).l with | .w _=>none | .n q'=>some (0+1,q'):=by
   unfold bL aL;simp only[BR]<;>(cases(aJ rs q).l<;>rfl)
  cases e:(aJ rs q).l with
  | w x=>
   rw[e]at a
   rw[a]
   simp[prD,hr,h,aY,bV,e,Tn.d,aD7,mS]
  | n q'=>
   rw[e]at a
   rw[a]
   simp[prD,hr,h,aY,bV,e,Tn.d,aD6,mS]
 .by_cases h1:p=(g.length:Int)+1
  .have a:bL rs g (p,q)=match (aJ rs q).r with | .w _=>none | .n q'=>some (p + -1,q'):=by
    unfold bL aL;simp only[AL f,AJ h1]<;>(cases(aJ rs q).r<;>rfl)
   have u:(0:Int) < p:=by ext
   have b:(g.length:Int) < p:=by ext
   cases e:(aJ rs q).r with
   | w x=>
    rw[e]at a
    rw[a]
    simp[prD,hr,h,aY,bV,e,Tn.d,aD7,mS,f,b,u]
   | n q'=>
    rw[e]at a
    rw[a]
    simp[prD,hr,h,aY,bV,e,Tn.d,aD6,mS,f,b,u]
    ext
  .obtain ⟨c,m,A,k⟩:=uH S V f h1
   obtain⟨i,o,j,E⟩:=lK M S V f h1
   have y:=V.1
   have B:=V.2.1
   simp only at y B m k o j
   have a:bL rs g (p,q)=some (p+i.2,i.1):=by
    unfold bL aL;simp only[AL f,AL h1,j]
   have b:¬ (g.length:Int) < p:=by ext
   have D:dIx (.str z) (.int (p - 1))=.ok (.str ⟨#[c]⟩):=aIN t (kP (by ext) (by rw[v,<-m];congr 1;ext))
   have C:dIx (.tuple ((aJ rs q).c.map cellD)) (.int ((c - 97:Nat):Int))=.ok (cellD i):=iS (cP (by rw[AE,<-k,o];rfl))
   rw[a]
   simp[prD,hr,h,aY,bV,mS,f,b,D,(pX (nV M.sg3 A)),C,cellD]
theorem jA(xs:L9 D4)(x:D4):dIx (.list (xs++[x])) (.int (-1))=.ok x:=lA (_a.aM2 xs x)
def stρ(rs:L9 Rw)(z:Str)(ps:L9 (Int×Int))(s:Int×Int)(u:O9 A):Sg:=[some (.d (aK rs)),some (.d (.str z)),some (.l (ps.map prD++[prD s])),some (.m (been prD ps)),u]
theorem aWK{u:O9 A}(h:s∈ps):wW (stρ rs z ps s u)=.ok false:=by
 simp[wW,stρ,jA,(bS cS ps s),((i7 cH).mpr h)]
theorem aGK{u:O9 A}(h:s∉ps):wW (stρ rs z ps s u)=.ok true:=by
 simp[wW,stρ,jA,(bS cS ps s),(eS cH h)]
theorem aLQ(s:Int×Int):iR (prD s)=false:=id rfl
theorem aSM(M:Mach rs sg)(S:aH sg z.cps.toList){u:O9 A}(V:bM rs z.cps.toList s)(h:s∉ps)(b:ps.length<=2000000)(e:bL rs z.cps.toList s=none):wX (stρ rs z ps s u)=.ok (.rt (.d (.list ((ps++[s]).map prD)))):=by
 have a:(been prD ps).length<=16777216:=by rw[eG];ext
 have f:=yM M S V
 rw[e]at f
 simp[wX,stρ,jA,(bS cS ps s),a,f,mS]
theorem aWL(M:Mach rs sg)(S:aH sg z.cps.toList){s':Int×Int}{u:O9 A}(V:bM rs z.cps.toList s)(h:s∉ps)(c:ps.length<=2000000)(e:bL rs z.cps.toList s=some s'):wX (stρ rs z ps s u)=.ok (.nx (stρ rs z (ps++[s]) s' (some (.d (prD s'))))):=by
 have a:(been prD ps).length<=16777216:=by rw[eG];ext
 have f:=yM M S V
 rw[e]at f
 have b:ps.length+1 < 16777216:=by ext
 simp[wX,stρ,jA,(bS cS ps s),(fM cH h),a,f,mS,aLQ,b]
def kC(rs:L9 Rw)(z:L9 Nat)(s:Int×Int):Prop:=bM rs z s/\((bL rs z s=none/\∃ x,(aL rs z s).1=.w x/\aR (bW rs z) (0,0)=some x)\/((∃ s',bL rs z s=some s')/\aR (bW rs z) (0,0)=none))
theorem aE4(M:Mach rs sg)(S:aH sg z.cps.toList):∀ (k:Nat) (ps:L9 (Int×Int)) (s:Int×Int) (u:O9 A),Way rs z.cps.toList ps s k->Und2 (bW rs z.cps.toList) (0,0) ps s->
  aC (aW wW wX) (sFz 2 (aM (vV 2))) (stρ rs z ps s u)=.ok (.rt (.d (.list ((fN rs z.cps.toList).map prD))))/\∃ ps' s',fN rs z.cps.toList=ps'++[s']/\kC rs z.cps.toList s':=by
 have f:iP rs z.cps.toList<=1002 * 1000:=E7 (by have:=S.1;ext) M.len2
 have b:∀ k ps s u,Way rs z.cps.toList ps s k->Und2 (bW rs z.cps.toList) (0,0) ps s->s∈ps->aC (aW wW wX) (sFz 2 (aM (vV 2))) (stρ rs z ps s u)=.ok (.rt (.d (.list ((fN rs z.cps.toList).map prD))))/\∃ ps' s',fN rs z.cps.toList=ps'++[s']/\kC rs z.cps.toList s':=by
  intro k ps s u W U a
  refine⟨?_,ps,s,(W.stop a).symm,W.here,.inr ⟨?_,U.met a⟩⟩
  .rw[aN,bR (aWK a),<-W.stop a]
   simp[stρ]
  .obtain ⟨m,r⟩:=U.back s a
   cases r with
   | cons h t=>
    rcases walk_step with ⟨x,_,_,e⟩|⟨s',e,_⟩
    · rw [e]at h; ext
    · exact⟨s', e⟩
 intro k
 induction k with
 | zero=>
  intro ps s u W U
  by_cases a:s∈ps
  .exact b 0 ps s u W U a
  .have j:=W.more a;ext
 | succ k ih=>
  intro ps s u W U
  by_cases a:s∈ps
  .exact b _ ps s u W U a
  .rcases walk_step with ⟨x,e,e2,c⟩|⟨s',e,c⟩
   .refine ⟨?_,ps,s,(W.ends a e).symm,W.here,.inl ⟨e,x,e2,U.outs c⟩⟩
    rw[aN,fG (aGK a) (aSM M S W.here a (by have:=W.num;ext) e),<-W.ends a e];rfl
   .have:=ih _ s' (some (.d (prD s'))) (W.next M S a e) (U.next a c)
    rw[aN]at this ⊢
    rw[dE (aGK a) (aWL M S W.here a (by have:=W.num;ext) e)]
    exact this
theorem wY{z:Str}(M:Mach rs sg)(S:aH sg z.cps.toList):j2 [.d (aK rs),.d (.str z)]=.ok (.d (.list ((fN rs z.cps.toList).map prD)))/\∃ ps' s',fN rs z.cps.toList=ps'++[s']/\kC rs z.cps.toList s':=by
 have h:=aE4 M S _ [] _ none (Way.start M) Und2.start
 refine⟨?_,h.2⟩
 unfold j2
 rw[rS]
 simp only[cZ,aN,kB,kO,bY,uX,dH,b6,R.bind_ok,AT,A5,Nat.reduceAdd,Nat.reduceLeDiff,BR,AW,BE,A8,BD,replicate,AX,A0,nU]
 have e:=h.1
 rw[aN]at e
 simp only[stρ,BE,BD,been,prD]at e
 rw[e];rfl
def a7(rs:L9 Rw)(z:L9 Nat):Str:=(aR (bW rs z) (0,0)).getD "ever"
theorem yN(M:Mach rs sg)(S:aH sg z.cps.toList):eO [.d (aK rs),.d (.str z)]=.ok (.d (.str (a7 rs z.cps.toList))):=by
 obtain⟨h,ps,s,e⟩:=wY M S
 have f:=yM M S e.2.1
 rw[e.1,BL,AW,BE]at h
 have hr:=i9 e.2.1.2.2.1 e.2.1.2.2.2
 unfold eO vT a7
 obtain⟨p,r⟩:=s
 rcases e.2.2 with ⟨g,x,i,c⟩|⟨⟨s',g⟩,c⟩
 .rw[g]at f
  rw[c]
  have a:(if 0 < p then(aJ rs r).r else(aJ rs r).l)=.w x:=by
   unfold aL at i
   ext
  simp[prD]at f hr h
  by_cases b:0 < p
  .rw[AJ b]at a
   simp[h,jA,f,mS,hr,aY,b,a,Tn.d]
  .rw[AL b]at a
   simp[h,jA,prD,f,mS,hr,aY,b,a,Tn.d]
 .rw[g]at f
  rw[c]
  simp only[prD]at f hr h
  simp[h,jA,prD,f,mS]
theorem aWM{O:Type}{st:S->O9 (S⊕O)}{s s':S}(h:Rc st k s s'):aR st s=aR st s':=by
 induction h with
 | nil=>rfl
 | cons h t ih=>rw[iW h,ih]
theorem aD8{x:D4}(hx:shaped x=true)(h:∀ i,x≠.str i\/True):inD x (.tuple [.str "by",.str "out"])=some (PyData.eqv (.str "by") x || (PyData.eqv (.str "out") x || false)):=by
 have a:shaped (.tuple [.str "by",.str "out"])=true:=by decide +kernel
 cases x<;>simp[inD,hx,a]
theorem mY(q:Int):dIn (.int q) (.tuple [.str "by",.str "out"])=.ok (.bool false):=by
 unfold dIn
 rw[aD8 rfl λ_=>.inr trivial];rfl
theorem mZ(h:x="by"\/x="out"):dIn (.str x) (.tuple [.str "by",.str "out"])=.ok (.bool true):=by
 unfold dIn
 rw[aD8 (by rcases h with rfl|rfl<;>decide +kernel) λ_=>.inr trivial]
 rcases h with rfl|rfl<;>rfl
def sdρ(rs:L9 Rw)(t:Tb)(th:Th)(ps:L9 (Int×Int))(u v:O9 A):Sg:=[some (.d (aK rs)),some (.d (tbD t)),some (.d (thD th)),some (.m (been prD ps)),u,v]
theorem aOB{t:Tb}{u v:O9 A}:sdT (sdρ rs t none ps u v)=.ok false:=by rfl
theorem aWN{t:Tb}{u v:O9 A}(h:s∈ps):sdT (sdρ rs t (some s) ps u v)=.ok false:=by
 simp[sdT,sdρ,hX,(bS cS ps s),((i7 cH).mpr h)]
theorem aAF{t:Tb}{u v:O9 A}(h:s∉ps):sdT (sdρ rs t (some s) ps u v)=.ok true:=by
 simp[sdT,sdρ,hX,aSI,(bS cS ps s),(eS cH h)]
theorem aSN{t:Tb}(M:Mach rs sg){u v:O9 A}(P:eK rs.length s)(h:s∉ps)(c:ps.length<=2000000)(e:fY (aJ rs s.2) s.1=.w x):sdB (sdρ rs t (some s) ps u v)=.ok (.rt (.d (.str x))):=by
 have b:(been prD ps).length<=16777216:=by rw[eG];ext
 have g:=oO M P
 rw[e]at g
 unfold fY at e
 by_cases a:s.1 = -1
 .rw[AJ a]at e
  simp[sdB,sdρ,hX,(bS cS ps s),(fM cH h),b,sY,yL,(i9 P.2.1 P.2.2),aY,bV,a,e,Tn.d,(mZ g)]
 .rw[AL a]at e
  simp[sdB,sdρ,hX,(bS cS ps s),(fM cH h),b,sY,yL,(i9 P.2.1 P.2.2),aY,bV,a,e,Tn.d,(mZ g)]
theorem aWO{t:Tb}(M:Mach rs sg)(G:t.good rs.length){u v:O9 A}(P:eK rs.length s)(h:s∉ps)(f:ps.length<=2000000)(e:fY (aJ rs s.2) s.1=.n q):∃ u' v',sdB (sdρ rs t (some s) ps u v)=.ok (.nx (sdρ rs t (t.at (-s.1) q) (ps++[s]) u' v')):=by
 have c:(been prD ps).length<=16777216:=by rw[eG];ext
 have g:=oO M P
 rw[e]at g
 refine⟨some (.d (aY (aJ rs s.2))),some (.d (.int q)),?_⟩
 unfold fY at e
 by_cases a:s.1 = -1
 .rw[AJ a]at e
  simp[sdB,sdρ,hX,(bS cS ps s),(fM cH h),c,sY,yL,(i9 P.2.1 P.2.2),aY,bV,a,e,Tn.d,(mY q),aIO,(aGJ G g.1 g.2)]
 .rw[AL a]at e
  have b:s.1=1:=by rcases P.1 with h|h;exact h;exact absurd h a
  simp[sdB,sdρ,hX,(bS cS ps s),(fM cH h),c,sY,yL,(i9 P.2.1 P.2.2),aY,bV,b,e,Tn.d,(mY q),aIP,(aLM G g.1 g.2)]
def yO(rs:L9 Rw)(t:Tb):Str:=(aR (iJ rs t) (-1,0)).getD "ever"
theorem aLR{t:Tb}(M:Mach rs sg)(G:t.good rs.length):∀ (n:Nat) (ps:L9 (Int×Int)) (s:Int×Int) (u v:O9 A),Und2 (iJ rs t) (-1,0) ps s->(∀ p∈ps,eK rs.length p)->eK rs.length s->2 * rs.length+1<=ps.length+n->
  aC (aW sdT sdB) (aM (vD (eC (.str "ever")))) (sdρ rs t (some s) ps u v)=.ok (.rt (.d (.str (yO rs t)))):=by
 intro n
 induction n with
 | zero=>
  intro ps s u v U f P g
  have:=qK U.nd f
  ext
 | succ n ih=>
  intro ps s u v U f P g
  have l:=qK U.nd f
  have i:=M.len2
  unfold yO
  by_cases b:s∈ps
  .rw[aN,bR (aWN b),U.met b];rfl
  .cases e:fY _ s.1 with
   | w x=>
    rw[aN,fG (aAF b) (aSN M P b (by ext) e),U.outs (by unfold iJ;rw[e])];rfl
   | n q=>
    obtain⟨h,j,c⟩:=aWO M G P b (by ext) e
    have a:iJ rs t s=match t.at (-s.1) q with|none=>none|some th=>some (.inl th):=by simp[iJ,e]<;>(rfl)
    cases e2:t.at _ q with
    | none=>
     rw[e2]at c a
     rw[aN,dE (aAF b) c,bR aOB,U.sticks a];rfl
    | some th=>
     rw[e2]at c a
     have:=ih _ th h j (U.next b a) (λp k=>by
      rcases BO.mp k with z|z
      · exact f p z
      simp_all) (aIT M G P a) (by ext)
     rw[aN]at this ⊢
     rw[dE (aAF b) c]
     exact this
theorem yP(M:Mach rs sg):eK rs.length (-1,0):=⟨.inr rfl,CM _,by have:=M.len;show 0 < _;ext⟩
theorem aZT{t:Tb}(M:Mach rs sg)(G:t.good rs.length):sQ [.d (aK rs),.d (tbD t)]=.ok (.d (.str (yO rs t))):=by
 have h:=aLR M G (2 * rs.length+1) [] _ none none Und2.start (λp a=>by simp_all) (yP M) (by simp)
 unfold sQ
 rw[aLE]
 simp only[cZ,aN,cY,dY,uX,bY,dM,dH,b6,R.bind_ok,sU,AT,A5,Nat.reduceAdd,Nat.reduceLeDiff,BR,AW,BE,A8,BD,replicate,AX,A0,nU]
 rw[aN]at h
 simp only[sdρ,BE,been,hX,prD]at h
 rw[h];rfl
end _e
variable{z:L9 Nat}
namespace _e
variable{rs:L9 Rw}
section
variable{S T O Q:Type}
variable{st:S->O9 (S⊕O)}{sub:S->O9 (S⊕Q)}{ext:Q->T⊕O}{g:T->S}{ent:T->S⊕O}{Dom:S->Prop}{TV:T->Prop}
theorem fZ{st:S->O9 (S⊕O)}{s:S}{o:O}{n:Nat}(h:Ex st n s o):aR st s=some o:=((g6 st s) o).mpr ⟨n,h⟩
theorem cM{st:S->O9 (S⊕O)}{s:S}{o:O}(h:aR st s=some o):∃ n,Ex st n s o:=((g6 st s) o).mp h
end
theorem aGL{T O P:Type}{st:S->O9 (S⊕O)}{st2:T->O9 (T⊕P)}{e:S->T}{k:O->P}{ev:P}{Dom:S->Prop}
  (h:∀ s,Dom s->(∃ s',st s=some (.inl s')/\st2 (e s)=some (.inl (e s'))/\Dom s')\/∃ o,st s=some (.inr o)/\(aR st2 (e s)).getD ev=k o) {s:S} (d:Dom s) :
  (aR st2 (e s)).getD ev=((aR st s).map k).getD ev:=by
 cases hr:aR st s with
 | some o=>
  obtain⟨n,c⟩:=cM hr
  clear hr
  induction c with
  | out q=>
   ext
  | go q t ih=>
   rcases h _ d with ⟨s',a,b,f⟩|⟨o',a,b⟩
   .rw[a]at q;cases q;rw[iW b];exact ih f
   ext
 | none=>
  cases h2:aR st2 _ with
  | none=>rfl
  | some p=>
   obtain⟨n,c⟩:=cM h2
   clear h2
   generalize g:e s=t at c
   exfalso
   induction c generalizing s with
   | out q=>
    subst g
    rcases h _ d with ⟨s',a,b,_⟩|⟨o',a,b⟩
    · ext
    · rw [resOf_out a]at hr; ext
   | go q t ih=>
    subst g
    rcases h _ d with ⟨s',a,b,f⟩|⟨o',a,b⟩
    · rw [b]at q; cases q; rw [iW a]at hr; exact ih f hr rfl
    · rw [resOf_out a]at hr; ext
def fD:Str:="ever"
def bN(rs:L9 Rw)(z:L9 Nat)(s:Int×Int):O9 ((Int×Int)⊕Tn):=
 match (aL rs z s).1 with
 | .w x=>some (.inr (.w x))
 | .n q=>if s.1+(aL rs z s).2<=(z.length:Int)then some (.inl (s.1+(aL rs z s).2,q))else some (.inr (.n q))
def iO(rs:L9 Rw)(z:L9 Nat)(s:Int×Int):Prop:=0<=s.1/\s.1<=(z.length:Int)/\0<=s.2/\s.2 < (rs.length:Int)
def b8(rs:L9 Rw)(q:Int):Prop:=0<=q/\q < (rs.length:Int)
theorem iO.valid(h:iO rs z s):bM rs z s:=⟨h.1,by have:=h.2.1;ext,h.2.2⟩
def dN(rs:L9 Rw)(z:L9 Nat)(s:Int×Int):Tn:=(aR (bN rs z) s).getD (.w fD)
def cG(rs:L9 Rw)(z:L9 Nat)(q:Int):Tn:=dN rs z ((z.length:Int),q)
theorem tE(h0:0<=s.1)(h:s.1<=(z.length:Int)):aL rs (z++[c]) s=aL rs z s:=by
 unfold aL
 ext
theorem beg_cell(M:Mach rs sg)(S:aH sg z)(V:iO rs z s):(∃ x,(aL rs z s).1=.w x/\s.1=0)\/∃ q,(aL rs z s).1=.n q/\b8 rs q/\0<=s.1+(aL rs z s).2/\s.1+(aL rs z s).2<=(z.length:Int)+1:=by
 cases e:(aL rs z s).1 with
 | w x=>
  refine .inl ⟨x,rfl,?_⟩
  by_cases b:s.1=0
  .omega
  .unfold aL at e
   rw[AL b,AL (by have:=V.2.1;ext)]at e
   ext
 | n q=>
  have a:=kS M S V.valid (by unfold bL;rw[e])
  exact .inr ⟨q,rfl,⟨a.2.2.1,a.2.2.2⟩,a.1,a.2.1⟩
theorem aBK:aL rs (z++[c]) ((z.length:Int)+1,q)=(.n ((aJ rs q).c.getD (c - 97) (0,0)).1,((aJ rs q).c.getD (c - 97) (0,0)).2):=by
 unfold aL
 have e:(z++[c]).getD (((z.length:Int)+1).toNat - 1) 97=c:=by
  simp
 rw[AL (by ext),AL (by ext)]
 rw[e]
def kD(rs:L9 Rw)(bk:Int->Tn)(c:Nat)(q:Int):O9 (Int⊕Tn):=
 if ((aJ rs q).c.getD (c - 97) (0,0)).2=1 then some (.inr (.n ((aJ rs q).c.getD (c - 97) (0,0)).1))else match bk ((aJ rs q).c.getD (c - 97) (0,0)).1 with
  | .n r=>some (.inl r)
  | .w x=>some (.inr (.w x))
def onR(rs:L9 Rw)(bk:Int->Tn)(c:Nat)(t:Tn):Tn:=match t with
 | .w x=>.w x
 | .n q=>(aR (kD rs bk c) q).getD (.w fD)
theorem rD(M:Mach rs sg)(z:L9 Nat):iO rs z (0,0):=⟨CM _,by simp,CM _,by have:=M.len;show(0:Int) < rs.length;ext⟩
def iB(rs:L9 Rw)(bk:Int->Tn)(q:Int):O9 (Int⊕Str):=match (aJ rs q).r with
 | .w x=>some (.inr x)
 | .n q'=>match bk q' with
  | .n r=>some (.inl r)
  | .w x=>some (.inr x)
def wbR(rs:L9 Rw)(bk:Int->Tn)(t:Tn):Str:=match t with
 | .w x=>x
 | .n q=>(aR (iB rs bk) q).getD fD
theorem aLS:aL rs z ((z.length:Int)+1,q)=((aJ rs q).r,-1):=by
 unfold aL
 ext
theorem aAG{rs:L9 Rw}{q:Int}:dN rs [] (0,q)=(aJ rs q).l:=by
 have a:aL rs [] (0,q)=((aJ rs q).l,1):=by rfl
 unfold dN
 cases e:(aJ rs q).l with
 | w x=>rw[resOf_out (by unfold bN;rw[a,e])];rfl
 | n q'=>
  rw[resOf_out (by unfold bN;rw[a,e];rfl)];rfl
section
variable{S T O P:Type}{st:S->O9 (S⊕O)}{st2:T->O9 (T⊕P)}{e:S->T}{Dom:S->Prop}
theorem tF(h:∀ s s',Dom s->st s=some (.inl s')->st2 (e s)=some (.inl (e s'))/\Dom s'){s:S}{t:O}(d:Dom s)(x:Ex st k s t):∃ s',Rc st2 k (e s) (e s')/\st s'=some (.inr t)/\Dom s':=by
 induction x with
 | out q=>exact⟨_,.nil,q,d⟩
 | go q _ ih=>
  obtain⟨s',r⟩:=ih (h _ _ d q).2
  exact⟨s',.cons (h _ _ d q).1 r.1,r.2⟩
theorem aAH(h:∀ s s',Dom s->st s=some (.inl s')->st2 (e s)=some (.inl (e s'))/\Dom s')(b:∀ s,Dom s->st s≠none){o:P}:∀ {N:Nat} {s:S},Dom s->Ex st2 N (e s) o->∃ k s' t N',Ex st k s t/\st s'=some (.inr t)/\Dom s'/\N=N'+k/\Ex st2 N' (e s') o:=by
 intro N
 induction N with
 | zero=>
  intro s d x
  cases q:st s with
  | none=>simp_all
  | some v=>
   cases v with
   | inr t=>exact⟨0,s,t,0,.out q,q,d,rfl,x⟩
   | inl s1=>cases x with|out z=>simp_all
 | succ N ih=>
  intro s d x
  cases q:st s with
  | none=>simp_all
  | some v=>
   cases v with
   | inr t=>exact⟨0,s,t,_,.out q,q,d,rfl,x⟩
   | inl s1=>
    cases x with
    | go z y=>
     rw[(h s s1 d q).1]at z;cases z
     obtain⟨k,s',t,N',a⟩:=ih (h s s1 d q).2 y
     exact⟨k+1,s',t,N',.go q a.1,a.2.1,a.2.2.1,by ext,a.2.2.2.2⟩
theorem wZ{s s':S}(r:Rc st k s s'):aR st s=aR st s':=by
 induction r with
 | nil=>rfl
 | cons h _ ih=>rw[iW h,ih]
end
section
variable{rs:L9 Rw}{sg:Nat}{x y z u:L9 Nat}
def cel(rs:L9 Rw)(z:L9 Nat)(s:Int×Int):Int×Int:=(aJ rs s.2).c.getD (z.getD (s.1.toNat - 1) 97 - 97) (0,0)
def lSt(rs:L9 Rw)(z:L9 Nat)(s:Int×Int):O9 ((Int×Int)⊕(Int×Int)):=
 if s.1<=0 then some (.inr (-1,s.2))else if (z.length:Int) < s.1 then some (.inr (1,s.2))else some (.inl (s.1+(cel rs z s).2,(cel rs z s).1))
def b9(rs:L9 Rw)(z:L9 Nat):Tb:=⟨(range rs.length).map λq:Nat=>aR (lSt rs z) (1,(q:Int)),(range rs.length).map λq:Nat=>aR (lSt rs z) ((z.length:Int),(q:Int))⟩
theorem l_cases(M:Mach rs sg)(S:aH sg z)(V:bM rs z s):(s.1=0/\lSt rs z s=some (.inr (-1,s.2)))\/(s.1=(z.length:Int)+1/\lSt rs z s=some (.inr (1,s.2)))\/(1<=s.1/\s.1<=(z.length:Int)/\lSt rs z s=some (.inl (s.1+(cel rs z s).2,(cel rs z s).1))/\bM rs z (s.1+(cel rs z s).2,(cel rs z s).1)):=by
 obtain⟨i,b⟩:=V
 unfold lSt
 by_cases a:s.1<=0
 .exact .inl ⟨by ext,AJ a⟩
 .by_cases h1:z.length < s.1
  .exact .inr (.inl ⟨by ext,by rw[AL a,AJ h1]⟩)
  .obtain ⟨l,d,k,j,f,m,c,g,h,n⟩:=aLF M S ⟨by ext,by ext,b.2.1,b.2.2⟩
   have e:cel rs z s=d:=by unfold cel;rw[f,c]
   rw[e]
   refine .inr (.inr ⟨by ext,by ext,by rw[AL a,AL h1],?_,?_,g,h⟩)<;>ext
theorem tG(M:Mach rs sg)(S:aH sg z)(V:bM rs z s):lSt rs z s≠none:=by
 rcases l_cases M S V with ⟨_,e⟩|⟨_,e⟩|⟨_,_,e,_⟩<;>rw[e]<;>exact λh=>nomatch h
theorem aIU(M:Mach rs sg)(S:aH sg u){o:Nat}(hz:o+u.length<=z.length)(a:∀ k,k < u.length->z.getD (o+k) 97=u.getD k 97)(s s':Int×Int)(V:bM rs u s)(h:lSt rs u s=some (.inl s')):lSt rs z (s.1+(o:Int),s.2)=some (.inl (s'.1+(o:Int),s'.2))/\bM rs u s':=by
 rcases l_cases M S V with ⟨_,e⟩|⟨_,e⟩|⟨h1,h2,e,v⟩
 .simp_all
 .simp_all
 .rw[e]at h;cases h
  refine⟨?_,v⟩
  have b:cel rs z (s.1+o,s.2)=cel rs u s:=by
   unfold cel
   have:=a (s.1.toNat - 1) (by ext)
   rw[show o+(s.1.toNat - 1)=(s.1+o).toNat - 1 by ext]at this
   rw[this]
  unfold lSt
  ext
theorem nA(w:Int)(h0:0<=q)(h1:q < (rs.length:Int)):(b9 rs z).at w q=aR (lSt rs z) ((if w=1 then 1 else(z.length:Int)),q):=by
 have a:q.toNat < rs.length:=by ext
 unfold Tb.at b9
 by_cases h:w=1
 .rw[AJ h,AJ h,AK,AE,BN a]
  show aR _ _=_
  rw[DG h0]
 .rw[AL h,AL h,AK,AE,BN a]
  show aR _ _=_
  rw[DG h0]
theorem aWP(M:Mach rs sg)(S:aH sg z)(V:bM rs z s):nH rs.length (aR (lSt rs z) s):=by
 cases e:aR _ s with
 | none=>exact trivial
 | some t=>
  obtain⟨k,h⟩:=cM e
  obtain⟨s',_,c,v⟩:=tF (aIU M S (z:=z) (o:=0) (by simp) λk _=>by rw[GB]) V h
  rcases l_cases M S v with ⟨_,e⟩|⟨_,e⟩|⟨_,_,e,_⟩<;>rw[e]at c<;>cases c
  · exact⟨.inr rfl, v.2.2⟩
  · exact⟨.inl rfl, v.2.2⟩
theorem mM(M:Mach rs sg)(S:aH sg z):(b9 rs z).good rs.length:=by
 have a:∀ p:Int,0<=p->p<=z.length+1->∀ t∈(range rs.length).map λq:Nat=>aR (lSt rs z) (p,q),nH rs.length t:=λp b h1 t c=>by
  obtain⟨q,d,rfl⟩:=A1.mp c
  exact aWP M S ⟨b,h1,by simp,by ext⟩
 exact⟨by simp[b9],by simp[b9],a 1 (by simp) (by ext),a _ (by simp) (by ext)⟩
end
section
variable{rs:L9 Rw}{sg:Nat}{z:L9 Nat}{O:Type}{st2:Int×Int->O9 ((Int×Int)⊕O)}{jmp:Int->O9 (Int⊕O)}{g:Int->Int×Int}{k:Str->O}
structure Gat(rs:List Rw)(z:List Nat)(st2:Int×Int->Option ((Int×Int)⊕O))(jmp:Int->Option (Int⊕O))(g:Int->Int×Int)(k:Str->O):Prop where
 emb:∀ s s',iO rs z s->bN rs z s=some (.inl s')->st2 (id s)=some (.inl (id s'))/\iO rs z s'
 exn:∀ s q,iO rs z s->bN rs z s=some (.inr (.n q))->st2 s=some (.inl (g q))/\b8 rs q
 exw:∀ s x,iO rs z s->bN rs z s=some (.inr (.w x))->st2 s=some (.inr (k x))
 gat:∀ q,b8 rs q->(∃ o,st2 (g q)=some (.inr o)/\jmp q=some (.inr o))\/∃ q',iO rs z ((z.length:Int),q')/\st2 (g q)=some (.inl ((z.length:Int),q'))/\jmp q=match cG rs z q' with
  | .n r=>some (.inl r)
  | .w x=>some (.inr (k x))
theorem aD9(s:Int×Int):bN rs z s≠none:=by
 unfold bN
 split<;>ext
theorem Gat.fwd(G:Gat rs z st2 jmp g k){o:O}:∀ (N:Nat) {q:Int},b8 rs q->Ex st2 N (g q) o->∃ j,Ex jmp j q o:=by
 intro N
 induction N using Nat.strongRecOn with
 | ind N ih=>
  intro q m h
  rcases G.gat q m with ⟨o',a,b⟩|⟨p,V,a,b⟩
  .obtain ⟨_,rfl⟩:=h.det (.out a)
   exact⟨0,.out b⟩
  .cases h with
   | out h=>simp_all
   | go h y=>
    rw[a]at h;cases h
    obtain⟨B,s',t,A,v,d,f,C,i⟩:=aAH G.emb (λs _=>aD9 s) V y
    have l:cG rs z p=t:=by unfold cG dN;rw[fZ v];rfl
    rw[l]at b
    cases t with
    | w x=>exact⟨0,.out (by rw[b,(i.det (.out (G.exw _ x f d))).2])⟩
    | n r=>
     obtain⟨e,c⟩:=G.exn _ r f d
     cases i with
     | out h=>simp_all
     | go h y=>
      rw[show st2 (id s')=_ from e]at h;cases h
      obtain⟨j,u⟩:=ih _ (by ext) c y
      exact⟨_,.go b u⟩
theorem Gat.bwd(G:Gat rs z st2 jmp g k){o:O}(h:Ex jmp j q o)(i:b8 rs q):o=k fD\/∃ N,Ex st2 N (g q) o:=by
 induction h with
 | @out q o h=>
  rcases G.gat q i with ⟨o',a,b⟩|⟨c,V,a,b⟩
  .rw[b]at h;cases h;exact .inr ⟨0,.out a⟩
  .rw[b]at h
   cases e:aR _ _ with
   | none=>
    rw[show cG rs z c=.w fD by unfold cG dN;rw[e];rfl]at h
    simp_all
   | some t=>
    rw[show cG rs z c=t by unfold cG dN;rw[e];rfl]at h
    cases t with
    | n r=>cases h
    | w x=>
     cases h
     obtain⟨l,f⟩:=cM e
     obtain⟨s',r⟩:=tF G.emb V f
     exact .inr ⟨_,.go a (r.1.to (.out (G.exw _ x r.2.2 r.2.1)))⟩
 | @go q q1 o n h _ ih=>
  rcases G.gat q i with ⟨o',a,b⟩|⟨c,V,a,b⟩
  .grind
  .rw[b]at h
   cases e:aR _ _ with
   | none=>
    rw[show cG rs z c=.w fD by unfold cG dN;rw[e];rfl]at h
    ext
   | some t=>
    rw[show cG rs z c=t by unfold cG dN;rw[e];rfl]at h
    cases t with
    | w x=>cases h
    | n r=>
     cases h
     obtain⟨l,f⟩:=cM e
     obtain⟨s',d⟩:=tF G.emb V f
     have e2:=G.exn _ _ d.2.2 d.2.1
     exact(ih e2.2).imp id λN=>by obtain⟨N,m⟩:=N;exact⟨_,.go a (d.1.to (.go e2.1 m))⟩
theorem Gat.eq(G:Gat rs z st2 jmp g k)(b:b8 rs q):(aR st2 (g q)).getD (k fD)=(aR jmp q).getD (k fD):=by
 cases e:aR st2 _ with
 | some o=>
  obtain⟨N,h⟩:=cM e
  obtain⟨j,a⟩:=G.fwd N b h
  rw[fZ a]
 | none=>
  cases e2:aR jmp q with
  | none=>rfl
  | some o=>
   obtain⟨j,a⟩:=cM e2
   rcases G.bwd a b with h|⟨N,h⟩
   · rw [h]; rfl
   · rw [fZ h]at e; ext
theorem Gat.inn(G:Gat rs z st2 jmp g k)(V:iO rs z s):(aR st2 s).getD (k fD)=match dN rs z s with
  | .w x=>k x
  | .n q=>(aR jmp q).getD (k fD):=by
 unfold dN
 cases e:aR (bN rs z) s with
 | none=>
  cases e2:aR st2 s with
  | none=>rfl
  | some o=>
   obtain⟨N,h⟩:=cM e2
   obtain⟨b,s',t,c,a⟩:=aAH G.emb (λs _=>aD9 s) V h
   rw[fZ a.1]at e;cases e
 | some t=>
  obtain⟨b,a⟩:=cM e
  obtain⟨s',r⟩:=tF G.emb V a
  cases t with
  | w x=>
   rw[show aR st2 s=_ from(wZ r.1),resOf_out (s:=id s') (G.exw _ x r.2.2 r.2.1)];rfl
  | n q=>
   rw[show aR st2 s=_ from(wZ r.1),iW (s:=id s') (G.exn _ q r.2.2 r.2.1).1,G.eq (G.exn _ q r.2.2 r.2.1).2];rfl
variable{c:Nat}
theorem aLT(M:Mach rs sg)(S:aH sg z)(j:bD sg c=true):Gat rs z (bN rs (z++[c])) (kD rs (cG rs z) c) (λq=>((z.length:Int)+1,q)) Tn.w:=by
 have d:((z++[c]).length)=(z.length:Int)+1:=by simp
 refine⟨λs s' V h=>?_,λs q V h=>?_,λs x V h=>?_,λq b=>?_⟩
 .rcases beg_cell M S V with ⟨x,e,_⟩|⟨q,e,b,h1,h2⟩
  .unfold bN at h;simp_all
  .unfold bN at h;rw[e]at h
   simp at h
   split at h
   .rename_i f
    cases h
    refine⟨?_,h1,f,b⟩
    show bN rs _ s=_
    unfold bN;rw[tE V.1 V.2.1,e];simp_all
   simp_all
 .rcases beg_cell M S V with ⟨x,e,_⟩|⟨k,e,b,h1,h2⟩
  .unfold bN at h;simp_all
  .unfold bN at h;rw[e]at h
   simp at h
   split at h
   .cases h
   .cases h
    refine⟨?_,b⟩
    unfold bN;rw[tE V.1 V.2.1,e];simp only;rw[AJ (by rw[d];ext),show s.1+(aL rs z s).2=z.length+1 by ext]
 .unfold bN at h ⊢
  rw[tE V.1 V.2.1]
  split at h
  .exact h
  .split at h<;>cases h
 .obtain ⟨_,g,i,a⟩:=m9 M (AD (bQ b.1 b.2)) (show c - 97 < sg by have:=BC j;ext)
  rcases a with a|a
  .refine .inl ⟨.n _,?_,AJ a⟩
   unfold bN;rw[aBK];simp only;rw[AL (by rw[d,a];ext)]
  .refine .inr ⟨_,⟨by show(0:Int)<=z.length;ext,CM _,g,i⟩,?_,AL (by rw[a];decide)⟩
   unfold bN;rw[aBK];simp only;rw[AJ (by rw[d,a];ext),a,show(z.length:Int)+1 + -1=z.length by ext]
theorem aWQ(M:Mach rs sg)(S:aH sg z):Gat rs z (bW rs z) (iB rs (cG rs z)) (λq=>((z.length:Int)+1,q)) id:=by
 refine⟨λs s' V h=>?_,λs q V h=>?_,λs x V h=>?_,λq a=>?_⟩
 .rcases beg_cell M S V with ⟨x,e,_⟩|⟨q,e,a,h1,h2⟩
  .unfold bN at h;simp_all
  .unfold bN at h;rw[e]at h
   simp at h
   split at h
   .rename_i c
    cases h
    refine⟨?_,h1,c,a⟩
    unfold bW;simp_all
   simp_all
 .rcases beg_cell M S V with ⟨x,e,_⟩|⟨d,e,a,h1,h2⟩
  .unfold bN at h;simp_all
  .unfold bN at h;rw[e]at h
   simp at h
   split at h
   .cases h
   .cases h
    refine⟨?_,a⟩
    unfold bW;rw[e];ext
 .unfold bN at h;unfold bW
  split at h
  .simp_all
  .split at h<;>cases h
 .have b:=(M.row _ (AD (bQ a.1 a.2))).1.2.1
  unfold iB bW
  rw[aLS]
  cases e:(aJ rs q).r with
  | w x=>exact .inl ⟨x,rfl,rfl⟩
  | n q'=>
   rw[e]at b
   refine .inr ⟨q',⟨by simp,CM _,b.1,b.2⟩,?_,rfl⟩
   ext
theorem aSO(M:Mach rs sg)(S:aH sg z)(b:bD sg c=true)(a:b8 rs q):cG rs (z++[c]) q=onR rs (cG rs z) c (.n q):=by
 conv=>lhs;unfold cG dN
 rw[show((z++[c]).length)=z.length+1 by simp]
 exact(aLT M S b).eq a
theorem aGM(M:Mach rs sg)(S:aH sg z)(a:bD sg c=true):dN rs (z++[c]) (0,0)=onR rs (cG rs z) c (dN rs z (0,0)):=by
 refine((aLT M S a).inn (rD M z)).trans ?_
 rfl
theorem aGN(M:Mach rs sg)(S:aH sg z):(aR (bW rs z) (0,0)).getD fD=wbR rs (cG rs z) (dN rs z (0,0)):=by
 refine((aWQ M S).inn (rD M z)).trans ?_
 rfl
end
end _e
variable{j:Int×Int}
namespace _e
open _f
variable{rs:L9 Rw}
def iC(f:Tn)(bk:L9 Tn):D4:=.tuple [f.d,.tuple (bk.map Tn.d)]
def bkF(bk:L9 Tn)(q:Int):Tn:=bk.getD q.toNat (.w fD)
def tnV(m:Nat):Tn->Prop
 | .n i=>0<=i/\i < (m:Int)
 | .w _=>True
theorem jK(a b:Int)(h:PyData.int a=PyData.int b):a=b:=by injection h
theorem jL(ps:L9 Int)(q:Int):bU (.int q) ((been PyData.int ps).map (·.1))=true:=by
 unfold bU
 rw[sW,DL]
 refine .inr ?_
 rw[show sK _=true from rfl,FH,CK]
 intro x a
 obtain⟨i,_,rfl⟩:=A1.mp a
 rfl
theorem aSP(i:Int):kK [.d (.int i)]=.ok (.d (.bool false)):=by
 rfl
theorem aSQ(x:Str):kK [.d (.str x)]=.ok (.d (.bool true)):=by
 rfl
def f6(rs:L9 Rw)(k:Nat):D4:=.list (rs.map λr=>cellD (ck k r))
theorem aEA{k:Nat}(h0:0<=q)(h1:q < (rs.length:Int)):dIx (f6 rs k) (.int q)=.ok (cellD (ck k (aJ rs q))):=lA (kP h0 (by rw[AE,bQ h0 h1];rfl))
theorem aP2{bk:L9 Tn}(h0:0<=q)(h1:q < (bk.length:Int)):dIx (.tuple (bk.map Tn.d)) (.int q)=.ok (bkF bk q).d:=by
 refine iS (kP h0 ?_)
 rw[AE]
 unfold bkF
 ext
theorem p5{bk:L9 Tn}(a:∀ t∈bk,tnV m t)(q:Int):tnV m (bkF bk q):=by
 unfold bkF
 rw[AK]
 cases e:bk[q.toNat]? with
 | none=>exact trivial
 | some t=>exact a t (AD e)
def oρ(rs:L9 Rw)(bk:L9 Tn)(k:Nat)(t:Tn)(ps:L9 Int)(u:O9 A):Sg:=[some (.d (.tuple (bk.map Tn.d))),some (.d (f6 rs k)),some (.d t.d),some (.m (been PyData.int ps)),u]
theorem aWR{bk:L9 Tn}{ps:L9 Int}{u:O9 A}:oT (oρ rs bk k (.w x) ps u)=.ok false:=by
 rfl
theorem aOC{bk:L9 Tn}{ps:L9 Int}{u:O9 A}:oT (oρ rs bk k (.n q) ps u)=.ok true:=by
 rfl
theorem aWS{bk:L9 Tn}{ps:L9 Int}{u:O9 A}(h:q∈ps):oB (oρ rs bk k (.n q) ps u)=.ok (.rt (.d (.str "ever"))):=by
 simp[oB,oρ,Tn.d,(jL ps q),((i7 jK).mpr h)]
theorem aWT{bk:L9 Tn}{ps:L9 Int}{u:O9 A}(h:q∉ps)(a:b8 rs q)(e:ps.length<=16777216)(c:(ck k (aJ rs q)).2=1):oB (oρ rs bk k (.n q) ps u)=.ok (.rt (.d (.int (ck k (aJ rs q)).1))):=by
 have b:(been PyData.int ps).length<=16777216:=by rw[eG];ext
 simp[oB,oρ,Tn.d,(jL ps q),(eS jK h),b,(aEA (k:=k) a.1 a.2),cellD,bV,c]
theorem aYH{bk:L9 Tn}{ps:L9 Int}{u:O9 A}(h:q∉ps)(a:b8 rs q)(f:ps.length<=16777216)(e:(ck k (aJ rs q)).2≠1)(h0:0<=(ck k (aJ rs q)).1)(c:(ck k (aJ rs q)).1 < (bk.length:Int)):oB (oρ rs bk k (.n q) ps u)=.ok (.nx (oρ rs bk k (bkF bk (ck k (aJ rs q)).1) (ps++[q]) (some (.d (cellD (ck k (aJ rs q))))))):=by
 have b:(been PyData.int ps).length<=16777216:=by rw[eG];ext
 simp[oB,oρ,Tn.d,(jL ps q),(eS jK h),(fM jK h),b,(aEA (k:=k) a.1 a.2),cellD,bV,e,(aP2 h0 c)]
theorem u8{l:L9 Int}(c:l.Nodup)(g:∀ q∈l,0<=q/\q < (m:Int)):l.length<=m:=
 oC (λq:Int=>q.toNat) m l c (λq d=>by simp_all) (λa h b f e=>by
  ext)
theorem aAI{bk:Int->Tn}:kD rs bk c q=if (ck (c - 97) (aJ rs q)).2=1 then some (.inr (.n (ck (c - 97) (aJ rs q)).1))else match bk (ck (c - 97) (aJ rs q)).1 with
 | .n r=>some (.inl r)
 | .w x=>some (.inr (.w x)):=id rfl
theorem aSR{bk:L9 Tn}(M:Mach rs sg)(l:bD sg c=true)(hb:bk.length=rs.length)(j:∀ t∈bk,tnV rs.length t):∀ (n:Nat) (ps:L9 Int) (q:Int) (u:O9 A),Und2 (kD rs (bkF bk) c) i ps q->(∀ p∈ps,b8 rs p)->b8 rs q->rs.length+1<=ps.length+n->
  aC (aW oT oB) (aM (vV 2)) (oρ rs bk (c - 97) (.n q) ps u)=.ok (.rt (.d ((aR (kD rs (bkF bk) c) i).getD (.w fD)).d)):=by
 intro n
 induction n with
 | zero=>
  intro ps q u U pv b k
  have:=u8 U.nd pv
  ext
 | succ n ih=>
  intro ps q u U pv b k
  rw[aN]
  by_cases a:q∈ps
  .rw[fG aOC (aWS a),U.met a];rfl
  .have m:=u8 U.nd pv
   have f:ps.length<=16777216:=by have:=M.len2;ext
   have g:=(m9 M (AD (bQ b.1 b.2)) (show c - 97 < sg by have:=BC l;ext)).2
   by_cases h1:(ck (c - 97) (aJ rs q)).2=1
   .rw[fG aOC (aWT a b f h1),U.outs (AJ h1)];rfl
   .rw[dE aOC (aYH a b f h1 g.1 (by rw[hb];exact g.2.1))]
    have h:=p5 j (ck (c - 97) (aJ rs q)).1
    cases e:bkF bk _ with
    | w x=>
     rw[bR aWR,U.outs (by rw[aAI,AL h1,e])]
     rfl
    | n r=>
     rw[e]at h
     have:=ih _ r (some (.d (cellD (ck (c - 97) (aJ rs q))))) (U.next a (by rw[aAI,AL h1,e])) (λp f=>by
      rcases BO.mp f with z|z
      · exact pv p z
      · rw [AZ.mp z]; ext) h (by rw [A7, CS]; ext)
     assumption
theorem aWU{bk:L9 Tn}(M:Mach rs sg)(f:bD sg c=true)(hb:bk.length=rs.length)(e:∀ t∈bk,tnV rs.length t){t:Tn}(b:tnV rs.length t):kM [.d (.tuple (bk.map Tn.d)),.d (f6 rs (c - 97)),.d t.d]=.ok (.d (onR rs (bkF bk) c t).d):=by
 have a:aC (aW oT oB) (aM (vV 2)) (oρ rs bk (c - 97) t [] none)=.ok (.rt (.d (onR rs (bkF bk) c t).d)):=by
  cases t with
  | w x=>
   rw[aN,bR aWR]
   rfl
  | n q=>exact aSR M f hb e (rs.length+1) [] q none Und2.start (λp g=>by simp_all) b (by simp)
 unfold kM
 rw[aBH]
 simp only[cZ,aN,nU,R.bind_ok,AT,A5,AW,BE,A8,BD,replicate,AX,A0]
 rw[aN]at a
 simp only[oρ,been,BE]at a
 rw[a];rfl
theorem aYI{bk:L9 Tn}(M:Mach rs sg)(b:bD sg c=true)(hb:bk.length=rs.length)(a:∀ t∈bk,tnV rs.length t){t:Tn}(k:tnV rs.length t) :
  gE [.d (iC t bk),.d (f6 rs (c - 97))]=.ok (.d (iC (onR rs (bkF bk) c t) ((range rs.length).map λq:Nat=>onR rs (bkF bk) c (.n (q:Int))))):=by
 have h:=bA (fs:=stN 0) (fe:=eA (aE 3 kM (aA (vD (e2 dIx (rV 1) (eC (.int 1)))) (aA (vV 2) (aA (vV 0) aB))))) (Y0:=[none,some (.d (iC t bk)),some (.d (f6 rs (c - 97)))]) (d:=λi:Nat=>.int i) (g:=λi:Nat=>(onR rs (bkF bk) c (.n i)).d) (xs:=range rs.length) λi hi=>by
  refine⟨_,rfl,?_⟩
  have:=aWU M b hb a (t:=.n i) ⟨by simp,by ext⟩
  have e:(Tn.n _).d=.int i:=rfl
  rw[e]at this
  simp[iC,this]
 have j:dLen (f6 rs (c - 97))=.ok (.int rs.length):=by unfold f6;simp
 have f:dIx (iC t bk) _=.ok t.d:=pW _ _
 have h2:dIx (iC t bk) _=.ok _:=aD4 _ _ _
 unfold gE aDU
 simp[f,h2,(aWU M b hb a k),j,(fH (n:=rs.length) (by have:=M.len2;ext)),cK,h]
 unfold iC
 rw[A6];rfl
def aI(rs:L9 Rw)(z:L9 Nat):D4:=iC (dN rs z (0,0)) ((range rs.length).map λq:Nat=>cG rs z (q:Int))
theorem lR(M:Mach rs sg)(S:aH sg z)(V:iO rs z s):tnV rs.length (dN rs z s):=by
 unfold dN
 cases e:aR _ s with
 | none=>exact trivial
 | some t=>
  obtain⟨n,h⟩:=cM e
  clear e
  induction h with
  | @out s o h=>
   unfold bN at h
   rcases beg_cell M S V with ⟨x,e,b⟩|⟨q,e,a,h1,h2⟩
   .rw[e]at h;cases h;exact trivial
   .rw[e]at h
    simp at h
    split at h
    · cases h
    · cases h; exact a
  | @go s s' o n h t ih=>
   refine ih ?_
   unfold bN at h
   rcases beg_cell M S V with ⟨x,e,b⟩|⟨q,e,a,h1,h2⟩
   .simp_all
   .rw[e]at h
    simp at h
    split at h
    · rename_i c; cases h; exact⟨h1, c, a⟩
    simp_all
theorem yQ{q:Nat}(h:q < rs.length):iO rs z ((z.length:Int),(q:Int)):=⟨by simp,CM _,by simp,by ext⟩
theorem aAJ(a:b8 rs q):bkF ((range rs.length).map λq:Nat=>cG rs z (q:Int)) q=cG rs z q:=by
 unfold bkF
 rw[AK,AE,BN (by have:=a.1;have:=a.2;ext)]
 show cG rs z _=_
 rw[show(q.toNat)=q by have:=a.1;ext]
theorem aEB(M:Mach rs sg)(j:bD sg c=true){bk a:Int->Tn}(h:∀ q,b8 rs q->bk q=a q)(m:∀ q,b8 rs q->tnV rs.length (bk q)){t:Tn}(p:tnV rs.length t):onR rs bk c t=onR rs a c t:=by
 cases t with
 | w x=>rfl
 | n q=>
  have st:∀ q,b8 rs q->kD rs bk c q=kD rs a c q:=λq b=>by
   unfold kD
   have f:=m9 M (AD (bQ b.1 b.2)) (show c - 97 < sg by have:=BC j;ext)
   rw[h _ ⟨f.2.1,f.2.2.1⟩]
  have nx:∀ q d,b8 rs q->kD rs bk c q=some (.inl d)->b8 rs d:=λq d b e=>by
   unfold kD at e
   have f:=m9 M (AD (bQ b.1 b.2)) (show c - 97 < sg by have:=BC j;ext)
   have i:=m _ ⟨f.2.1,f.2.2.1⟩
   split at e
   .grind
   .split at e
    · rename_i r l; cases e; rw [l]at i; exact i
    · cases e
  have g:=aGL (st:=kD rs bk c) (st2:=kD rs a c) (e:=id) (k:=id) (ev:=.w fD) (Dom:=b8 rs) (λq b=>?_) p
  .exact (g.trans (by rw[Option.map_id];rfl)).symm
  .have e:=(st q b).symm
   cases e2:kD rs bk c q with
   | none=>unfold kD at e2;split at e2<;>(try split at e2)<;>cases e2
   | some x=>
    rw[e2]at e
    cases x with
    | inl d=>exact .inl ⟨d,rfl,e,nx q d b e2⟩
    | inr o=>exact .inr ⟨o,rfl,by rw[resOf_out (s:=id q) e];rfl⟩
theorem aEC(M:Mach rs sg)(S:aH sg z)(b:bD sg c=true):gE [.d (aI rs z),.d (f6 rs (c - 97))]=.ok (.d (aI rs (z++[c]))):=by
 have e:∀ t∈(range rs.length).map λq:Nat=>cG rs z q,tnV rs.length t:=λt g=>by
  obtain⟨q,f,rfl⟩:=A1.mp g
  exact lR M S (yQ (BI.mp f))
 unfold aI
 rw[aYI M b (by simp) e (lR M S (rD M z))]
 rw[aEB M b (λq a=>aAJ a) (λq a=>p5 e q) (lR M S (rD M z)),aGM M S b]
 have h:((range rs.length).map λq:Nat=>onR rs (bkF ((range rs.length).map λq:Nat=>cG rs z q)) c (.n q))=(range rs.length).map λq:Nat=>cG rs (z++[c]) q:=?_
 .rw[h]
 refine A9 λq f=>?_
 have a:b8 rs q:=⟨by simp,by ext⟩
 rw[aEB M b (λq a=>aAJ a) (λq a=>p5 e q) (t:=.n q) a,aSO M S b a]
theorem aIV(M:Mach rs sg):aP (aK rs)=.ok (rs.map aY):=c9 (by have:=M.len2;ext)
theorem aED(rs:L9 Rw)(f:Rw->α):rs.map f=(range rs.length).map λq:Nat=>f (aJ rs (q:Int)):=by
 apply List.ext_getElem
 .simp
 .intro i h1 h2
  simp[List.getElem_range]
  unfold aJ
  simp_all
theorem aYJ(M:Mach rs sg):fW [.d (aK rs)]=.ok (.d (aI rs [])):=by
 have e1:aI rs []=.tuple [(aJ rs 0).l.d,.tuple (rs.map λr=>r.l.d)]:=by
  unfold aI iC
  rw[aAG,aED rs,A6]
  congr 4
  refine A9 λq _=>?_
  show(dN rs [] _).d=_
  rw[show((([]).length):Int)=0 by rfl,aAG]
 obtain⟨r,t,a,_⟩:=M.cons
 have b:dIx (.tuple (rs.map λr=>r.l.d)) (.int 0)=.ok (aJ rs 0).l.d:=by
  subst a
  exact pW _ _
 rw[e1]
 unfold fW oM
 simp[aIV M,cK,(bA (fs:=stN 0) (fe:=e2 dIx (rV 0) (eC (.int 0))) (Y0:=[none]) (d:=aY) (xs:=rs) λr _=>⟨_,rfl,by rfl⟩),b]
theorem aWV(M:Mach rs sg)(Y0:Sg)(h:cK [none,some 0] Y0=[none,some (.d (aK rs))]) :
  compL (stN 0) cF (eA (aE 2 hR (aA (vV 1) (aA (vV 0) aB)))) (cK [none,some 0] Y0) ((range sg).map λi:Nat=>.int (i:Int))=.ok ((range sg).map (f6 rs)):=by
 rw[h]
 refine bA λk a=>⟨_,rfl,?_⟩
 have:=aGH M (BI.mp a)
 simp[this]
 rfl
def byρ(rs:L9 Rw)(z:Str)(s:Int×Int)(ps:L9 (Int×Int)):Sg:=[some (.d (aK rs)),some (.d (.str z)),some (.d (.int s.1)),some (.d (.int s.2)),some (.m (been prD ps))]
theorem aLU{z:Str}(hz:z.cps.toList.length<=16777216):byT (byρ rs z s ps)=.ok (decide (s.1<=(z.cps.toList.length:Int))):=by
 have a:=pV (by assumption)
 rw[gW]at a
 simp[byT,byρ,a]
theorem aSS{z:Str}(h:s∈ps):byB (byρ rs z s ps)=.ok (.rt (.d (.str "ever"))):=by
 have h1:bU (.tuple _) _=true:=bS cS ps s
 have h2:b7 _ (.tuple _)=true:=(i7 cH).mpr h
 simp[byB,byρ,h1,h2]
theorem aYK{z:Str}(h:(0,q)∉ps)(c:ps.length<=16777216)(a:b8 rs q)(e:(aJ rs q).l=.w x):byB (byρ rs z (0,q) ps)=.ok (.rt (.d (.str x))):=by
 have h1:bU (.tuple _) _=true:=bS cS ps (0,q)
 have h2:b7 _ (.tuple _)=false:=eS cH h
 have b:(been prD ps).length<=16777216:=by rw[eG];ext
 simp[byB,byρ,h1,h2,b,bV,(i9 a.1 a.2),aY,e,Tn.d,aD7]
theorem aWW{z:Str}(M:Mach rs sg)(S:aH sg z.cps.toList){s':Int×Int}(h:s∉ps)(j:ps.length<=16777216)(V:iO rs z.cps.toList s)(e:bL rs z.cps.toList s=some s'):byB (byρ rs z s ps)=.ok (.nx (byρ rs z s' (ps++[s]))):=by
 obtain⟨p,q⟩:=s
 have h1:bU (.tuple _) _=true:=bS cS ps (p,q)
 have h2:b7 _ (.tuple _)=false:=eS cH h
 have c:putM _ (.tuple _) _=been prD _:=fM cH h
 have g:(been prD ps).length<=16777216:=by rw[eG];ext
 have f:=yM M S V.valid
 rw[e]at f
 simp[mS,prD]at f
 by_cases b:p=0
 .subst b
  have a:∃ i,(aJ rs q).l=.n i:=by
   unfold bL aL at e
   ext
  obtain⟨i,a⟩:=a
  simp[byB,byρ,h1,h2,c,g,bV,(i9 V.2.2.1 V.2.2.2),aY,a,Tn.d,aD6,f]
 .simp[byB,byρ,h1,h2,c,g,bV,b,f]
theorem aST{z:Str}(M:Mach rs sg)(S:aH sg z.cps.toList):∀ (n:Nat) (ps:L9 (Int×Int)) (s:Int×Int),Und2 (bN rs z.cps.toList) j ps s->(∀ p∈ps,iO rs z.cps.toList p)->iO rs z.cps.toList s->iP rs z.cps.toList+1<=ps.length+n->
  aC (aW byT byB) (aM (vV 3)) (byρ rs z s ps)=.ok (.rt (.d ((aR (bN rs z.cps.toList) j).getD (.w fD)).d)):=by
 have g:z.cps.toList.length<=16777216:=by have:=S.1;ext
 have m:iP rs z.cps.toList<=1002 * 1000:=E7 (by have:=S.1;ext) M.len2
 intro n
 induction n with
 | zero=>
  intro ps s U pv V i
  have:=qJ U.nd λst h=>(pv st h).valid
  unfold iP at i
  ext
 | succ n ih=>
  intro ps s U pv V i
  rw[aN]
  have f:byT (byρ rs z s ps)=.ok true:=by rw[aLU g,A2 V.2.1]
  by_cases a:s∈ps
  .rw[fG f (aSS a),U.met a];rfl
  .have o:ps.length<=iP rs z.cps.toList:=qJ U.nd λst h=>(pv st h).valid
   have c:ps.length<=16777216:=by ext
   rcases beg_cell M S V with ⟨x,e,k⟩|⟨q,e,l,h1,h2⟩
   .obtain ⟨p,q⟩:=s
    subst k
    rw[fG f (aYK a c V.2.2 (by unfold aL at e;rw[AJ rfl]at e;exact e)),U.outs (show bN rs z.cps.toList (0,q)=some (.inr (.w x))by unfold bN;rw[e])];rfl
   .rw[dE f (aWW M S a c V (by unfold bL;rw[e]))]
    by_cases b:s.1+(aL rs z.cps.toList s).2<=(z.cps.toList.length:Int)
    .have:=ih (ps++[s]) (s.1+(aL rs z.cps.toList s).2,q) (U.next a (by unfold bN;rw[e];simp only;rw[AJ b])) (λp c=>by
      rcases BO.mp c with z|z
      · ext
      · rw [AZ.mp z]; exact V) ⟨h1, b, l⟩ (by rw [A7, CS]; ext)
     simp_all
    .rw[bR (by rw[aLU g,BA b]),U.outs (by unfold bN;rw[e];simp only;rw[AL b])]
     simp[byρ,Tn.d]
theorem aP3{z:Str}(M:Mach rs sg)(S:aH sg z.cps.toList)(V:iO rs z.cps.toList s):fR [.d (aK rs),.d (.str z),.d (.int s.1),.d (.int s.2)]=.ok (.d (dN rs z.cps.toList s).d):=by
 have a:=aST M S (iP rs z.cps.toList+1) [] s Und2.start (λp b=>by simp_all) V (by simp)
 unfold fR
 rw[rT]
 simp only[cZ,aN,nU,R.bind_ok,AT,A5,AW,BE,A8,BD,replicate,AX,A0]
 rw[aN]at a
 simp only[byρ,been,BE]at a
 rw[a];rfl
theorem aLV{z:Str}(M:Mach rs sg)(S:aH sg z.cps.toList):eI [.d (aK rs),.d (.str z)]=.ok (.d (aI rs z.cps.toList)):=by
 have c:z.cps.toList.length<=16777216:=by have:=S.1;ext
 have a:=pV (by assumption)
 rw[gW]at a
 have h:=bA (fs:=stN 0) (fe:=eA (aE 4 fR (aA (vV 1) (aA (vV 2) (aA (vD (e1 dLen (rV 2))) (aA (vV 0) aB)))))) (Y0:=[none,some (.d (aK rs)),some (.d (.str z))]) (d:=λi:Nat=>.int i) λi hi=>by
  refine⟨_,rfl,?_⟩
  have:=aP3 M S (yQ (BI.mp hi))
  simp only[k7,cL,bY,fC,dY,dM,c8,b6,AX,AS,AN,R.bind_ok,a,this]
  rfl
 have b:dLen (aK rs)=.ok (.int rs.length):=by unfold aK;simp
 unfold eI nY
 simp[b,(fH (n:=rs.length) (by have:=M.len2;ext)),cK,h,(aP3 M S (rD M z.cps.toList))]
 unfold aI iC
 rw[A6];rfl
def jP(k:Int):Tn->Tn
 | .n q=>.n (q+k)
 | .w x=>.w x
def aWX(k:Int)(c:Int×Int):Int×Int:=(c.1+k,c.2)
def jB(k:Int)(r:Rw):Rw:=⟨jP k r.l,r.c.map (aWX k),jP k r.r⟩
def cX(sg:Nat)(rs:L9 Rw):L9 Rw:=⟨.n 0,replicate sg (0,1),jP 1 (aJ rs 0).l⟩::(iN rs).map (jB 1)
theorem tH(sg:Nat)(rs:L9 Rw):(cX sg rs).length=rs.length+1:=by simp[cX,iN]
theorem aLW{sg:Nat}(h0:0<=q)(h1:q < (rs.length:Int)):aJ (cX sg rs) (q+1)=jB 1 (rB (aJ rs q)):=by
 have e:(q+1).toNat=q.toNat+1:=by ext
 have h:=bQ h0 h1
 unfold aJ at h ⊢
 rw[e,AK]
 simp only[cX,iN,AN,AE,h]
 rfl
theorem yR:aJ (cX sg rs) 0=⟨.n 0,replicate sg (0,1),jP 1 (aJ rs 0).l⟩:=rfl
def phi(n:Nat)(s:Int×Int):Int×Int:=((n:Int)+1 - s.1,s.2+1)
theorem tJ{t:Tn}(h:t.good n):(jP 1 t).good (n+1):=by
 cases t with
 | n q=>exact⟨by have:=h.1;ext,by have:=h.2;ext⟩
 | w x=>exact h
theorem aIW(M:Mach rs sg)(l:rs.length<=999):Mach (cX sg rs) sg where
 len:=by rw[tH];ext
 len2:=by rw[tH];ext
 sg1:=M.sg1
 sg3:=M.sg3
 row:=λr hr=>by
  rw[tH]
  have b:(((rs.length+1:Nat)):Int)=(rs.length:Int)+1:=by ext
  rw[b]
  have g:=M.len
  rcases AV.mp hr with rfl|hr
  .have j:=M.row _ (AD (bQ (rs:=rs) (q:=0) (by ext) (by ext)))
   refine⟨⟨⟨by show(0:Int)<=0;ext,by show(0:Int) < _;ext⟩,tJ j.1.1,λc b=>?_⟩,by simp⟩
   rw[(List.mem_replicate.mp b).2]
   exact⟨by show(0:Int)<=0;ext,by show(0:Int) < _;ext,.inl rfl⟩
  .obtain ⟨i,d,rfl⟩:=A1.mp hr
   have a:=(aD5 M).row i d
   have h:(iN rs).length=rs.length:=by simp[iN]
   rw[h]at a
   refine⟨⟨tJ a.1.1,tJ a.1.2.1,λc b=>?_⟩,by simp[jB,a.2]⟩
   obtain⟨e,f,rfl⟩:=A1.mp b
   obtain⟨m,n,k⟩:=a.1.2.2 e f
   exact⟨by show 0<=e.1+1;ext,by show e.1+1 < _;ext,k⟩
theorem aWY{p:Int}(h1:1<=p)(h2:p<=(z.length:Int)):z.reverse.getD (((z.length:Int)+1 - p).toNat - 1) 97=z.getD (p.toNat - 1) 97:=by
 ext
theorem aIX(M:Mach rs sg)(S:aH sg z)(V:bM rs z s):bW (cX sg rs) z.reverse (phi z.length s)=(bW rs z s).map (Sum.map (phi z.length) id):=by
 obtain⟨p,q⟩:=s
 obtain⟨h,f⟩:=id V
 have g:aL (cX sg rs) z.reverse (phi z.length (p,q))=(jP 1 (aL rs z (p,q)).1,-(aL rs z (p,q)).2):=by
  unfold aL phi
  simp only[CW,(aLW (sg:=sg) f.2.1 f.2.2)]
  by_cases a:p=0
  .subst a
   rw[AL (by ext),AJ (by rfl)];rfl
  .by_cases h1:p=z.length+1
   .rw[AJ (by ext),AL a,AJ h1];rfl
   .obtain ⟨b,d⟩:=lK M S V a h1
    rw[AL (by ext),AL (by ext),AL a,AL h1,aWY (by ext) (by ext),d.2.1]
    have:(jB 1 (rB (aJ rs q))).c.getD (z.getD (p.toNat - 1) 97 - 97) (0,0)=(b.1+1,-b.2):=by
     rw[AK]
     simp only[jB,rB,AE,d.1]
     rfl
    rw[this];rfl
 unfold bW
 rw[g]
 cases e:(aL rs z _).1 with
 | w x=>rfl
 | n q'=>simp[jP,phi];ext
theorem aOD(S:aH sg z):∀ k:Nat,k<=z.length->Rc (bW (cX sg rs) z.reverse) (k+1) (0,0) ((k:Int)+1,0):=by
 intro k
 induction k with
 | zero=>
  intro _
  refine .cons ?_ .nil
  rfl
 | succ k ih=>
  intro c
  refine(ih (by ext)).snoc ?_
  have b:aL (cX sg rs) z.reverse (k+1,0)=(.n 0,1):=by
   unfold aL
   simp only[CW,yR]
   rw[AL (by ext),AL (by ext)]
   have hi:z.reverse.getD (((k:Int)+1).toNat - 1) 97 - 97 < sg:=by
    have a:((k:Int)+1).toNat - 1 < z.reverse.length:=by rw[CW];ext
    rw[AK,AI a,Option.getD_some]
    have:=S.2 _ (List.mem_reverse.mp (CY a))
    have:=BC this
    ext
   rw[AK,CV,AJ hi];rfl
  unfold bW
  rw[b]
  rfl
theorem aIY(M:Mach rs sg)(S:aH sg z):a7 (cX sg rs) z.reverse=a7 rs z:=by
 unfold a7
 rw[aWM (aOD S z.length (AM _))]
 have c:=M.len
 have a:bW (cX sg rs) z.reverse (z.length+1,0)=(bW rs z (0,0)).map (Sum.map (phi z.length) id):=by
  have h1:aL (cX sg rs) z.reverse (z.length+1,0)=(jP 1 (aJ rs 0).l,-1):=by
   unfold aL
   simp only[CW,yR]
   rfl
  have h2:aL rs z (0,0)=((aJ rs 0).l,1):=by rfl
  unfold bW
  rw[h1,h2]
  cases(aJ rs 0).l with
  | w x=>rfl
  | n q=>rfl
 rcases walk_step (s:=(0,0))with ⟨x,_,_,e⟩|⟨s',d,e⟩
 .rw[e]at a
  rw[resOf_out a,resOf_out e];rfl
 .rw[e]at a
  rw[iW a,iW e]
  have:=aLN _ id _ (λs f v h=>by
   rcases walk_step with ⟨x,_,_,b⟩|⟨g,e1,b⟩
   · rw [b]at h; ext
   · rw [b]at h; cases h; exact kS M S v e1) (λs v => aIX M S v) (kS M S (⟨CM _, by show 0 <= _; ext, CM _, by show 0 < _; ext⟩) d)
  simp_all
theorem aLX{t:Tn}(h:t.good n)(k:Int):gS [.d t.d,.d (.int k)]=.ok (.d (jP k t).d):=by
 cases t with
 | n q=>simp[gS,nS,Tn.d,mY,jP]
 | w x=>simp[gS,nS,Tn.d,mZ h,jP]
theorem aWZ{r:Rw}(h:r.good n)(b:r.c.length<=1000)(k:Int):jV [.d (aY r),.d (.int k)]=.ok (.d (aY (jB k r))):=by
 have a:aP _=.ok (r.c.map cellD):=c9 (by ext)
 simp[jV,vQ,aY,a,cK,(bA (fs:=stN 0) (fe:=bH (aA (e2 bJ (e2 dIx (rV 0) (eC (.int 0))) (rV 1)) (aA (e2 dIx (rV 0) (eC (.int 1))) aB))) (Y0:=[none,some (.d (.int k))]) (d:=cellD) (g:=λc=>cellD (aWX k c)) (xs:=r.c) λc _=>⟨_,rfl,by rfl⟩),aLX h.1,aLX h.2.1,jB]
theorem aW0(M:Mach rs sg)(k:Int):uW [.d (aK rs),.d (.int k)]=.ok (.d (.list (rs.map λr=>aY (jB k r)))):=by
 have h1:=bA (fs:=stN 0) (fe:=eA (aE 2 jV (aA (vV 0) (aA (vV 1) aB)))) (Y0:=[none,some (.d (.int k))]) (d:=aY) (g:=λr=>aY (jB k r)) λr hr=>⟨_,rfl,by
  have g:=M.row r hr
  have:=M.sg3
  simp[aWZ g.1 (by ext)]⟩
 have a:aP (aK rs)=.ok _:=c9 (by have:=M.len2;rw[AC];ext)
 simp[uW,aGD,a,cK,h1]
theorem aSU(x:α)(n:Nat):(replicate n [x]).flatten=replicate n x:=by simp
theorem aLY{x:D4}{n:Nat}(h1:1<=n)(a:n<=1000):oK (.tuple [x]) (.int (n:Int))=.ok (.tuple (replicate n x)):=by
 unfold oK
 simp only
 rw[AJ ⟨by ext,rfl,by simp_all⟩,Int.toNat_natCast,aSU]
end _e
variable{i n:Nat}
namespace _f
@[simp] theorem aOE(i:Nat)(f:Sg->R (L9 (D4×D4)))(Y:Sg):x9 i f Y=(f Y).bind λa0=>(gO [] a0).bind λres=>.ok (.nx (Y.set i (some (.m res)))):=id rfl
@[simp] theorem aSV(Y:Sg):aIB Y=.ok []:=id rfl
@[simp] theorem aOF(f g:Sg->R D4)(r:Sg->R (L9 (D4×D4)))(Y:Sg):aB4 f g r Y=(f Y).bind λx=>(g Y).bind λy=>(r Y).bind λt=>.ok ((x,y)::t):=id rfl
end _f
variable{N:Nat}
namespace _e
open _f
variable{gs:L9 D4}
theorem aEE{rs:L9 Rw}(M:Mach rs sg)(S:aH sg z):a7 rs z="by"\/a7 rs z="out"\/a7 rs z="ever":=by
 obtain⟨_,ps,⟨p,r⟩,_,V,q⟩:=wY (z:=⟨z.toArray⟩) M S
 have c:=(M.row _ (AD (bQ V.2.2.1 V.2.2.2))).1
 unfold a7
 rcases q with ⟨_,x,a,d⟩|⟨_,d⟩
 .have:x="by"\/x="out":=by
   unfold aL at a
   by_cases b:p=0
   .rw[AJ b]at a;have k:=c.1;rw[show(aJ rs r).l=.w x from a]at k;exact k
   .rw[AL b]at a
    split at a
    · have k := c.2.1; rw [show(aJ rs r).r = .w x from a]at k; exact k
    simp_all
  ext
 ext
theorem lS{w:Str}(h:w="by"\/w="out"\/w="ever"):shaped (.str w)=true:=by rcases h with rfl|rfl|rfl<;>decide +kernel
theorem aYL{w:Str}(h:w="by"\/w="out"\/w="ever"):dEq (.str w) (.str w)=.ok (.bool true):=by
 rw[yJ (lS h) (lS h),aQU]
theorem tK{w v:Str}(h:w="by"\/w="out"\/w="ever")(h':v="by"\/v="out"\/v="ever"):dEq (.str w) (.str v)=.ok (.bool (decide (w=v))):=by
 rw[yJ (lS h) (lS h')]
 rfl
@[simp] theorem aZ6(m i:Nat)(f:Sg->R (L9 D4))(Y:Sg):aIC m i f Y=match Y[i]? with|some (some (.g k n G))=>(f Y).bind λds=>if k<=m/\ds.length=n then G ds else .bad|_=>.bad:=id rfl
@[simp] theorem aZU(m i:Nat)(f:Sg->R (L9 D4))(Y:Sg):aB5 m i f Y=match Y[i]? with|some (some (.g k n G))=>(f Y).bind λds=>if k<=m/\ds.length=n then(match G ds with | .ok d=>if uP d=true then .ok d else .bad|_=>.bad)else .bad|_=>.bad:=id rfl
def gX(fs:L9 D4):L9 (D4×D4):=fs.zipIdx.map λp=>(p.1,.int (p.2:Int))
theorem rE(fs:L9 D4):(gX fs).map (·.1)=fs:=by
 unfold gX
 rw[A6]
 show fs.zipIdx.map Prod.fst=fs
 simp
theorem aGO(fs:L9 D4):(gX fs).length=fs.length:=by unfold gX;simp
theorem w4{fs:L9 D4}{x:D4}(hx:g8 x=true)(h:∀ y∈fs,g8 y=true):bU x ((gX fs).map (·.1))=true:=by
 unfold bU
 rw[rE,hx,FH,DL,CK]
 exact .inl h
theorem aAK{fs:L9 D4}{x:D4}:b7 (gX fs) x=true↔x∈fs:=by rw[wL,rE]
theorem w5{fs:L9 D4}{x:D4}(h:x∉fs):b7 (gX fs) x=false:=by
 cases q:b7 _ x with
 | false=>rfl
 | true=>exact absurd (aAK.mp q) h
theorem aGP{fs:L9 D4}{x:D4}(h:x∉fs):putM (gX fs) x (.int (fs.length:Int))=gX (fs++[x]):=by
 unfold putM
 rw[w5 h,AL (by simp)]
 unfold gX
 ext
theorem aSW{fs:L9 D4}{x:D4}(h:x∈fs):∃ i:Nat,fP (gX fs) x=some (.int (i:Int))/\fs[i]? = some x:=by
 unfold fP
 cases e:(gX fs).find? λp=>decide (p.1=x)with
 | none=>
  rw[<-rE fs]at h
  ext
 | some p=>
  have h2:=List.mem_of_find?_eq_some e
  unfold gX at h2
  ext
structure Srch where
 after:D4->List D4
 x0:D4
 good:Nat->D4->Prop
 lim:Nat
 k1:Nat
 k2:Nat
 G:List D4->R D4
 D:List D4->R D4
structure Srch.ok(S:Srch):Prop where
 g0:S.good 0 S.x0
 gs:∀ i x,S.good i x->i<=S.lim->∀ y∈S.after x,S.good (i+1) y
 up:∀ i j x,i<=j->S.good i x->S.good j x
 few:∀ xs:List D4,xs.Nodup->(∀ x∈xs,∃ i,S.good i x)->xs.length<=S.lim
 key:∀ i x,S.good i x->g8 x=true
 hk1:S.k1<=12
 hk2:S.k2<=12
 hG:∀ i x,i<=S.lim->S.good i x->S.G [x]=.ok (.list (S.after x))/\(S.after x).length<=16777216
 hD:∀ (fs:List D4) (i:Int),fs.length<=S.lim->S.D [.list fs,.int i]=.ok (.bool false)
 hl:S.lim<=16000000
def cT(js:L9 Nat):D4:=.tuple (js.map λj:Nat=>.int (j:Int))
def adQ(fs:L9 D4)(y:D4):L9 D4:=if y∈fs then fs else fs++[y]
def adA(fs ys:L9 D4):L9 D4:=ys.foldl adQ fs
def nrQ(fs:L9 D4)(y:D4):Nat:=fs.idxOf y
theorem nZ{fs:L9 D4}{y:D4}(h:y∈fs):adQ fs y=fs:=AJ h
theorem lT{fs:L9 D4}{y:D4}(h:y∉fs):adQ fs y=fs++[y]:=AL h
theorem p6(fs:L9 D4)(y:D4):fs <+: adQ fs y:=by
 by_cases h:y∈fs
 · rw [nZ h]; simp
 · rw [lT h]; simp
theorem p7(fs:L9 D4)(y:D4):y∈adQ fs y:=by
 by_cases h:y∈fs
 · rw [nZ h]; ext
 · rw [lT h]; simp
theorem aLZ{fs:L9 D4}{y:D4}(h:fs.Nodup):(adQ fs y).Nodup:=by
 by_cases q:y∈fs
 .rw[nZ q];ext
 .rw[lT q,CN]
  ext
theorem aSX(fs:L9 D4)(y:D4):(adQ fs y).length<=fs.length+1:=by
 by_cases q:y∈fs
 · rw [nZ q]; simp
 · rw [lT q]; simp
theorem aOG(fs ys:L9 D4)(y:D4):adA fs (ys++[y])=adQ (adA fs ys) y:=by unfold adA;simp
theorem aAL(ys:L9 D4):∀ fs:L9 D4,fs <+: adA fs ys:=by
 induction ys with
 | nil=>exact λfs=>List.prefix_refl _
 | cons y t ih=>exact λfs=>(p6 fs y).trans (ih _)
theorem aEF(ys:L9 D4):∀ {fs:L9 D4},fs.Nodup->(adA fs ys).Nodup:=by
 induction ys with
 | nil=>exact λh=>h
 | cons y t ih=>exact λh=>ih (aLZ h)
theorem nB(ys:L9 D4):∀ {fs:L9 D4} {y:D4},y∈ys->y∈adA fs ys:=by
 induction ys with
 | nil=>simp
 | cons x t ih=>
  intro fs y h
  rcases AV.mp h with rfl|h
  · exact(aAL t _).subset (p7 fs y)
  · exact ih h
theorem adA_mem(ys:L9 D4):∀ {fs:L9 D4} {y:D4},y∈adA fs ys->y∈fs\/y∈ys:=by
 induction ys with
 | nil=>intro fs y h;exact .inl h
 | cons x t ih=>
  intro fs y h
  rcases ih h with h|h
  .by_cases q:x∈fs
   .rw[nZ q]at h;exact .inl h
   .rw[lT q]at h
    ext
  ext
theorem aGQ(ys:L9 D4):∀ fs:L9 D4,(adA fs ys).length<=fs.length+ys.length:=by
 induction ys with
 | nil=>intro fs;exact AM _
 | cons x t ih=>
  intro fs
  have h1:=ih (adQ fs x)
  have h2:=aSX fs x
  show(adA _ t).length<=fs.length+(t.length+1)
  ext
theorem u9{fs fs':L9 D4}{y:D4}(h:fs <+: fs')(a:y∈fs):nrQ fs' y=nrQ fs y:=by
 obtain⟨t,rfl⟩:=h
 unfold nrQ
 ext
theorem p8{fs:L9 D4}{y:D4}(a:y∈fs):fs[nrQ fs y]? = some y:=by
 have h:nrQ fs y < fs.length:=List.idxOf_lt_length_of_mem a
 rw[AI h]
 exact DD some (List.getElem_idxOf h)
theorem aYM{xs:L9 α}(h:xs.Nodup){j:Nat}{x:α}(h1:xs[i]? = some x)(h2:xs[j]? = some x):i=j:=by
 have a:=AG.mp h1
 have b:=AG.mp h2
 rcases DN i j with q|q|q
 · exact absurd (a.2.trans b.2.symm) (D6.mp h i j a.1 b.1 q)
 · ext
 · exact absurd (b.2.trans a.2.symm) (D6.mp h j i b.1 a.1 q)
theorem aGR{fs:L9 D4}{y:D4}(h:fs.Nodup)(a:y∈fs):fP (gX fs) y=some (.int (nrQ fs y:Int)):=by
 obtain⟨i,h1⟩:=aSW a
 rw[h1.1,aYM h h1.2 (p8 a)]
structure Sq where
 after:D4->List D4
 x0:D4
 stop:List D4->Nat->Bool
 k1:Nat
 k2:Nat
 G:List D4->R D4
 D:List D4->R D4
def bfQ(after:D4->L9 D4)(x0:D4):Nat->L9 D4
 | 0=>[x0]
 | n+1=>match (bfQ after x0 n)[n]? with
  | some x=>adA (bfQ after x0 n) (after x)
  | none=>bfQ after x0 n
theorem lU{after:D4->L9 D4}{x0 x:D4}(h:(bfQ after x0 n)[n]? = some x):bfQ after x0 (n+1)=adA (bfQ after x0 n) (after x):=by rw[bfQ,h]
theorem iD(after:D4->L9 D4)(x0:D4)(n:Nat):bfQ after x0 n <+: bfQ after x0 (n+1):=by
 rw[bfQ]
 split
 · exact aAL _ _
 simp
theorem lV{after:D4->L9 D4}{x0:D4}(h:m<=n):bfQ after x0 m <+: bfQ after x0 n:=by
 obtain⟨k,rfl⟩:=Nat.le.dest h
 clear h
 induction k with
 | zero=>simp
 | succ k ih=>exact ih.trans (iD after x0 _)
theorem yS(after:D4->L9 D4)(x0:D4)(n:Nat):(bfQ after x0 n).Nodup:=by
 induction n with
 | zero=>simp[bfQ]
 | succ n ih=>
  rw[bfQ]
  split
  · exact aEF _ ih
  ext
theorem rF(after:D4->L9 D4)(x0:D4)(n:Nat):(bfQ after x0 n)[0]? = some x0:=by
 obtain⟨t,e⟩:=lV (B5 n)
 rw[<-e];rfl
theorem w6{f g:L9 α}{x:α}(h:f <+: g)(e:f[i]? = some x):g[i]? = some x:=by
 obtain⟨t,rfl⟩:=h
 rw[BF (AG.mp e).1]
 ext
theorem tL{f g:L9 α}{x:α}(h:f <+: g)(hi:i < f.length)(e:g[i]? = some x):f[i]? = some x:=by
 obtain⟨t,rfl⟩:=h
 rwa [BF hi]at e
def o3(after:D4->L9 D4)(fs:L9 D4)(x:D4):D4:=cT ((after x).map (nrQ fs))
def cI(after:D4->L9 D4)(fs:L9 D4)(n:Nat):L9 D4:=(fs.take n).map (o3 after fs)
structure Sq.ok(S:Sq)(N:Nat):Prop where
 on:∀ m,m < N->m < (bfQ S.after S.x0 m).length/\S.stop (bfQ S.after S.x0 m) m=false
 off:(bfQ S.after S.x0 N).length<=N\/S.stop (bfQ S.after S.x0 N) N=true
 key:(∀ x∈bfQ S.after S.x0 N,g8 x=true)\/(∀ x∈bfQ S.after S.x0 N,sK x=true)
 len:(bfQ S.after S.x0 N).length<=16000000
 hk1:S.k1<=12
 hk2:S.k2<=12
 hG:∀ m x,m < N->(bfQ S.after S.x0 N)[m]? = some x->(∃ d,S.G [x]=.ok d/\aP d=.ok (S.after x))/\(S.after x).length<=1000
 hD:∀ m,m<=N->m < (bfQ S.after S.x0 m).length->S.D [.list (bfQ S.after S.x0 m),.int (m:Int)]=.ok (.bool (S.stop (bfQ S.after S.x0 m) m))
theorem aP4{B:L9 D4}(h:(∀ x∈B,g8 x=true)\/(∀ x∈B,sK x=true)){y:D4}{fs:L9 D4}(b:y∈B)(a:∀ x∈fs,x∈B):bU y ((gX fs).map (·.1))=true:=by
 unfold bU
 rw[rE,DL,BJ,BJ,CK,CK]
 ext
def rqρ(S:Sq)(fs:L9 D4)(gs:L9 D4)(u v:O9 A):Sg:=[some (.d S.x0),some (.g S.k1 1 S.G),some (.g S.k2 2 S.D),some (.l fs),some (.m (gX fs)),some (.l gs),u,v]
theorem aW1{S:Sq}{B fs ys gs:L9 D4}{v:O9 A}(hB:(∀ x∈B,g8 x=true)\/(∀ x∈B,sK x=true))(D:B.length<=16000000)(nd:fs.Nodup)(u:adA fs ys <+: B)(E:ys.length<=1000) :
  ∃ v',jO (stN 7) rhF ys (rqρ S fs gs (some (.l [])) v)=.ok (.nx (rqρ S (adA fs ys) gs (some (.l ((ys.map (nrQ (adA fs ys))).map λj:Nat=>.int (j:Int)))) v')):=by
 obtain⟨G,C,v',H⟩:=i6 (fs:=stN 7) (fb:=rhF) (d:=id) (Y:=rqρ S fs gs (some (.l [])) v)
  (λi Y=>∃ v',Y=rqρ S (adA fs (ys.take i)) gs (some (.l (((ys.take i).map (nrQ (adA fs (ys.take i)))).map λj:Nat=>.int j))) v') ⟨v,rfl⟩ λi y Y hi o=>by
  obtain⟨v',e⟩:=o
  have s:ys.take (i+1)=ys.take i++[y]:=by rw[CU,hi];rfl
  have a:adA fs (ys.take (i+1)) <+: B:=by
   refine List.IsPrefix.trans ?_ u
   have:adA fs ys=adA (adA fs (ys.take (i+1))) (ys.drop (i+1)):=by
    unfold adA;rw[<-List.foldl_append,ES]
   rw[this];exact aAL _ _
  have m:(adA fs (ys.take (i+1))).Nodup:=aEF _ nd
  have q:∀ x∈ys.take (i+1),x∈adA fs (ys.take (i+1)):=λx c=>nB _ c
  rw[s]at a m q
  rw[s,aOG]at *
  generalize z:adA fs (ys.take i)=F at *
  have f:F.length < 16777216:=by
   have h1:=a.length_le
   have h2:=(p6 F y).length_le
   ext
  have s1:=aP4 hB (a.subset (p7 F y)) (λx c=>a.subset ((p6 F y).subset c))
  have r:=aP4 hB (a.subset (p7 F y)) (fs:=adQ F y) (λx c=>a.subset c)
  have n:=aGR m (p7 F y)
  have k:(gX F).length<=16777216:=by rw[aGO];ext
  have p:∀ x∈ys.take i,x∈F:=λx c=>by rw[<-z];exact nB _ c
  have h:(ys.take i++[y]).map (nrQ (adQ F y))=(ys.take i).map (nrQ F)++[nrQ (adQ F y) y]:=by
   rw[BL,DM]
   congr 1
   exact A9 λx c=>u9 (p6 F y) (p x c)
  have b:(ys.take i).length < 16777216:=by rw[B6];ext
  rw[h]
  refine⟨rqρ S F gs (some (.l (((ys.take i).map (nrQ F)).map λj:Nat=>.int (j:Int)))) (some (.d y)),_,by rw[e];simp[rqρ],.inl ?_,some (.d y),rfl⟩
  by_cases g:y∈F
  .have w:=aAK.mpr g
   rw[nZ g]at r n ⊢
   simp[rhF,rqρ,s1,w,n,(by rw[B6]at b;exact b)]
  .have t:=aGP g
   rw[lT g]at r n ⊢
   simp[rhF,rqρ,s1,r,(w5 g),t,n,(k9 _),k,f,(by rw[B6]at b;exact b)]
 rw[List.map_id]at C
 ext
theorem Sq.ok.le{S:Sq}(O:S.ok N)(h:m<=N):bfQ S.after S.x0 m <+: bfQ S.after S.x0 N:=lV h
theorem aGS{S:Sq}(O:S.ok N)(h:m<=N)(c:gs.length=m){u v:O9 A}:rhT (rqρ S (bfQ S.after S.x0 m) gs u v)=.ok (decide (m < N)):=by
 subst c
 by_cases a:gs.length < (bfQ S.after S.x0 gs.length).length
 .have b:=O.hD _ h a
  have d:S.stop (bfQ S.after S.x0 gs.length) gs.length = !decide (gs.length < N):=by
   by_cases q:gs.length < N
   .rw[(O.on _ q).2,A2 q];rfl
   .have e:gs.length=N:=by ext
    rcases O.off with z|z
    · ext
    simp_all
  rw[d]at b
  simp[rhT,rqρ,a,O.hk2,b,uP]
 .have:¬ gs.length < N:=λq=>a (O.on _ q).1
  simp[rhT,rqρ,a,this]
theorem aSY{S:Sq}(O:S.ok N)(h:m < N)(f:gs.length=m){u v:O9 A}:∃ x u' v',(bfQ S.after S.x0 m)[m]? = some x/\rhB (rqρ S (bfQ S.after S.x0 m) gs u v)=.ok (.nx (rqρ S (bfQ S.after S.x0 (m+1)) (gs++[o3 S.after (bfQ S.after S.x0 (m+1)) x]) u' v')):=by
 have c:=(O.on m h).1
 have a:=AI c
 generalize (bfQ S.after S.x0 m)[m]=x at a
 obtain⟨⟨d,e,k⟩,i⟩:=O.hG m x h (w6 (O.le (by ext)) a)
 obtain⟨v',q⟩:=aW1 (S:=S) (gs:=gs) (v:=v) O.key O.len (yS S.after S.x0 m) (by rw[<-(lU a)];exact O.le (by ext)) i
 rw[<-(lU a)]at q
 have g:gs.length < 16777216:=by have:=(O.le (show m<=N by ext)).length_le;have:=O.len;ext
 have b:=by ext
 refine⟨x,some (.l (((S.after x).map (nrQ (bfQ S.after S.x0 (m+1)))).map λj:Nat=>.int j)),v',a,?_⟩
 subst f
 simp[rqρ]at q
 simp[rhB,rqρ,(lA (cP a)),O.hk1,e,k,q,o3,cT,b]
theorem oP{after:D4->L9 D4}{fs:L9 D4}(h:m<=fs.length):(cI after fs m).length=m:=by unfold cI;simp_all
theorem aSZ{S:Sq}(O:S.ok N):∀ (k m:Nat) (u v:O9 A),m+k=N->
  ∃ u' v',aW rhT rhB (rqρ S (bfQ S.after S.x0 m) (cI S.after (bfQ S.after S.x0 m) m) u v)=.ok (.nx (rqρ S (bfQ S.after S.x0 N) (cI S.after (bfQ S.after S.x0 N) N) u' v')):=by
 have d:∀ m,m<=N->(∀ c,c < m->c < (bfQ S.after S.x0 c).length)->m<=(bfQ S.after S.x0 m).length:=λm b h=>by
  cases m with
  | zero=>simp
  | succ m=>exact BB (h m (DC m)) (iD S.after S.x0 m).length_le
 intro k
 induction k with
 | zero=>
  intro m u v b
  have b:m=N:=b
  subst b
  rw[bR (by rw[aGS O (AM m) (oP (d m (AM _) λc h=>(O.on c h).1)),BA (B0 m)])]
  exact⟨u,v,rfl⟩
 | succ k ih=>
  intro m u v b
  have a:=b▸GJ (Nat.succ_pos k)
  have n:=BS a
  have l:=oP (after:=S.after) (d m n λc h=>(O.on c (EV h a)).1)
  obtain⟨x,u',v',i⟩:=aSY O a l
  rw[dE (by rw[aGS O n l,A2 a]) i.2]
  have e:cI S.after (bfQ S.after S.x0 m) m++[o3 S.after (bfQ S.after S.x0 (m+1)) x]=cI S.after (bfQ S.after S.x0 (m+1)) (m+1):=by
   unfold cI
   have p:(bfQ S.after S.x0 (m+1)).take (m+1)=(bfQ S.after S.x0 m).take m++[x]:=by
    obtain⟨t,o⟩:=iD S.after S.x0 m
    rw[<-o,E4 ((AG.mp i.1).1),CU,i.1];rfl
   rw[p,BL]
   congr 1
   refine A9 λy q=>?_
   unfold o3
   congr 1
   refine A9 λz r=>?_
   obtain⟨j,g⟩:=DV q
   have f:=by
    have:=(AG.mp g).1
    rw[B6]at this;exact A3 this (GM _ _)
   rw[ED,AJ f]at g
   refine(u9 (iD S.after S.x0 m) ?_).symm
   have:=nB (fs:=bfQ S.after S.x0 j) _ r
   rw[<-lU (tL (O.le (by ext)) ((O.on j (by ext)).1) (w6 (O.le (by ext)) g))]at this
   exact(lV (by ext)).subset this
  rw[e]
  exact ih _ u' v' (by rw[<-b,Nat.add_assoc,Nat.add_comm 1])
theorem aW2{S:Sq}(O:S.ok N):fF [.d S.x0,.g S.k1 1 S.G,.g S.k2 2 S.D]=.ok (.d (.tuple [.list (bfQ S.after S.x0 N),.list (cI S.after (bfQ S.after S.x0 N) N)])):=by
 obtain⟨u,v,q⟩:=aSZ O N 0 none none (by simp)
 have b:bU S.x0 []=true:=by
  unfold bU
  rw[DL,BJ,BJ]
  exact O.key.imp (λh=>⟨h _ (AD (rF S.after S.x0 N)),rfl⟩) (λh=>⟨h _ (AD (rF S.after S.x0 N)),rfl⟩)
 have hi:gX [S.x0]=[(S.x0,.int 0)]:=rfl
 have a:_f.gO [] [(S.x0,.int 0)]=.ok [(S.x0,.int 0)]:=by simp[_f.gO,b,putM,b7,fP]
 unfold fF
 rw[aBG]
 simp[rqρ,bfQ,cI,hi]at q
 simp[a,q,cI]
end _e
namespace _f
@[simp] theorem aZV(i:Nat)(f g:Sg->R D4)(Y:Sg):uT i f g Y=match Y[i]? with
 | some (some (.m a0))=>(f Y).bind λk=>(g Y).bind λy=>if bU k (a0.map (·.1))=true/\a0.length<=16777216 then .ok (.nx (if b7 a0 k=true then Y else Y.set i (some (.m (putM a0 k y)))))else .bad
 | _=>.bad:=id rfl
theorem aOH{x:D4}{xs:L9 D4}(h:aP x=.ok xs):uU x=.ok (xs.zipIdx.map aAA):=by
 unfold uU;rw[h];rfl
end _f
namespace _e
open _f
mutual
def nbD:D4->Bool
 | .bool _=>false
 | .dict _=>false
 | .list xs=>n4 xs
 | .tuple xs=>n4 xs
 | _=>true
def n4:L9 D4->Bool
 | []=>true
 | x::t=>nbD x && n4 t
end
theorem aGT:∀ {xs:L9 D4},(∀ x∈xs,nbD x=true)->n4 xs=true
 | [],_=>rfl
 | x::t,h=>by
  show(nbD x && n4 t)=true
  rw[h x A4,aGT λy a=>h y (AU _ a)];rfl
mutual
theorem aEG:∀ d:D4,d.canLay0=true->d.eqv d=true
 | .none,_=>by rfl
 | .bool b,_=>by simp[PyData.eqv]
 | .int i,_=>by simp[PyData.eqv]
 | .str x,_=>by simp[PyData.eqv]
 | .list xs,h=>by
  show PyData.eqvAll xs xs=true
  exact aAM xs h
 | .tuple xs,h=>by
  show PyData.eqvAll xs xs=true
  exact aAM xs h
 | .dict _,h=>by cases h
theorem aAM:∀ xs:L9 D4,PyData.canLayAll0 xs=true->PyData.eqvAll xs xs=true
 | [],_=>by rfl
 | x::t,h=>by
  have h':(x.canLay0 && PyData.canLayAll0 t)=true:=h
  rw[BJ]at h'
  show(x.eqv x && PyData.eqvAll t t)=true
  rw[aEG x h'.1,aAM t h'.2];rfl
end
mutual
theorem aL0:∀ x y:D4,nbD x=true->nbD y=true->x.eqv y=true->x=y
 | .none,.none,_,_,_=>rfl
 | .int i,.int j,_,_,h=>by simp[PyData.eqv]at h;rw[h]
 | .str i,.str j,_,_,h=>by simp[PyData.eqv]at h;rw[h]
 | .list xs,.list ys,h1,h2,h=>by rw[aAN xs ys h1 h2 h]
 | .tuple xs,.tuple ys,h1,h2,h=>by rw[aAN xs ys h1 h2 h]
 | .bool _,_,h,_,_=>by cases h
 | .dict _,_,h,_,_=>by cases h
 | _,.bool _,_,h,_=>by cases h
 | _,.dict _,_,h,_=>by cases h
 | .none,.int _,_,_,h=>by simp[PyData.eqv]at h
 | .none,.str _,_,_,h=>by simp[PyData.eqv]at h
 | .none,.list _,_,_,h=>by simp[PyData.eqv]at h
 | .none,.tuple _,_,_,h=>by simp[PyData.eqv]at h
 | .int _,.none,_,_,h=>by simp[PyData.eqv]at h
 | .int _,.str _,_,_,h=>by simp[PyData.eqv]at h
 | .int _,.list _,_,_,h=>by simp[PyData.eqv]at h
 | .int _,.tuple _,_,_,h=>by simp[PyData.eqv]at h
 | .str _,.none,_,_,h=>by simp[PyData.eqv]at h
 | .str _,.int _,_,_,h=>by simp[PyData.eqv]at h
 | .str _,.list _,_,_,h=>by simp[PyData.eqv]at h
 | .str _,.tuple _,_,_,h=>by simp[PyData.eqv]at h
 | .list _,.none,_,_,h=>by simp[PyData.eqv]at h
 | .list _,.int _,_,_,h=>by simp[PyData.eqv]at h
 | .list _,.str _,_,_,h=>by simp[PyData.eqv]at h
 | .list _,.tuple _,_,_,h=>by simp[PyData.eqv]at h
 | .tuple _,.none,_,_,h=>by simp[PyData.eqv]at h
 | .tuple _,.int _,_,_,h=>by simp[PyData.eqv]at h
 | .tuple _,.str _,_,_,h=>by simp[PyData.eqv]at h
 | .tuple _,.list _,_,_,h=>by simp[PyData.eqv]at h
theorem aAN:∀ xs ys:L9 D4,n4 xs=true->n4 ys=true->PyData.eqvAll xs ys=true->xs=ys
 | [],[],_,_,_=>rfl
 | [],_::_,_,_,h=>by simp[PyData.eqvAll]at h
 | _::_,[],_,_,h=>by simp[PyData.eqvAll]at h
 | x::xs,y::ys,h1,h2,h=>by
  have h1':(nbD x && n4 xs)=true:=h1
  have a:(nbD y && n4 ys)=true:=h2
  have h':(x.eqv y && PyData.eqvAll xs ys)=true:=h
  rw[BJ]at h1' a h'
  rw[aL0 x y h1'.1 a.1 h'.1,aAN xs ys h1'.2 a.2 h'.2]
end
theorem aL1{d:D4}(h:shaped d=true):d.canLay0=true:=by
 have h':(d.canLay0 && decide _)=true:=h
 ext
theorem aL2{x y:D4}(hx:nbD x=true)(a:nbD y=true)(l:shaped x=true):x.eqv y=decide (x=y):=by
 by_cases h:x=y
 .subst h;rw[aEG x (aL1 l),A2 rfl]
 .rw[BA h]
  cases q:x.eqv y with
  | false=>rfl
  | true=>exact absurd (aL0 x y hx a q) h
structure Cp(d:D4):Prop where
 nb:nbD d=true
 sh:shaped d=true
theorem aEH{x y:D4}(hx:Cp x)(a:Cp y):dNe x y=.ok (.bool (!decide (x=y))):=by rw[aLJ hx.sh a.sh,aL2 hx.nb a.nb hx.sh]
theorem aW3{x:D4}(h:shaped x=true):dNe x x=.ok (.bool false):=by rw[aLJ h h,aEG x (aL1 h)];rfl
def wρ(rs:L9 Rw)(f:Tn)(bk:L9 Tn)(t:Tn)(ps:L9 Int)(u:O9 A):Sg:=[some (.d (aK rs)),some (.d (iC f bk)),some (.d t.d),some (.m (been PyData.int ps)),u]
theorem aOI{rs:L9 Rw}{f:Tn}{bk:L9 Tn}{x:Str}{ps:L9 Int}{u:O9 A}:wT (wρ rs f bk (.w x) ps u)=.ok false:=by
 rfl
theorem aOJ{rs:L9 Rw}{f:Tn}{bk:L9 Tn}{q:Int}{ps:L9 Int}{u:O9 A}:wT (wρ rs f bk (.n q) ps u)=.ok true:=by
 rfl
theorem aW4{rs:L9 Rw}{f:Tn}{bk:L9 Tn}{q:Int}{ps:L9 Int}{u:O9 A}(h:q∈ps):wB (wρ rs f bk (.n q) ps u)=.ok (.rt (.d (.str "ever"))):=by
 simp[wB,wρ,Tn.d,(jL ps q),((i7 jK).mpr h)]
theorem aZW{rs:L9 Rw}{f:Tn}{bk:L9 Tn}{q:Int}{ps:L9 Int}{u:O9 A}{x:Str}(h:q∉ps)(a:b8 rs q)(c:ps.length<=16777216)(e:(aJ rs q).r=.w x):wB (wρ rs f bk (.n q) ps u)=.ok (.nx (wρ rs f bk (.w x) (ps++[q]) (some (.d (.str x))))):=by
 have b:(been PyData.int ps).length<=16777216:=by rw[eG];ext
 simp[wB,wρ,Tn.d,(jL ps q),(eS jK h),(fM jK h),b,(i9 a.1 a.2),aY,e,aSQ]
theorem aZX{rs:L9 Rw}{f:Tn}{bk:L9 Tn}{q a:Int}{ps:L9 Int}{u:O9 A}(h:q∉ps)(b:b8 rs q)(i:ps.length<=16777216)(e:(aJ rs q).r=.n a)(h0:0<=a)(g:a < (bk.length:Int)):wB (wρ rs f bk (.n q) ps u)=.ok (.nx (wρ rs f bk (bkF bk a) (ps++[q]) (some (.d (.int a))))):=by
 have c:(been PyData.int ps).length<=16777216:=by rw[eG];ext
 simp[wB,wρ,Tn.d,(jL ps q),(eS jK h),(fM jK h),c,(i9 b.1 b.2),aY,e,aSP,iC,(aP2 h0 g)]
theorem rG{rs:L9 Rw}{sg:Nat}(M:Mach rs sg){q a:Int}(b:b8 rs q)(e:(aJ rs q).r=.n a):0<=a/\a < (rs.length:Int):=by
 have:=(M.row _ (AD (bQ b.1 b.2))).1.2.1
 rw[e]at this
 exact this
theorem aS0{rs:L9 Rw}{sg:Nat}{f:Tn}{bk:L9 Tn}(M:Mach rs sg)(hb:bk.length=rs.length)(j:∀ t∈bk,tnV rs.length t){h:Int}:∀ (n:Nat) (ps:L9 Int) (q:Int) (u:O9 A),Und2 (iB rs (bkF bk)) h ps q->(∀ p∈ps,b8 rs p)->b8 rs q->rs.length+1<=ps.length+n->
  aC (aW wT wB) (aM (vV 2)) (wρ rs f bk (.n q) ps u)=.ok (.rt (.d (.str ((aR (iB rs (bkF bk)) h).getD fD)))):=by
 intro n
 induction n with
 | zero=>
  intro ps q u U pv b k
  have:=u8 U.nd pv
  ext
 | succ n ih=>
  intro ps q u U pv b k
  rw[aN]
  by_cases a:q∈ps
  .rw[fG aOJ (aW4 a),U.met a];rfl
  .have l:=u8 U.nd pv
   have c:ps.length<=16777216:=by have:=M.len2;ext
   cases e:(aJ rs q).r with
   | w x=>
    rw[dE aOJ (aZW a b c e),bR aOI,U.outs (by unfold iB;rw[e])]
    rfl
   | n q'=>
    have i:=rG M b e
    rw[dE aOJ (aZX a b c e i.1 (by simp_all))]
    have g:=p5 j q'
    cases e2:bkF bk q' with
    | w x=>
     rw[bR aOI,U.outs (by unfold iB;rw[e];simp only;rw[e2])]
     simp[wρ,Tn.d]
    | n r=>
     rw[e2]at g
     have:=ih (ps++[q]) r (some (.d (.int q'))) (U.next a (by unfold iB;rw[e];simp only;rw[e2])) (λp c=>by
      rcases BO.mp c with z|z
      · ext
      · rw [AZ.mp z]; exact b) g (by rw [A7, CS]; ext)
     simp_all
theorem aYN{rs:L9 Rw}{sg:Nat}{f:Tn}{bk:L9 Tn}(M:Mach rs sg)(hb:bk.length=rs.length)(c:∀ t∈bk,tnV rs.length t)(b:tnV rs.length f):dS [.d (aK rs),.d (iC f bk)]=.ok (.d (.str (wbR rs (bkF bk) f))):=by
 have g:dIx (iC f bk) (.int 0)=.ok f.d:=rfl
 have a:aC (aW wT wB) (aM (vV 2)) (wρ rs f bk f [] none)=.ok (.rt (.d (.str (wbR rs (bkF bk) f)))):=by
  cases f with
  | w x=>
   rw[aN,bR aOI]
   rfl
  | n q=>exact aS0 M hb c (rs.length+1) [] q none Und2.start (λp e=>by simp_all) b (by simp)
 unfold dS
 rw[rQ]
 simp[wρ,been]at a
 simp_all
theorem aOK{rs:L9 Rw}{sg:Nat}(M:Mach rs sg){bk a:Int->Tn}(h:∀ q,b8 rs q->bk q=a q)(g:∀ q,b8 rs q->tnV rs.length (bk q)){t:Tn}(j:tnV rs.length t):wbR rs bk t=wbR rs a t:=by
 cases t with
 | w x=>rfl
 | n q=>
  have st:∀ q,b8 rs q->iB rs bk q=iB rs a q:=λq c=>by
   unfold iB
   cases e:(aJ rs q).r with
   | w x=>rfl
   | n b=>simp ;rw[h b (rG M c e)]
  have nx:∀ q b,b8 rs q->iB rs bk q=some (.inl b)->b8 rs b:=λq b c e=>by
   unfold iB at e
   cases e2:(aJ rs q).r with
   | w x=>simp_all
   | n r=>
    rw[e2]at e
    simp at e
    have f:=g _ (rG M c e2)
    split at e
    · rename_i l i; cases e; rw [i]at f; exact f
    simp_all
  have d:=aGL (st:=iB rs bk) (st2:=iB rs a) (e:=id) (k:=id) (ev:=fD) (Dom:=b8 rs) (λq c=>?_) j
  .exact (d.trans (by rw[Option.map_id];rfl)).symm
  .have e:=(st q c).symm
   cases e2:iB rs bk q with
   | none=>unfold iB at e2;split at e2<;>(try split at e2)<;>cases e2
   | some x=>
    rw[e2]at e
    cases x with
    | inl b=>exact .inl ⟨b,rfl,e,nx q b c e2⟩
    | inr o=>exact .inr ⟨o,rfl,by rw[resOf_out (s:=id q) e];rfl⟩
theorem aW5{rs:L9 Rw}{sg:Nat}{z:L9 Nat}(M:Mach rs sg)(S:aH sg z):dS [.d (aK rs),.d (aI rs z)]=.ok (.d (.str (a7 rs z))):=by
 have b:∀ t∈(range rs.length).map λq:Nat=>cG rs z q,tnV rs.length t:=λt c=>by
  obtain⟨q,e,rfl⟩:=A1.mp c
  exact lR M S (yQ (BI.mp e))
 unfold aI
 rw[aYN M (by simp) b (lR M S (rD M z)),aOK M (λq a=>aAJ a) (λq a=>p5 b q) (lR M S (rD M z)),<-aGN M S]
 rfl
theorem aL3{rs:L9 Rw}{sg:Nat}{z:L9 Nat}(M:Mach rs sg)(S:aH sg z){s:Int×Int}(V:iO rs z s):(dN rs z s).ok:=by
 unfold dN
 cases e:aR _ s with
 | none=>exact(by show PyData.strOk fD=true;decide +kernel)
 | some t=>
  obtain⟨n,h⟩:=cM e
  show t.ok
  clear e
  induction h with
  | @out s o h=>
   unfold bN at h
   rcases beg_cell M S V with ⟨x,e,b⟩|⟨q,e,a,h1,h2⟩
   .rw[e]at h
    have:=((M.row _ (AD (bQ V.2.2.1 V.2.2.2))).1.ok).1
    unfold aL at e
    simp_all
   .rw[e]at h
    simp at h
    split at h
    · cases h
    · cases h; exact trivial
  | @go s s' o n h t ih=>
   refine ih ?_
   unfold bN at h
   rcases beg_cell M S V with ⟨x,e,b⟩|⟨q,e,a,h1,h2⟩
   .simp_all
   .rw[e]at h
    simp at h
    split at h
    · rename_i c; cases h; exact⟨h1, c, a⟩
    simp_all
theorem aGU{rs:L9 Rw}{sg:Nat}{z:L9 Nat}(M:Mach rs sg)(S:aH sg z):(dN rs z (0,0)).ok/\∀ t∈(range rs.length).map λq:Nat=>cG rs z (q:Int),t.ok:=⟨aL3 M S (rD M z),λt a=>by
 obtain⟨q,b,rfl⟩:=A1.mp a
 exact aL3 M S (yQ (BI.mp b))⟩
theorem w7:∀ {xs:L9 D4},(∀ x∈xs,fB x=true)->dX xs=true
 | [],_=>rfl
 | x::t,h=>by
  show(fB x && dX t)=true
  rw[h x (A4 ..),w7 λy a=>h y (AU _ a)];rfl
theorem aL4{t:Tn}(h:t.ok):fB t.d=true:=by
 cases t with
 | n i=>rfl
 | w x=>exact h
theorem aS1{f:Tn}{bk:L9 Tn}(d:f.ok)(hb:∀ t∈bk,t.ok):g8 (iC f bk)=true:=by
 have h1:fB (iC f bk)=true:=by
  refine w7 λx a=>?_
  rcases AV.mp a with z|a
  .rw[z];exact aL4 d
  .rw[AZ.mp a]
   refine w7 λx a=>?_
   obtain⟨c,b,rfl⟩:=A1.mp a
   exact aL4 (hb c b)
 have h2:Sh 3 (iC f bk):=by
  refine sE λx a=>?_
  rcases AV.mp a with z|a
  .rw[z];exact aPO _ d
  .rw[AZ.mp a]
   refine sE λx a=>?_
   obtain⟨c,b,rfl⟩:=A1.mp a
   exact aPO _ (hb c b)
 show(fB (iC f bk) && decide ((iC f bk).depth<=8))=true
 rw[h1,A2 (BB h2.2 (by simp))];rfl
def aIZ(rs:L9 Rw)(x:D4)(k:Nat):D4:=match gE [.d x,.d (f6 rs k)]with
 | .ok (.d y)=>y
 | _=>.none
theorem aAO{rs:L9 Rw}{sg k:Nat}{z:L9 Nat}(M:Mach rs sg)(S:aH sg z)(a:k < sg):aIZ rs (aI rs z) k=aI rs (z++[97+k]):=by
 have:=aEC M S (c:=97+k) (A2 (by ext))
 rw[show 97+k - 97=k by simp]at this
 unfold aIZ
 rw[this]
theorem rH{sg k:Nat}{z:L9 Nat}(S:aH sg z)(d:k < sg)(b:z.length < 1000):aH sg (z++[97+k]):=⟨by simp;ext,λc a=>by
 rcases BO.mp a with h|h
 · exact S.2 c h
 · rw [AZ.mp h]; exact A2 (by ext)⟩
def aL5(rs:L9 Rw)(x:D4):D4:=match dS [.d (aK rs),.d x]with
 | .ok (.d y)=>y
 | _=>.none
theorem yT{rs:L9 Rw}{sg:Nat}{z:L9 Nat}(M:Mach rs sg)(S:aH sg z):aL5 rs (aI rs z)=.str (a7 rs z):=by
 unfold aL5
 rw[aW5 M S]
def tnB(m:Nat):Tn->Prop
 | .n i=>0<=i/\i < (m:Int)
 | .w x=>x="by"\/x="out"\/x="ever"
theorem aGV{rs:L9 Rw}{sg:Nat}{z:L9 Nat}(M:Mach rs sg)(S:aH sg z){s:Int×Int}(V:iO rs z s):tnB rs.length (dN rs z s):=by
 unfold dN
 cases e:aR _ s with
 | none=>exact .inr (.inr rfl)
 | some t=>
  obtain⟨n,h⟩:=cM e
  clear e
  induction h with
  | @out s o h=>
   unfold bN at h
   rcases beg_cell M S V with ⟨x,e,b⟩|⟨q,e,a,h1,h2⟩
   .rw[e]at h
    cases h
    have:=(M.row _ (AD (bQ V.2.2.1 V.2.2.2))).1.1
    unfold aL at e
    rw[AJ b]at e
    simp at e
    rw[e]at this
    rcases this with h|h
    · exact .inl h
    · exact .inr (.inl h)
   .rw[e]at h
    simp at h
    split at h
    · cases h
    · cases h; exact a
  | @go s s' o n h t ih=>
   refine ih ?_
   unfold bN at h
   rcases beg_cell M S V with ⟨x,e,b⟩|⟨q,e,a,h1,h2⟩
   .simp_all
   .rw[e]at h
    simp at h
    split at h
    · rename_i c; cases h; exact⟨h1, c, a⟩
    simp_all
def tc(m:Nat):Tn->Nat
 | .n i=>i.toNat
 | .w x=>if x="by" then m else if x="out" then m+1 else m+2
theorem aB7{m:Nat}{t:Tn}(h:tnB m t):tc m t < m+3:=by
 cases t with
 | n i=>have:0<=i/\i < m:=h;show i.toNat < _;ext
 | w x=>show(if x="by" then m else if x="out" then m+1 else m+2) < _;ext
theorem aL6{m:Nat}{t u:Tn}(h:tnB m t)(h':tnB m u)(e:tc m t=tc m u):t=u:=by
 have c:("by":Str)≠"out":=by decide +kernel
 have h1:("ever":Str)≠"by":=by decide +kernel
 have h2:("ever":Str)≠"out":=by decide +kernel
 cases t with
 | n i=>
  have a:0<=i/\i < m:=h
  cases u with
  | n j=>
   have b:0<=j/\j < m:=h'
   have e:i.toNat=j.toNat:=e
   ext
  | w x=>
   have e:i.toNat=(if x="by" then m else if x="out" then m+1 else m+2):=e
   ext
 | w x=>
  cases u with
  | n j=>
   have b:0<=j/\j < m:=h'
   have e:(if x="by" then m else if x="out" then m+1 else m+2)=j.toNat:=e
   ext
  | w y=>
   have e:(if x="by" then m else if x="out" then m+1 else m+2)=(if y="by" then m else if y="out" then m+1 else m+2):=e
   rcases h with rfl|rfl|rfl<;>rcases h' with rfl|rfl|rfl<;>first|rfl|(simp[c.symm,h1,h2]at e)
theorem aOL{rs:L9 Rw}{z a:L9 Nat}(h1:dN rs z (0,0)=dN rs a (0,0))(h2:∀ q:Nat,q < rs.length->cG rs z (q:Int)=cG rs a (q:Int)):aI rs z=aI rs a:=by
 unfold aI
 rw[h1,A9 λq b=>h2 q (BI.mp b)]
theorem aOM{rs:L9 Rw}{bk:Int->Tn}{c:Nat}{q:Int}(h:(ck (c - 97) (aJ rs q)).2=1):onR rs bk c (.n q)=.n (ck (c - 97) (aJ rs q)).1:=by
 have:kD rs bk c q=some (.inr (.n (ck (c - 97) (aJ rs q)).1)):=by rw[aAI,AJ h]
 show(aR _ q).getD _=_
 rw[resOf_out this];rfl
theorem aON{P:L9 Nat->Prop}(h0:P [])(a:∀ z c,P z->P (z++[c]))(z:L9 Nat):P z:=by
 rw[<-List.reverse_reverse z]
 induction z.reverse with
 | nil=>exact h0
 | cons c t ih=>simp_all
theorem aI0{sg c:Nat}{z:L9 Nat}(S:aH sg (z++[c])):aH sg z/\bD sg c=true:=⟨⟨by have:=S.1;ext,λc a=>S.2 c (CT _ a)⟩,S.2 c (by simp)⟩
end _e
namespace _h
open Classical
section
variable{τ:Type}(g:τ->Nat->τ)(t0:τ)(cs:L9 Nat)
variable{g t0 cs}
end
end _h
variable{x q:Nat}
namespace _e
open _f
def stD(z:L9 Nat):D4:=.str ⟨z.toArray⟩
def sgT(sg:Nat):Str:=Txt.slice "abc" none (some (sg:Int))
theorem aS2(s1:1<=sg)(a:sg<=3):(sgT sg).cps.toList=[97,98,99].take sg:=uG s1 a
theorem aS3(s1:1<=sg)(a:sg<=3):(sgT sg).cps.toList.length<=3:=by rw[aS2 s1 a];simp_all
theorem aOO{a:L9 (D4×D4)}{k v b:D4}(h:b7 a k=false):fP (putM a k v) b=if b=k then some v else fP a b:=by
 have h':fP a k=none:=by
  unfold b7 at h
  simp_all
 unfold putM
 rw[h,AL (by simp)]
 unfold fP at h' ⊢
 rw[List.find?_append]
 by_cases e:b=k
 .subst e
  have:a.find? (λp=>decide (p.1=b))=none:=by
   cases q:a.find? (λp=>decide (p.1=b))with
   | none=>rfl
   | some x=>simp_all
  rw[this]
  simp
 .rw[AL e]
  cases q:a.find? (λp=>decide (p.1=b))with
  | none=>simp[BQ e]
  | some x=>rfl
theorem aBL{P:Nat->Prop}:∀ K:Nat,P K->∃ n,n<=K/\P n/\∀ m,m < n->¬ P m:=by
 intro K
 induction K using Nat.strongRecOn with
 | _ K ih=>
  ext
def rdD(ad:L9 (L9 Nat))(ws:L9 D4):D4:=.tuple [.tuple (ad.map cT),.tuple ws]
structure Rdr(ad:List (List Nat))(sg:Nat):Prop where
 n1:1<=ad.length
 n2:ad.length<=1000
 s1:1<=sg
 s3:sg<=3
 row:∀ r∈ad,r.length=sg/\∀ j∈r,j < ad.length
section
variable{ad:L9 (L9 Nat)}{sg:Nat}
theorem Rdr.at(M:Rdr ad sg)(a:q < ad.length):ad[q]? = some (ad.getD q [])/\(ad.getD q []).length=sg/\∀ j∈ad.getD q [],j < ad.length:=by
 have e:ad[q]? = some (ad.getD q []):=by simp_all
 exact⟨e,M.row _ (AD e)⟩
theorem aS4:∀ {n:Nat} {xs:L9 D4},xs.Nodup->(∀ x∈xs,∃ q:Nat,q < n/\x=.int (q:Int))->xs.length<=n:=by
 intro n xs nd h
 refine oC (λx=>match x with | .int q=>q.toNat|_=>0) n xs nd (λx c=>?_) (λa d b f e=>?_)<;>ext
theorem aAP{ws:L9 D4}(M:Rdr ad sg)(a:q < ad.length):dIx (.tuple (ad.map cT)) (.int (q:Int))=.ok (cT (ad.getD q [])):=iS (cP (by rw[AE,(M.at a).1];rfl))
end
def sl(y z:L9 Nat):Prop:=y.length < z.length\/(y.length=z.length/\List.Lex (· < ·) y z)
section
variable{after:D4->L9 D4}{x0:D4}
end
def w8(w:Str):Prop:=w="by"\/w="out"\/w="ever"
structure Rdw(ad:List (List Nat))(ws:List Str)(sg:Nat):Prop where
 r:Rdr ad sg
 wl:ws.length=ad.length
 ww:∀ w∈ws,w8 w
def rdW(ad:L9 (L9 Nat))(ws:L9 Str):D4:=rdD ad (ws.map .str)
section
variable{r1 r2:L9 (L9 Nat)}{w1 w2:L9 Str}{sg:Nat}
theorem Rdw.w(M:Rdw r1 w1 sg)(b:q < r1.length):w8 (w1.getD q "")/\dIx (.tuple (w1.map .str)) (.int (q:Int))=.ok (.str (w1.getD q "")):=by
 have a:=M.wl
 have e:w1[q]? = some (w1.getD q ""):=by simp_all
 refine⟨M.ww _ (AD e),iS (cP ?_)⟩
 rw[AE,e];rfl
end
section
variable{r1 r2:L9 (L9 Nat)}{w1 w2:L9 Str}{sg:Nat}
end
def eY(ad:L9 (L9 Nat))(q c:Nat):Nat:=(ad.getD q []).getD (c - 97) 0
def runN(ad:L9 (L9 Nat))(q:Nat)(z:L9 Nat):Nat:=z.foldl (eY ad) q
def Sgs(sg:Nat)(z:L9 Nat):Prop:=∀ c∈z,bD sg c=true
section
variable{ad r1 r2:L9 (L9 Nat)}{ws w1 w2:L9 Str}{sg:Nat}
theorem yU(h:bD sg c=true):97<=c/\c - 97 < sg:=by
 unfold bD at h
 ext
theorem iL(M:Rdr ad sg)(a:q < ad.length)(b:bD sg c=true):(ad.getD q [])[c - 97]? = some (eY ad q c)/\eY ad q c < ad.length:=by
 have d:c - 97 < (ad.getD q []).length:=by rw[(M.at a).2.1];exact(yU b).2
 have e:(ad.getD q [])[c - 97]? = some (eY ad q c):=by
  unfold eY
  ext
 exact⟨e,(M.at a).2.2 _ (AD e)⟩
theorem jM(M:Rdr ad sg):∀ (z:L9 Nat) {q:Nat},Sgs sg z->q < ad.length->runN ad q z < ad.length
 | [],_,_,h=>h
 | c::t,_,hs,h=>jM M t (λc a=>hs c (AU _ a)) (iL M h (hs c A4)).2
def EqI(ad:L9 (L9 Nat))(ws:L9 Str)(sg i x y:Nat):Prop:=∀ w,Sgs sg w->w.length<=i->ws.getD (runN ad x w) ""=ws.getD (runN ad y w) ""
theorem EqI.up(h:EqI ad ws sg (i+1) x y):EqI ad ws sg i x y:=λw a b=>h w a (by ext)
theorem EqI.sy(h:EqI ad ws sg i x y):EqI ad ws sg i y x:=λw b a=>(h w b a).symm
theorem EqI.tr{z:Nat}(h:EqI ad ws sg i x y)(k:EqI ad ws sg i y z):EqI ad ws sg i x z:=λw b a=>(h w b a).trans (k w b a)
def n6(ad:L9 (L9 Nat))(ws:L9 Str)(sg i x:Nat):Prop:=∀ b,b < x->¬ EqI ad ws sg i x b
theorem p9(i x:Nat):∃ r,r<=x/\EqI ad ws sg i x r/\n6 ad ws sg i r:=by
 obtain⟨r,h1⟩:=aBL (P:=λr=>EqI ad ws sg i x r) x (λw _ _=>rfl)
 exact⟨r,h1.1,h1.2.1,λb a h=>h1.2.2 b a (h1.2.1.tr h)⟩
theorem aS5(h:∀ x,x < ad.length->n6 ad ws sg (i+1) x->n6 ad ws sg i x)(hx:x < ad.length)(b:y < ad.length)(e:EqI ad ws sg i x y):EqI ad ws sg (i+1) x y:=by
 obtain⟨r,r1,r2⟩:=p9 _ x
 obtain⟨s,s1,a⟩:=p9 _ y
 have:r=s:=by
  rcases DN r s with q|q|q
  · exact absurd ((r2.1.up.sy.tr e).tr a.1.up).sy ((h s (by ext) a.2) r q)
  · ext
  · exact absurd ((r2.1.up.sy.tr e).tr a.1.up) ((h r (by ext) r2.2) s q)
 subst this
 exact r2.1.tr a.1.sy
theorem aL7(M:Rdr ad sg)(h:∀ x y,x < ad.length->y < ad.length->EqI ad ws sg i x y->EqI ad ws sg (i+1) x y):∀ (k:Nat) {x y:Nat},x < ad.length->y < ad.length->EqI ad ws sg i x y->EqI ad ws sg (i+k) x y
 | 0,_,_,_,_,e=>e
 | k+1,x,y,hx,hy,e=>λw hs hl=>by
  cases w with
  | nil=>exact e [] hs (B5 _)
  | cons c t=>
   have hc:=hs c A4
   have e2:EqI ad ws sg i _ _:=λu a hl=>(h x y hx hy e) (c::u) (λd b=>by
    rcases AV.mp b with q|q
    · ext
    · exact a d q) (by simp_all)
   exact aL7 M h k (iL M hx hc).2 (iL M hy hc).2 e2 t (λc hc=>hs c (AU _ hc)) (by ext)
theorem aL8(p q:α->Bool):∀ l:L9 α,(∀ a∈l,p a=true->q a=true)->(∃ a∈l,p a=false/\q a=true)->l.countP p < l.countP q
 | [],_,⟨a,h,_⟩=>by simp_all
 | x::t,hi,⟨a,h,h1,h2⟩=>by
  rw[List.countP_cons,List.countP_cons]
  have hle:=List.countP_mono_left λa b=>hi a (AU _ b)
  rcases AV.mp h with c|c
  .grind
  .have d:=aL8 p q t (λa b=>hi a (AU _ b)) ⟨a,c,h1,h2⟩
   ext
end
def ix1(ks:L9 D4)(k:D4):Nat:=ks.findIdx λy=>decide (y=k)
theorem aGW{a:L9 D4}{k:D4}(h:k∈a):a[ix1 a k]? = some k/\∀ j,j < ix1 a k->a[j]? ≠ some k:=by
 have b:ix1 a k < a.length:=List.findIdx_lt_length_of_exists (⟨k,h,A2 rfl⟩)
 refine⟨?_,λj c e=>?_⟩
 .have:=List.findIdx_getElem (w:=b)
  rw[AI b]
  exact DD some (BC this)
 .obtain ⟨f,d⟩:=AG.mp e
  have:=List.not_of_lt_findIdx c
  ext
theorem aW6{a:L9 D4}{k:D4}(h:a[i]? = some k)(b:∀ j,j < i->a[j]? ≠ some k):ix1 a k=i:=by
 have h1:=aGW (AD h)
 rcases DN _ i with q|q|q
 · exact absurd h1.1 (b _ q)
 · ext
 simp_all
theorem aP5{x:D4}{a:L9 D4}(hx:aP x=.ok a)(G:a.length<=100000)(H:(∀ k∈a,g8 k=true)\/(∀ k∈a,sK k=true)):kA [.d x]=.ok (.d (.list (a.map λk=>.int (ix1 a k:Int)))):=by
 have same:∀ k (M:L9 (D4×D4)),k∈a->(∀ p∈M,p.1∈a)->bU k (M.map (·.1))=true:=λk M h1 h2=>by
  unfold bU
  ext
 have f:∀ M k,b7 M k=(fP M k).isSome:=λM k=>rfl
 obtain⟨L,F,M,u,t,B,g,n⟩:=i6 (fs:=stT [(stN 2),(stN 3)]) (fb:=uT 1 (eV 3) (eV 2)) (d:=aAA) (xs:=a.zipIdx)
  (λi Y=>∃ (M:L9 _) (u t:O9 A),Y=[some (.d x),some (.m M),u,t]/\(∀ k,fP M k=if k∈a.take i then some (.int (ix1 a k))else none)/\(∀ p∈M,p.1∈a)/\M.length<=i)
  ⟨[],none,none,rfl,λk=>by rfl,λp s=>by simp_all,AM _⟩ (λi p Y s o=>by
  obtain⟨M,u,t,e,g,n,J⟩:=o
  subst e
  obtain⟨k,b⟩:=p
  obtain⟨c,rfl⟩:a[i]? = some k/\b=i:=by
   ext
  have r:=AD c
  have C:b < a.length:=(AG.mp c).1
  have K:=same k M r n
  have I:M.length<=16777216:=by ext
  have z:a.take (b+1)=a.take b++[k]:=by rw[CU,c];rfl
  by_cases h:k∈a.take b
  .have q:b7 M k=true:=by rw[f,g k,AJ h];rfl
   refine⟨[some (.d x),some (.m M),some (.d (.int (b:Int))),some (.d k)],[some (.d x),some (.m M),some (.d (.int (b:Int))),some (.d k)],by simp[aAA],.inl ?_,M,some (.d (.int (b:Int))),some (.d k),rfl,λD=>?_,n,by ext⟩
   .simp_all
   .grind
  .have q:b7 M k=false:=by rw[f,g k,AL h];rfl
   have E:ix1 a k=b:=aW6 c λj y e=>h (by
    refine AD (i:=j) ?_
    rw[EA y];exact e)
   refine⟨[some (.d x),some (.m M),some (.d (.int (b:Int))),some (.d k)],[some (.d x),some (.m (putM M k (.int (b:Int)))),some (.d (.int (b:Int))),some (.d k)],by simp[aAA],.inl ?_,putM M k (.int (b:Int)),some (.d (.int (b:Int))),some (.d k),rfl,λD=>?_,λp s=>?_,?_⟩
   .simp_all
   .rw[aOO q,z]
    ext
   .unfold putM at s
    ext
   .unfold putM
    rw[q,AL (by decide),A7];simp;ext)
 rw[EC,List.take_length]at g
 subst B
 have w:=bA (fs:=stN 0) (fe:=oJ 1 (eV 0)) (Y0:=[none,some (.m M)]) (d:=λk:D4=>k) (g:=λk:D4=>PyData.int (ix1 a k:Int)) (xs:=a) λk l=>⟨_,rfl,by
  have v:=g k
  rw[AJ l]at v
  simp[(same k M l n.1),v]⟩
 rw[List.map_id']at w
 unfold kA aDW
 simp[(aOH hx),F,hx,cK,w]
section
variable{ad:L9 (L9 Nat)}{ws:L9 Str}{sg:Nat}
def rp(ad:L9 (L9 Nat))(ws:L9 Str)(sg i x:Nat):Nat:=(p9 (ad:=ad) (ws:=ws) (sg:=sg) i x).choose
theorem aI1(i x:Nat):rp ad ws sg i x<=x:=(p9 i x).choose_spec.1
theorem rJ(i x:Nat):EqI ad ws sg i x (rp ad ws sg i x):=(p9 i x).choose_spec.2.1
theorem tM(i x:Nat):n6 ad ws sg i (rp ad ws sg i x):=(p9 i x).choose_spec.2.2
theorem aL9{r s:Nat}(h1:n6 ad ws sg i r)(h2:n6 ad ws sg i s)(h:EqI ad ws sg i r s):r=s:=by
 rcases DN r s with q|q|q
 · exact absurd h.sy (h2 r q)
 · ext
 · exact absurd h (h1 s q)
theorem aGX{i x r:Nat}(h:EqI ad ws sg i x r)(k:n6 ad ws sg i r):r=rp ad ws sg i x:=aL9 k (tM i x) (h.sy.tr (rJ i x))
theorem tN:rp ad ws sg i x=rp ad ws sg i y↔EqI ad ws sg i x y:=by
 constructor
 .intro h
  have:=rJ (ad:=ad) (ws:=ws) (sg:=sg) i y
  rw[<-h]at this
  exact(rJ i x).tr this.sy
 .intro h
  exact aL9 (tM i x) (tM i y) ((rJ i x).sy.tr (h.tr (rJ i y)))
theorem aEI{i:Nat}{κ:Nat->D4}(c:∀ x y,x < n->y < n->(κ x=κ y↔EqI ad ws sg i x y))(hx:x < n):ix1 ((range n).map κ) (κ x)=rp ad ws sg i x:=by
 have a:∀ j,j < n->((range n).map κ)[j]? = some _:=λj e=>by rw[AE,BN e];rfl
 obtain⟨h1,h2⟩:=aGW (AD (a x hx))
 generalize ix1 _ _=r at *
 have hr:=by
  have:=(AG.mp h1).1
  rw[AC,BM]at this;ext
 rw[a r hr]at h1
 refine aGX ((c x r hx hr).mp (BV h1).symm) λb d f=>?_
 exact h2 b d (by rw[a b (EV d hr),<-(c r b hr (EV d hr)).mpr f,(BV h1)])
def lkD(ad:L9 (L9 Nat))(ws:L9 Str)(sg i:Nat):D4:=.list ((range ad.length).map λx=>.int (rp ad ws sg i x:Int))
theorem aOP:EqI ad ws sg 0 x y↔ws.getD x ""=ws.getD y "":=by
 constructor
 .intro h;exact h [] (λc b=>by simp_all) (AM _)
 .intro h w _ a
  have:w=[]:=List.eq_nil_of_length_eq_zero (by ext)
  subst this;exact h
theorem aOQ(M:Rdr ad sg)(hx:x < ad.length)(f:y < ad.length):EqI ad ws sg (i+1) x y↔EqI ad ws sg i x y/\∀ k,k < sg->EqI ad ws sg i (eY ad x (97+k)) (eY ad y (97+k)):=by
 constructor
 .intro h
  refine⟨h.up,λk e w a d=>h ((97+k)::w) (λc b=>?_) (by simp_all)⟩
  rcases AV.mp b with q|q
  .exact A2 (by ext)
  .exact a c q
 .rintro ⟨h1,h2⟩ w a d
  cases w with
  | nil=>exact h1 [] a (B5 _)
  | cons c t=>
   have b:=yU (a c A4)
   have:=h2 _ b.2 t (λc b=>a c (AU _ b)) (by simp_all)
   rw[show 97+(c - 97)=c by ext]at this
   exact this
theorem aYO{i:Nat}(hx:x < ad.length):dIx (lkD ad ws sg i) (.int (x:Int))=.ok (.int (rp ad ws sg i x:Int)):=lA (cP (by rw[AE,BN hx];rfl))
theorem aW7(M:Rdw ad ws sg):kA [.d (.tuple (ws.map .str))]=.ok (.d (lkD ad ws sg 0)):=by
 have n2:=M.r.n2
 have e:=M.wl
 have a:ws.map PyData.str=(range ad.length).map λx=>PyData.str (ws.getD x ""):=by
  refine EJ λj=>?_
  ext
 rw[aP5 (c9 (by ext)) (by ext) (.inr λk c=>by obtain⟨w,_,rfl⟩:=A1.mp c;rfl)]
 rw[a,A6]
 congr 3
 refine A9 λx b=>?_
 show PyData.int _=_
 rw[aEI (ad:=ad) (sg:=sg) (λx y _ _=>by rw[aOP];exact⟨λh=>by injection h,λh=>by rw[h]⟩) (BI.mp b)]
theorem aYP(M:Rdr ad sg)(hx:x < ad.length):cD [.d (lkD ad ws sg i),.d (cT (ad.getD x []))]=.ok (.d (.tuple ((ad.getD x []).map λj=>.int (rp ad ws sg i j:Int)))):=by
 have hr:=M.at hx
 have s3:=M.s3
 have b:aP (cT _)=.ok ((ad.getD x []).map λj:Nat=>.int j):=c9 (by ext)
 have c:=bA (fs:=stN 0) (fe:=e2 dIx (rV 1) (rV 0)) (Y0:=[none,some (.d (lkD ad ws sg i))]) (d:=λj:Nat=>.int j) (g:=λj:Nat=>PyData.int (rp ad ws sg i j)) λj a=>⟨_,rfl,by
  have:=aYO (ws:=ws) (sg:=sg) (i:=i) (hr.2.2 j a)
  simp[this]⟩
 generalize ad.getD x []=r at *
 unfold cD lP
 simp[b,cK,c]
def fkK(ad:L9 (L9 Nat))(ws:L9 Str)(sg i x:Nat):D4:=.tuple [.int (rp ad ws sg i x:Int),.tuple ((ad.getD x []).map λj=>.int (rp ad ws sg i j:Int))]
theorem aS6(M:Rdr ad sg)(hx:x < ad.length)(d:y < ad.length):fkK ad ws sg i x=fkK ad ws sg i y↔EqI ad ws sg (i+1) x y:=by
 rw[aOQ M hx d,<-tN]
 have b:∀ q,q < ad.length->∀ k,k < sg->(ad.getD q [])[k]? = some (eY ad q (97+k)):=λq e k a=>by
  have:=(iL M e (c:=97+k) (A2 (by ext))).1
  ext
 constructor
 .intro h
  injection h with h
  injection h with h1 h2
  injection h2 with h2 _
  injection h1 with h1
  injection h2 with h2
  refine⟨Int.ofNat.inj h1,λk a=>tN.mp ?_⟩
  have:=DD (λl=>l[k]?) h2
  simp only[AE,b x hx k a,b y d k a]at this
  injection this with this
  injection this with this
  exact Int.ofNat.inj this
 .rintro ⟨h1,h2⟩
  unfold fkK
  have:(ad.getD x []).map (λj=>PyData.int (rp ad ws sg i j))=(ad.getD y []).map λj=>PyData.int (rp ad ws sg i j):=by
   refine EJ λk=>?_
   rw[AE,AE]
   by_cases a:k < sg
   .rw[b x hx k a,b y d k a]
    show some (PyData.int _)=some _
    rw[tN.mpr (h2 k a)]
   .rw[ET (by rw[(M.at hx).2.1];exact FU.mp a),ET (by rw[(M.at d).2.1];exact FU.mp a)]
  rw[this,h1]
theorem aGY(f:Nat->Int):∀ (xs:L9 Nat),dX (xs.map λj=>.int (f j))=true
 | []=>rfl
 | x::t=>by rw[AW,dX,aGY f t];rfl
theorem aW8(M:Rdr ad sg)(hx:x < ad.length):g8 (fkK ad ws sg i x)=true:=by
 have h2:Sh 2 (fkK ad ws sg i x):=sE λy c=>by
  rcases AV.mp c with q|q
  .rw[q];exact pB _ _
  .rw[AZ.mp q]
   exact sE λz a=>by
    obtain⟨j,_,rfl⟩:=A1.mp a
    exact pB _ _
 have b:=h2.2
 unfold fkK at b ⊢
 unfold g8
 rw[BJ]
 refine⟨?_,A2 (by ext)⟩
 show(true && (dX _ && dX []))=true
 rw[(aGY (λj=>(rp ad ws sg i j)) (ad.getD x []))];rfl
theorem aP6(M:Rdw ad ws sg)(i:Nat):pR [.d (.tuple (ad.map cT)),.d (lkD ad ws sg i)]=.ok (.d (lkD ad ws sg (i+1))):=by
 have n2:=M.r.n2
 have m:aP (lkD ad ws sg i)=.ok _:=eF (by rw[AC,BM];ext)
 have e:ad.map cT=(range ad.length).map λx=>cT (ad.getD x []):=by
  refine EJ λj=>?_
  ext
 have f:aP (.tuple (ad.map cT))=.ok ((range ad.length).map λx=>cT (ad.getD x [])):=by rw[<-e];exact c9 (by rw[AC];ext)
 have p:mR (lkD ad ws sg i) (.tuple (ad.map cT))=.ok ((range ad.length).map λx=>.tuple [.int (rp ad ws sg i x),cT (ad.getD x [])]):=by
  unfold mR
  rw[m,f]
  show R.ok _=R.ok _
  rw[List.zip_map,A6]
  congr 1
  refine EJ λj=>?_
  rw[AE,AE]
  by_cases l:j < ad.length
  .have c:((range ad.length).zip _)[j]? = some (j,j):=List.getElem?_zip_eq_some.mpr ⟨BN l,BN l⟩
   rw[BN l,c];rfl
  ext
 have q:=bA (fs:=stT [(stN 0),(stN 1)]) (fe:=bH (aA (eV 0) (aA (eA (aE 2 cD (aA (vV 2) (aA (vV 1) aB)))) aB))) (Y0:=[none,none,some (.d (lkD ad ws sg i))]) (d:=λx=>PyData.tuple [.int (rp ad ws sg i x),cT (ad.getD x [])]) (g:=fkK ad ws sg i) λx a=>⟨[some (.d (.int (rp ad ws sg i x))),some (.d (cT (ad.getD x []))),some (.d (lkD ad ws sg i))],by rfl,by
  have:=aYP (ws:=ws) M.r (i:=i) (BI.mp a)
  unfold fkK
  simp[-List.getD_eq_getElem?_getD,this]⟩
 have h:aP _=.ok ((range ad.length).map (fkK ad ws sg i)):=eF (by rw[AC,BM];ext)
 have b:=aP5 h (by rw[AC,BM];ext) (.inl λk h=>by
  obtain⟨x,a,rfl⟩:=A1.mp h
  exact aW8 M.r (BI.mp a))
 have n:((range ad.length).map (fkK ad ws sg i)).map (λk=>PyData.int (ix1 ((range ad.length).map (fkK ad ws sg i)) k:Int))=(range ad.length).map λx=>.int (rp ad ws sg (i+1) x:Int):=by
  rw[A6]
  refine A9 λx a=>?_
  show PyData.int _=_
  rw[aEI (ad:=ad) (ws:=ws) (sg:=sg) (i:=i+1) (κ:=fkK ad ws sg i) (λx y a o=>aS6 M.r a o) (BI.mp a)]
 rw[n]at b
 have b:kA [.d (.list ((range ad.length).map (fkK ad ws sg i)))]=.ok (.d (lkD ad ws sg (i+1))):=b
 unfold pR aGC
 simp[-List.getD_eq_getElem?_getD,p,cK,q,b]
theorem aGZ(f:Nat->Int):∀ (xs:L9 Nat),n4 (xs.map λj=>.int (f j))=true
 | []=>rfl
 | x::t=>by show(true && n4 _)=true;rw[aGZ f t];rfl
theorem vA(i:Nat):Cp (lkD ad ws sg i):=⟨aGZ _ _,Sh.shaped (n:=1) (sh_lst λx a=>by
 obtain⟨q,_,rfl⟩:=A1.mp a
 exact pB _ _) (by simp)⟩
theorem aG0(h:lkD ad ws sg i=lkD ad ws sg (i+1)):∀ x,x < ad.length->rp ad ws sg i x=rp ad ws sg (i+1) x:=λx a=>by
 injection h with h
 have:=DD (λl=>l[x]?) h
 simp[BN a,Option.some.injEq]at this
 ext
open Classical in
def aI2(ad:L9 (L9 Nat))(ws:L9 Str)(sg i:Nat):Nat:=(range ad.length).countP λx=>decide (n6 ad ws sg i x)
open Classical in
theorem aG1(h:lkD ad ws sg i≠lkD ad ws sg (i+1)):aI2 ad ws sg i < aI2 ad ws sg (i+1):=by
 refine aL8 _ _ _ (λx _ h=>A2 λb c e=>BC h b c e.up) (DA λd=>h ?_)
 have st:∀ x,x < ad.length->n6 ad ws sg (i+1) x->n6 ad ws sg i x:=λx a hr=>DA λh'=>d ⟨x,BI.mpr a,BA h',A2 hr⟩
 unfold lkD
 congr 1
 refine A9 λx a=>?_
 have a:=BI.mp a
 have f:=aI1 (ad:=ad) (ws:=ws) (sg:=sg) i x
 rw[<-aGX (ad:=ad) (ws:=ws) (sg:=sg) (i:=i+1) (x:=x) (r:=rp ad ws sg i x) (aS5 st a (by ext) (rJ i x)) λb c e=>tM i x b c e.up]
theorem aS7(i:Nat):aI2 ad ws sg i<=ad.length:=by
 have:=List.countP_le_length (p:=λx=>@decide (n6 ad ws sg i x) (Classical.propDecidable _)) (l:=range ad.length)
 rw[BM]at this;exact this
theorem aS8(M:Rdw ad ws sg):∀ (k i:Nat),ad.length<=aI2 ad ws sg i+k->∃ N,aC (aW arT arB) (aM (vV 1)) [some (.d (rdW ad ws)),some (.d (lkD ad ws sg i)),some (.d (lkD ad ws sg (i+1)))]=.ok (.rt (.d (lkD ad ws sg N)))/\lkD ad ws sg N=lkD ad ws sg (N+1):=by
 intro k
 induction k with
 | zero=>
  intro i g
  by_cases h:lkD ad ws sg i=lkD ad ws sg (i+1)
  .refine ⟨i,?_,h⟩
   have a:arT [some (.d (rdW ad ws)),some (.d (lkD ad ws sg i)),some (.d (lkD ad ws sg (i+1)))]=.ok false:=by
    have:=aEH (vA (ad:=ad) (ws:=ws) (sg:=sg) (i+1)) (vA (ad:=ad) (ws:=ws) (sg:=sg) i)
    rw[A2 h.symm]at this
    simp[arT,this]
   rw[aN,bR a]
   rfl
  .have:=aG1 h
   have:=aS7 (ad:=ad) (ws:=ws) (sg:=sg) (i+1)
   ext
 | succ k ih=>
  intro i g
  by_cases h:lkD ad ws sg i=lkD ad ws sg (i+1)
  .refine ⟨i,?_,h⟩
   have a:arT [some (.d (rdW ad ws)),some (.d (lkD ad ws sg i)),some (.d (lkD ad ws sg (i+1)))]=.ok false:=by
    have:=aEH (vA (ad:=ad) (ws:=ws) (sg:=sg) (i+1)) (vA (ad:=ad) (ws:=ws) (sg:=sg) i)
    rw[A2 h.symm]at this
    simp[arT,this]
   rw[aN,bR a]
   rfl
  .have c:=aG1 h
   have a:arT [some (.d (rdW ad ws)),some (.d (lkD ad ws sg i)),some (.d (lkD ad ws sg (i+1)))]=.ok true:=by
    have:=aEH (vA (ad:=ad) (ws:=ws) (sg:=sg) (i+1)) (vA (ad:=ad) (ws:=ws) (sg:=sg) i)
    rw[BA λe=>h e.symm]at this
    simp[arT,this]
   have b:dIx (rdW ad ws) (.int 0)=.ok _:=rfl
   have f:arB [some (.d (rdW ad ws)),some (.d (lkD ad ws sg i)),some (.d (lkD ad ws sg (i+1)))]=.ok (.nx [some (.d (rdW ad ws)),some (.d (lkD ad ws sg (i+1))),some (.d (lkD ad ws sg (i+1+1)))]):=by
    simp[arB,b,(aP6 M (i+1))]
   obtain⟨N,e,j⟩:=ih (i+1) (by ext)
   refine⟨N,?_,j⟩
   rw[aN]at e ⊢
   rw[dE a f]
   exact e
def EqA(ad:L9 (L9 Nat))(ws:L9 Str)(sg x y:Nat):Prop:=∀ w,Sgs sg w->ws.getD (runN ad x w) ""=ws.getD (runN ad y w) ""
theorem aYQ(M:Rdw ad ws sg):∃ L:L9 Nat,dU [.d (rdW ad ws)]=.ok (.d (.list (L.map λr:Nat=>.int (r:Int))))/\L.length=ad.length/\∀ x,x < ad.length->∃ r,L[x]? = some r/\r<=x/\EqA ad ws sg x r/\∀ b,b < r->¬ EqA ad ws sg r b:=by
 obtain⟨N,e,i⟩:=aS8 M ad.length 0 (by simp)
 have n:dIx (rdW ad ws) (.int 0)=.ok _:=rfl
 have k:dIx (rdW ad ws) (.int 1)=.ok _:=rfl
 have m:=aW7 M
 have h1:=aP6 M 0
 have f:∀ {x y:Nat},x < ad.length->y < ad.length->EqI ad ws sg N x y->EqA ad ws sg x y:=λ{x y} a c h w g=>by
  have:=aL7 M.r (λx y a c e=>by
   have:=tN.mpr e
   rw[aG0 i x a,aG0 i y c]at this
   exact tN.mp this) w.length a c h
  exact this w g (by simp)
 refine⟨(range ad.length).map _,?_,by simp,λx a=>⟨rp ad ws sg N x,by rw[AE,BN a];rfl,aI1 N x,f a (FA (aI1 N x) a) (rJ N x),λb j h=>tM N x b j λw g _=>h w g⟩⟩
 have l:lkD ad ws sg N=.list (((range ad.length).map (rp ad ws sg N)).map λr:Nat=>.int r):=by rw[A6];rfl
 unfold dU
 rw[rR]
 simp_all
end
section
variable{ad:L9 (L9 Nat)}{ws:L9 Str}{sg:Nat}{L:L9 Nat}
structure Lk(ad:List (List Nat))(ws:List Str)(sg:Nat)(L:List Nat):Prop where
 len:L.length=ad.length
 at_:∀ x,x < ad.length->L[x]? = some (L.getD x 0)/\L.getD x 0<=x/\EqA ad ws sg x (L.getD x 0)/\∀ b,b < L.getD x 0->¬ EqA ad ws sg (L.getD x 0) b
theorem aMA(M:Rdw ad ws sg):∃ L:L9 Nat,dU [.d (rdW ad ws)]=.ok (.d (.list (L.map λr:Nat=>.int (r:Int))))/\Lk ad ws sg L:=by
 obtain⟨L,e⟩:=aYQ M
 refine⟨L,e.1,e.2.1,λx a=>?_⟩
 obtain⟨r,h1⟩:=e.2.2 x a
 have:L.getD x 0=r:=by rw[AK,h1.1];rfl
 rw[this]
 exact⟨h1.1,h1.2.1,h1.2.2.1,h1.2.2.2⟩
def afL(ad:L9 (L9 Nat))(L:L9 Nat):D4->L9 D4
 | .int q=>(ad.getD q.toNat []).map λj=>.int (L.getD j 0:Int)
 | _=>[]
theorem aB8(q:Nat):afL ad L (.int (q:Int))=(ad.getD q []).map λj=>.int (L.getD j 0:Int):=by
 rfl
theorem lW(M:Rdr ad sg)(K:Lk ad ws sg L):∀ {x:D4},x∈bfQ (afL ad L) (.int 0) n->∃ q:Nat,q < ad.length/\x=.int (q:Int):=by
 induction n with
 | zero=>intro x a;rw[AZ.mp a];exact⟨0,M.n1,rfl⟩
 | succ n ih=>
  intro x a
  rw[bfQ]at a
  split at a
  .rename_i y e
   rcases adA_mem _ a with h|h
   .exact ih h
   .obtain ⟨q,d,rfl⟩:=ih (AD e)
    obtain⟨j,c,rfl⟩:=A1.mp h
    have b:=(M.at d).2.2 j c
    have:=(K.at_ j b).2.1
    ext
  simp_all
theorem aW9(M:Rdr ad sg)(K:Lk ad ws sg L)(hx:x < ad.length):cD [.d (.list (L.map λr:Nat=>.int (r:Int))),.d (cT (ad.getD x []))]=.ok (.d (.tuple (afL ad L (.int (x:Int))))):=by
 have hr:=M.at hx
 have s3:=M.s3
 have b:aP (cT _)=.ok ((ad.getD x []).map λj:Nat=>.int _):=c9 (by rw[AC];ext)
 have c:=bA (fs:=stN 0) (fe:=e2 dIx (rV 1) (rV 0)) (Y0:=[none,some (.d (.list _))]) (d:=λj:Nat=>.int j) λj a=>⟨_,rfl,by
  have:dIx (.list (L.map λr:Nat=>.int r)) _=.ok _:=lA (cP (by rw[AE,(K.at_ j (hr.2.2 j a)).1];rfl))
  assumption⟩
 rw[aB8]
 unfold cD lP
 simp[-List.getD_eq_getElem?_getD,b,cK,c]
structure Lst(ad:List (List Nat))(ws:List Str)(L:List Nat)(N:Nat):Prop where
 len:(bfQ (afL ad L) (.int 0) N).length=N
 on:∀ m,m < N->m < (bfQ (afL ad L) (.int 0) m).length
 le:N<=ad.length
theorem aMB(M:Rdr ad sg)(K:Lk ad ws sg L):∃ N,Lst ad ws L N:=by
 obtain⟨N,h1⟩:=aBL (P:=λn=>(bfQ _ _ n).length<=n) ad.length ((λn=>aS4 (yS _ _ n) λx c=>lW M K c) _)
 have on:∀ m,m < N->m < (bfQ (afL ad L) (.int 0) m).length:=λm d=>by ext
 refine⟨N,Nat.le_antisymm h1.2.1 ?_,on,h1.1⟩
 cases N with
 | zero=>simp
 | succ n=>
  have a:=on n (by simp)
  have b:=(iD (afL ad L) (.int 0) n).length_le
  ext
def roomsL(ad:L9 (L9 Nat))(L:L9 Nat)(N:Nat):L9 Nat:=(bfQ (afL ad L) (.int 0) N).map λx=>match x with | .int q=>q.toNat|_=>0
def bG(ad:L9 (L9 Nat))(L:L9 Nat)(N:Nat):L9 (L9 Nat):=(bfQ (afL ad L) (.int 0) N).map λx=>(afL ad L x).map (nrQ (bfQ (afL ad L) (.int 0) N))
def bT(ad:L9 (L9 Nat))(ws:L9 Str)(L:L9 Nat)(N:Nat):L9 Str:=(roomsL ad L N).map λq=>ws.getD q ""
theorem kQ(M:Rdr ad sg)(K:Lk ad ws sg L)(N:Nat):bfQ (afL ad L) (.int 0) N=(roomsL ad L N).map λq:Nat=>.int (q:Int):=by
 unfold roomsL
 rw[A6]
 conv=>lhs;rw[<-List.map_id (bfQ _ _ N)]
 refine A9 λx a=>?_
 obtain⟨q,_,rfl⟩:=lW M K a
 rfl
theorem aP7(M:Rdw ad ws sg)(K:Lk ad ws sg L)(eL:dU [.d (rdW ad ws)]=.ok (.d (.list (L.map λr:Nat=>.int (r:Int)))))(T:Lst ad ws L N) :
  m8 [.d (rdW ad ws)]=.ok (.d (rdW (bG ad L N) (bT ad ws L N))):=by
 have n2:=M.r.n2
 have s:=T.le
 have t:dIx (rdW ad ws) (.int 0)=.ok _:=rfl
 have l:dIx (rdW ad ws) (.int 1)=.ok _:=rfl
 have o:dIx (.list (L.map λr:Nat=>.int r)) (.int 0)=.ok (.int 0):=by
  have h:=K.at_ 0 M.r.n1
  have:L.getD 0 0=0:=by ext
  rw[this]at h
  exact lA (cP (by rw[AE,h.1];rfl))
 let S:Sq:={after:=afL ad L,x0:=.int 0,stop:=λ_ _=>false,k1:=2,k2:=1,G:=eX 3 eE [.d (.list (L.map λr:Nat=>.int r)),.d (rdW ad ws)],D:=gF kN}
 have O:S.ok N:={
  on:=λm c=>⟨T.on m c,rfl⟩
  off:=.inl (D8 T.len)
  key:=.inr λx f=>by obtain⟨q,_,rfl⟩:=lW M.r K f;rfl
  len:=by rw[T.len];ext
  hk1:=by show 2<=12;ext
  hk2:=by show 1<=12;ext
  hG:=λm x c f=>by
   obtain⟨q,a,rfl⟩:=lW M.r K (AD f)
   have n:(afL ad L (.int (q:Int))).length<=3:=by rw[aB8,AC,(M.r.at a).2.1];exact M.r.s3
   refine⟨⟨.tuple (afL ad L (.int (q:Int))),?_,c9 (by show(afL ad L (.int (q:Int))).length<=_;ext)⟩,by show(afL ad L (.int (q:Int))).length<=1000;ext⟩
   show eX 3 eE [.d (.list (L.map λr:Nat=>.int (r:Int))),.d (rdW ad ws)] [.int (q:Int)]=_
   unfold eX eE
   simp[-List.getD_eq_getElem?_getD,t,(aAP (ws:=ws.map .str) M.r a),(aW9 M.r K a),dOf]
  hD:=λm c A=>by
   show gF kN [.list (bfQ (afL ad L) (.int 0) m),.int (m:Int)]=.ok (.bool false)
   unfold gF kN aGB
   simp[dOf]}
 have e:=aW2 O
 have e:fF [.d (.int 0),.g 2 1 (eX 3 eE [.d (.list (L.map λr:Nat=>.int (r:Int))),.d (rdW ad ws)]),.g 1 2 (gF kN)]=.ok (.d (.tuple [.list (bfQ (afL ad L) (.int 0) N),.list (cI (afL ad L) (bfQ (afL ad L) (.int 0) N) N)])):=e
 have p:cI (afL ad L) (bfQ (afL ad L) (.int 0) N) N=(bG ad L N).map cT:=by
  unfold cI bG
  rw[CG (D8 T.len),A6];rfl
 rw[p]at e
 have k:(roomsL ad L N).length=N:=by unfold roomsL;rw[AC,T.len]
 rw[(kQ M.r K N)]at e
 have hi:aP (.list ((roomsL ad L N).map λq:Nat=>.int (q:Int)))=.ok ((roomsL ad L N).map λq:Nat=>.int (q:Int)):=eF (by rw[AC];ext)
 have b:∀ q∈roomsL ad L N,q < ad.length:=λq a=>by
  have:PyData.int (q:Int)∈bfQ (afL ad L) (.int 0) N:=by rw[(kQ M.r K N)];exact A1.mpr ⟨q,a,rfl⟩
  obtain⟨y,h,e⟩:=lW M.r K this
  ext
 have i:=bA (fs:=stN 0) (fe:=e2 dIx (e2 dIx (rV 1) (eC (.int 1))) (rV 0)) (Y0:=[none,some (.d (rdW ad ws))]) (d:=λq:Nat=>.int (q:Int)) (g:=λq:Nat=>PyData.str (ws.getD q "")) (xs:=roomsL ad L N) λq a=>⟨_,rfl,by
  simp[-List.getD_eq_getElem?_getD,l,(M.w (b q a)).2]⟩
 have j:(roomsL ad L N).map (λq:Nat=>PyData.str (ws.getD q ""))=(bT ad ws L N).map .str:=by unfold bT;rw[A6];rfl
 rw[j]at i
 have x0:dIx (.tuple [.list ((roomsL ad L N).map λq:Nat=>.int (q:Int)),.list ((bG ad L N).map cT)]) (.int 0)=.ok (.list ((roomsL ad L N).map λq:Nat=>.int (q:Int))):=rfl
 have u:dIx (.tuple [.list ((roomsL ad L N).map λq:Nat=>.int (q:Int)),.list ((bG ad L N).map cT)]) (.int 1)=.ok (.list ((bG ad L N).map cT)):=rfl
 show m8 [.d (rdW ad ws)]=.ok (.d (.tuple [.tuple ((bG ad L N).map cT),.tuple ((bT ad ws L N).map .str)]))
 generalize (bG ad L N).map cT=B at *
 generalize (bT ad ws L N).map PyData.str=v at *
 generalize (roomsL ad L N).map (λq:Nat=>PyData.int (q:Int))=z at *
 unfold m8 aAB
 simp[uR,pO,uS,aDO,aIF,eR,yA,eL,o,e,x0,u,hi,cK,i,dOf]
end
section
variable{ad:L9 (L9 Nat)}{ws:L9 Str}{sg:Nat}{L:L9 Nat}{N:Nat}
theorem EqA.sy(h:EqA ad ws sg x y):EqA ad ws sg y x:=λw a=>(h w a).symm
theorem EqA.tr{z:Nat}(h:EqA ad ws sg x y)(k:EqA ad ws sg y z):EqA ad ws sg x z:=λw a=>(h w a).trans (k w a)
theorem EqA.on(h:EqA ad ws sg x y)(e:bD sg c=true):EqA ad ws sg (eY ad x c) (eY ad y c):=λw a=>h (c::w) λd b=>by
 rcases AV.mp b with q|q
 · ext
 · exact a d q
theorem Lk.iff(K:Lk ad ws sg L)(hx:x < ad.length)(c:y < ad.length):L.getD x 0=L.getD y 0↔EqA ad ws sg x y:=by
 obtain⟨_,_,a,b⟩:=K.at_ y c
 constructor
 .intro h;rw[<-h]at a;exact(K.at_ x hx).2.2.1.tr a.sy
 .intro h
  have e:=(K.at_ x hx).2.2.1.sy.tr (h.tr a)
  rcases DN _ _ with q|q|q
  · exact absurd e.sy (b _ q)
  · ext
  · exact absurd e ((K.at_ x hx).2.2.2 _ q)
theorem rK(T:Lst ad ws L N):(roomsL ad L N).length=N:=by unfold roomsL;rw[AC,T.len]
theorem mO(M:Rdr ad sg)(K:Lk ad ws sg L):∀ q∈roomsL ad L N,q < ad.length:=λq a=>by
 have:PyData.int q∈bfQ (afL ad L) (.int 0) N:=by rw[kQ M K];exact A1.mpr ⟨q,a,rfl⟩
 obtain⟨b,h,e⟩:=lW M K this
 ext
theorem yV{after:D4->L9 D4}{x0 x y:D4}(f:(bfQ after x0 n).length<=n)(hx:x∈bfQ after x0 n)(g:y∈after x):y∈bfQ after x0 n:=by
 obtain⟨m,d⟩:=DV hx
 have b:=(AG.mp d).1
 have a:=A3 b f
 by_cases h:m < (bfQ after x0 m).length
 .have:=tL (lV (BS a)) h d
  have c:y∈bfQ after x0 (m+1):=by rw[(lU this)];exact nB _ g
  exact(lV (by ext)).subset c
 .exfalso
  have e:∀ k,(bfQ after x0 (m+k))=bfQ after x0 m:=by
   intro k
   induction k with
   | zero=>rfl
   | succ k ih=>
    have:(bfQ after x0 (m+k))[m+k]? = none:=by rw[ih];exact ET (by ext)
    rw[<-Nat.add_assoc,bfQ,this]
    ext
  obtain⟨k,rfl⟩:=Nat.le.dest (BS a)
  ext
theorem aEJ(M:Rdr ad sg)(K:Lk ad ws sg L)(T:Lst ad ws L N)(hi:i < N)(k:bD sg c=true) :
  eY (bG ad L N) i c < N/\(roomsL ad L N).getD (eY (bG ad L N) i c) 0=L.getD (eY ad ((roomsL ad L N).getD i 0) c) 0:=by
 have h:=rK T
 have f:(roomsL ad L N)[i]? = some ((roomsL ad L N).getD i 0):=by simp_all
 generalize l:(roomsL ad L N).getD i 0=q at *
 have d:(bfQ (afL ad L) (.int 0) N)[i]? = some (.int q):=by rw[(kQ M K N),AE,f];rfl
 have e:(bG ad L N).getD i []=(afL ad L (.int q)).map (nrQ (bfQ (afL ad L) (.int 0) N)):=by
  rw[AK]
  unfold bG
  rw[AE,d];rfl
 have g:eY (bG ad L N) i c=nrQ (bfQ (afL ad L) (.int 0) N) (.int (L.getD (eY ad q c) 0)):=by
  unfold eY
  rw[e,AK,AE,aB8,AE,(iL M (mO M K _ (AD f)) k).1];rfl
 have a:=p8 (yV (D8 T.len) (AD d) (A1.mpr ⟨_,AD (iL M (mO M K _ (AD f)) k).1,rfl⟩))
 rw[g]
 generalize nrQ _ _=j at *
 have b:=(AG.mp a).1
 rw[T.len]at b
 refine⟨b,?_⟩
 rw[(kQ M K N),AE]at a
 cases z:(roomsL ad L N)[j]? with
 | none=>simp_all
 | some v=>
  rw[z]at a
  have:=BV a
  injection this with this
  rw[AK,z]
  show v=_
  ext
theorem aOR(M:Rdw ad ws sg)(K:Lk ad ws sg L)(T:Lst ad ws L N):Rdw (bG ad L N) (bT ad ws L N) sg:=by
 have a:(bG ad L N).length=N:=by unfold bG;rw[AC,T.len]
 have h:1<=N:=by
  have:=T.len
  cases N with
  | zero=>simp[bfQ]at this
  | succ n=>simp
 have e:=T.le
 have n2:=M.r.n2
 refine⟨⟨by ext,by ext,M.r.s1,M.r.s3,λr hr=>?_⟩,?_,λw f=>?_⟩
 .obtain ⟨x,c,rfl⟩:=A1.mp hr
  obtain⟨q,b,rfl⟩:=lW M.r K c
  refine⟨by rw[AC,aB8,AC,(M.r.at b).2.1],λj d=>?_⟩
  obtain⟨y,g⟩:=A1.mp d
  have:=(AG.mp (p8 (yV (D8 T.len) c g.1))).1
  rw[T.len]at this
  simp_all
 .unfold bT;rw[AC,rK T,a]
 .obtain ⟨q,b,rfl⟩:=A1.mp f
  exact(M.w (mO M.r K q b)).1
theorem aXA(M:Rdr ad sg)(K:Lk ad ws sg L)(T:Lst ad ws L N):∀ (w:L9 Nat) {i x:Nat},Sgs sg w->i < N->x < ad.length->(roomsL ad L N).getD i 0=L.getD x 0->runN (bG ad L N) i w < N/\(roomsL ad L N).getD (runN (bG ad L N) i w) 0=L.getD (runN ad x w) 0
 | [],_,_,_,hi,_,h=>⟨hi,h⟩
 | c::t,i,x,hs,hi,hx,h=>by
  have hc:=hs c A4
  have a:=(iL M hx hc).2
  have e:L.getD (eY ad ((roomsL ad L N).getD i 0) c) 0=L.getD (eY ad x c) 0:=by
   rw[h]
   exact(K.iff (iL M (FA (K.at_ x hx).2.1 hx) hc).2 a).mpr ((K.at_ x hx).2.2.1.sy.on hc)
  exact aXA M K T t (λc hc=>hs c (AU _ hc)) (aEJ M K T hi hc).1 a ((aEJ M K T hi hc).2.trans e)
theorem aYR(M:Rdw ad ws sg)(K:Lk ad ws sg L)(T:Lst ad ws L N){w:L9 Nat}(a:Sgs sg w)(hi:i < N)(hx:x < ad.length)(h:(roomsL ad L N).getD i 0=L.getD x 0) :
  (bT ad ws L N).getD (runN (bG ad L N) i w) ""=ws.getD (runN ad x w) "":=by
 obtain⟨h1,h2⟩:=aXA M.r K T w a hi hx h
 have d:=rK T
 have b:(roomsL ad L N)[runN (bG ad L N) i w]? = some ((roomsL ad L N).getD (runN (bG ad L N) i w) 0):=by simp_all
 have e:(bT ad ws L N).getD (runN (bG ad L N) i w) ""=ws.getD ((roomsL ad L N).getD (runN (bG ad L N) i w) 0) "":=by
  rw[AK]
  unfold bT
  rw[AE,b];rfl
 rw[e,h2]
 have:=(K.at_ _ (jM M.r w a hx)).2.2.1 [] (λc f=>by simp_all)
 exact this.symm
end
section
variable{r1 r2:L9 (L9 Nat)}{w1 w2:L9 Str}{sg:Nat}{L1 L2:L9 Nat}{N1 N2:Nat}
def EqX(r1 r2:L9 (L9 Nat))(w1 w2:L9 Str)(sg x y:Nat):Prop:=∀ w,Sgs sg w->w1.getD (runN r1 x w) ""=w2.getD (runN r2 y w) ""
end
section
variable{ad r1 r2:L9 (L9 Nat)}{ws w1 w2:L9 Str}{sg:Nat}{L L1 L2:L9 Nat}{N N1 N2:Nat}
theorem aS9(T:Lst ad ws L N):0 < N:=by
 have:=T.len
 cases N with
 | zero=>simp[bfQ]at this
 | succ n=>simp
theorem aI3(M:Rdr ad sg)(K:Lk ad ws sg L)(T:Lst ad ws L N):(roomsL ad L N).getD 0 0=L.getD 0 0:=by
 have h:=K.at_ 0 M.n1
 have e:(roomsL ad L N)[0]? = some 0:=by
  have:=rF (afL ad L) (.int 0) N
  rw[kQ M K,AE]at this
  ext
 ext
theorem yW(M:Rdw ad ws sg)(K:Lk ad ws sg L)(T:Lst ad ws L N):EqX (bG ad L N) ad (bT ad ws L N) ws sg 0 0:=λw a=>
 aYR M K T a (aS9 T) M.r.n1 (aI3 M.r K T)
end
end _e
namespace _g
end _g
namespace _f
end _f
variable{x:L9 Nat}{zs:L9 (L9 Nat)}{most:Nat}
namespace _e
open _f
variable{rs:L9 Rw}{gs:L9 D4}
def afW(rs:L9 Rw)(sg:Nat)(x:D4):L9 D4:=(range sg).map (aIZ rs x)
def bfW(rs:L9 Rw)(sg n:Nat):L9 D4:=bfQ (afW rs sg) (aI rs []) n
def adZ(rs:L9 Rw)(zs:L9 (L9 Nat))(z:L9 Nat):L9 (L9 Nat):=if aI rs z∈zs.map (aI rs)then zs else zs++[z]
def cU(sg:Nat)(z:L9 Nat):L9 (L9 Nat):=(range sg).map λk=>z++[97+k]
def zsW(rs:L9 Rw)(sg:Nat):Nat->L9 (L9 Nat)
 | 0=>[[]]
 | n+1=>match (zsW rs sg n)[n]? with
  | some z=>(cU sg z).foldl (adZ rs) (zsW rs sg n)
  | none=>zsW rs sg n
theorem qA(rs:L9 Rw)(zs:L9 (L9 Nat))(z:L9 Nat):(adZ rs zs z).map (aI rs)=adQ (zs.map (aI rs)) (aI rs z):=by
 unfold adZ adQ
 ext
theorem rL(rs:L9 Rw)(l:L9 (L9 Nat)):∀ zs:L9 (L9 Nat),(l.foldl (adZ rs) zs).map (aI rs)=adA (zs.map (aI rs)) (l.map (aI rs)):=by
 induction l with
 | nil=>intro zs;rfl
 | cons z t ih=>intro zs;rw[D5,ih,qA];rfl
theorem adZ_mem(h:x∈adZ rs zs z):x∈zs\/x=z:=by
 unfold adZ at h
 ext
theorem adZs_mem(l:L9 (L9 Nat)):∀ {zs:L9 (L9 Nat)},x∈l.foldl (adZ rs) zs->x∈zs\/x∈l:=by
 induction l with
 | nil=>simp
 | cons z t ih=>
  intro zs h
  rcases ih h with h|h
  · rcases adZ_mem h with h | h <;> simp_all
  ext
theorem aTA(rs:L9 Rw)(zs:L9 (L9 Nat))(z:L9 Nat):zs <+: adZ rs zs z:=by
 unfold adZ
 ext
theorem aOS(rs:L9 Rw)(l:L9 (L9 Nat)):∀ zs:L9 (L9 Nat),zs <+: l.foldl (adZ rs) zs:=by
 induction l with
 | nil=>simp
 | cons z t ih=>exact λzs=>(aTA rs zs z).trans (ih _)
theorem aEK(M:Mach rs sg)(S:aH sg z):(cU sg z).map (aI rs)=afW rs sg (aI rs z):=by
 unfold cU afW
 rw[A6]
 exact A9 λk a=>(aAO M S (BI.mp a)).symm
structure ZsOk(rs:List Rw)(sg n:Nat)(zs:List (List Nat)):Prop where
 map:zs.map (aI rs)=bfW rs sg n
 ok:∀ z∈zs,aH sg z/\z.length<=n
theorem aTB(S:aH sg z)(b:z.length<=n)(c:n < 900)(h:x∈cU sg z):aH sg x/\x.length<=n+1:=by
 obtain⟨k,a,rfl⟩:=A1.mp h
 exact⟨rH S (BI.mp a) (by ext),by simp_all⟩
theorem lC(M:Mach rs sg):∀ n,n<=900->ZsOk rs sg n (zsW rs sg n):=by
 intro n
 induction n with
 | zero=>exact λ_=>⟨rfl,λz b=>by rw[AZ.mp b];exact⟨⟨by simp,λc f=>by simp_all⟩,by simp⟩⟩
 | succ n ih=>
  intro d
  obtain⟨h1,h2⟩:=ih (by ext)
  unfold bfW at h1
  have e:(bfQ (afW rs sg) (aI rs []) n)[n]? = ((zsW rs sg n)[n]?).map (aI rs):=by rw[<-h1,AE]
  cases q:(zsW rs sg n)[n]? with
  | none=>
   rw[q]at e
   refine⟨?_,λz b=>?_⟩
   .unfold bfW
    rw[zsW,bfQ,q,e];exact h1
   .rw[zsW,q]at b
    ext
  | some z=>
   rw[q]at e
   refine⟨?_,λx a=>?_⟩
   .unfold bfW
    rw[zsW,bfQ,q,e]
    simp[Option.map_some]
    rw[rL,h1,aEK M (h2 z (AD q)).1]
   .rw[zsW,q]at a
    rcases adZs_mem _ a with a|a
    · ext
    · exact aTB (h2 z (AD q)).1 (h2 z (AD q)).2 (by ext) a
structure EndW(rs:List Rw)(sg most N:Nat):Prop where
 on:∀ m,m < N->m < (bfW rs sg m).length/\(bfW rs sg m).length<=most
 off:(bfW rs sg N).length<=N\/most < (bfW rs sg N).length
theorem aOT{P:Nat->Prop}:∀ K:Nat,P K->∃ n,n<=K/\P n/\∀ m,m < n->¬ P m:=by
 intro K
 induction K using Nat.strongRecOn with
 | _ K ih=>
  ext
theorem aTC(rs:L9 Rw)(sg most:Nat):∃ N,N<=most/\EndW rs sg most N:=by
 obtain⟨n,h1⟩:=aOT (P:=λn=>(bfW rs sg n).length<=n\/most < (bfW rs sg n).length) most (by ext)
 exact⟨n,h1.1,λm a=>by ext,h1.2.1⟩
theorem EndW.full(E:EndW rs sg most N)(h:(bfW rs sg N).length<=most):(bfW rs sg N).length=N:=by
 rcases E.off with q|q
 .cases N with
  | zero=>simp_all
  | succ n=>
   have h1:=(E.on n (by simp)).1
   have h2:(bfW rs sg n).length<=(bfW rs sg _).length:=(iD _ _ n).length_le
   ext
 ext
theorem EndW.up{a:Nat}(E:EndW rs sg most N)(h:(bfW rs sg N).length<=most)(c:most<=a):EndW rs sg a N:=
 ⟨λm b=>⟨(E.on m b).1,by have:=(E.on m b).2;ext⟩,.inl (by rw[E.full h];simp)⟩
def aZY(rs:L9 Rw)(sg:Nat):Sq where
 after:=afW rs sg
 x0:=aI rs []
 stop fs _:=decide (200 < fs.length)
 k1:=4
 k2:=1
 G:=eX 2 j9 [.d (.list ((range sg).map (f6 rs)))]
 D:=eX 2 kY []
theorem tO(M:Mach rs sg)(a:n<=900){x:D4}(h:x∈bfW rs sg n):∃ z,aH sg z/\x=aI rs z:=by
 obtain⟨h1,h2⟩:=lC M n a
 ext
theorem jC(M:Mach rs sg)(S:aH sg z):g8 (aI rs z)=true:=by
 exact aS1 (aGU M S).1 (aGU M S).2
theorem aTD(M:Mach rs sg)(E:EndW rs sg most N)(d:1<=most):(bfW rs sg N).length<=most+3:=by
 cases N with
 | zero=>show 1<=most+3;simp
 | succ n=>
  obtain⟨h1,h2⟩:=E.on n (by simp)
  have b:(bfQ _ _ n)[n]? = some (bfQ _ _ n)[n]:=AI h1
  have a:=aGQ (afW rs sg (bfQ _ _ n)[n]) (bfQ (afW rs sg) (aI rs []) n)
  rw[<-lU b]at a
  have c:(afW rs sg (bfQ _ _ n)[n]).length=sg:=by unfold afW;simp
  have:=M.sg3
  unfold bfW at h2 ⊢
  ext
theorem aTE(M:Mach rs sg)(E:EndW rs sg 200 N)(j:N<=200):(aZY rs sg).ok N where
 on m h:=⟨(E.on m h).1,BA (by have:=(E.on m h).2;unfold bfW at this;show ¬ 200 < (bfQ (afW rs sg) (aI rs []) m).length;ext)⟩
 off:=E.off.imp id λh=>A2 h
 key:=.inl λx b=>by
  obtain⟨z,S,rfl⟩:=tO M (by ext) (show x∈bfW rs sg N from b)
  exact jC M S
 len:=by have:=aTD M E (by ext);show(bfW rs sg N).length<=_;ext
 hk1:=by show 4<=12;decide
 hk2:=by show 1<=12;decide
 hG m x hm b:=by
  obtain⟨z,S,rfl⟩:=tO M (show N<=900 by ext) (AD b)
  have f:=bA (fs:=stN 0) (fe:=eA (aE 2 gE (aA (vV 1) (aA (vV 0) aB)))) (Y0:=[none,some (.d (aI rs z))]) (d:=f6 rs) (g:=aIZ rs (aI rs z)) (xs:=range sg) λk a=>by
   refine⟨_,rfl,?_⟩
   have a:=BI.mp a
   have:=aEC M S (c:=97+k) (by unfold bD;exact A2 (by ext))
   rw[show 97+k - 97=k by ext,<-aAO M S a]at this
   simp[this]
  have hi:=eF (xs:=(range sg).map (f6 rs)) (by have:=M.sg3;simp;ext)
  have e:(afW rs sg (aI rs z)).length=sg:=by unfold afW;simp
  have i:=M.sg3
  refine⟨⟨.list (afW rs sg (aI rs z)),?_,eF (by ext)⟩,by show(afW rs sg (aI rs z)).length<=_;ext⟩
  show eX 2 j9 [.d (.list ((range sg).map (f6 rs)))] [aI rs z]=_
  unfold eX j9
  simp[hi,cK,f,dOf]
  rfl
 hD m hm e:=by
  show eX 2 kY [] [.list (bfW rs sg m),.int (m:Int)]=.ok (.bool (decide (200 < (bfW rs sg m).length)))
  unfold eX kY
  simp[k9,dOf]
  ext
def aI4(rs:L9 Rw)(sg N:Nat):D4:=.tuple [.tuple (cI (afW rs sg) (bfW rs sg N) N),.tuple ((zsW rs sg N).map λz=>.str (a7 rs z))]
def wyρ(rs:L9 Rw)(sg most:Nat)(zs:L9 (L9 Nat))(gs:L9 D4)(u v w x:O9 A):Sg:=[some (.d (aK rs)),some (.d (.int (sg:Int))),some (.d (.int (most:Int))),some (.l (zs.map stD)),some (.m (gX (zs.map (aI rs)))),some (.l gs),u,v,w,x]
theorem aTF(s1:1<=sg)(a:sg<=3):(sgT sg).cps.toList=(range sg).map (97 + ·):=by
 rcases(by omega:sg=1\/sg=2\/sg=3)with rfl|rfl|rfl<;>rfl
theorem aXB{most:Nat}{v w x:O9 A}(M:Mach rs sg)(hz:zs[gs.length]? = some z)(nd:(zs.map (aI rs)).Nodup)(O:∀ y∈zs,aH sg y)(U:z.length < 900)(L:zs.length<=1000) :
  ∃ v' w' x',jO (stN 7) wyF ((range sg).map λk:Nat=>.str ⟨#[97+k]⟩) (wyρ rs sg most zs gs (some (.l [])) v w x)=.ok (.nx (wyρ rs sg most ((cU sg z).foldl (adZ rs) zs) gs (some (.l (((afW rs sg (aI rs z)).map (nrQ (((cU sg z).foldl (adZ rs) zs).map (aI rs)))).map λj:Nat=>.int (j:Int)))) v' w' x')):=by
 have V:=M.sg3
 have Sz:=O z (AD hz)
 obtain⟨X,T,v',w',x',P⟩:=i6 (fs:=stN 7) (fb:=wyF) (d:=λk:Nat=>PyData.str ⟨#[97+k]⟩) (Y:=wyρ rs sg most zs gs (some (.l [])) v w x)
  (λi Y=>∃ v' w' x',Y=wyρ rs sg most (((cU sg z).take i).foldl (adZ rs) zs) gs (some (.l ((((cU sg z).take i).map λy=>nrQ ((((cU sg z).take i).foldl (adZ rs) zs).map (aI rs)) (aI rs y)).map λj:Nat=>.int j))) v' w' x') ⟨v,w,x,rfl⟩ λi k Y hi B=>by
  obtain⟨v',w',x',e⟩:=B
  have b:=(AG.mp hi).1
  rw[BM]at b
  rw[BN b]at hi
  cases hi
  have f:(cU sg z)[i]? = some (z++[97+i]):=by unfold cU;rw[AE,BN b];rfl
  have Sy:=rH Sz b (by ext)
  have Q:(cU sg z).take (i+1)=(cU sg z).take i++[z++[97+i]]:=by rw[CU,f];rfl
  have D:∀ x∈((cU sg z).take i).foldl (adZ rs) zs,aH sg x:=λx a=>by
   rcases adZs_mem _ a with h|h
   .exact O x h
   .obtain ⟨k,g,rfl⟩:=A1.mp (E1 h)
    exact rH Sz (BI.mp g) (by ext)
  have p:∀ y∈(cU sg z).take i,aI rs y∈(((cU sg z).take i).foldl (adZ rs) zs).map (aI rs):=λy f=>by
   rw[rL];exact nB _ (DF f)
  have E:((((cU sg z).take i).foldl (adZ rs) zs).map (aI rs)).Nodup:=by rw[rL];exact aEF _ nd
  have C:(((cU sg z).take i).foldl (adZ rs) zs)[gs.length]? = some z:=w6 (aOS rs _ zs) hz
  have H:(((cU sg z).take i).foldl (adZ rs) zs).length<=1003:=by
   have h1:=aGQ (((cU sg z).take i).map (aI rs)) (zs.map (aI rs))
   rw[<-rL,AC,AC,AC,B6]at h1
   ext
  rw[Q,List.foldl_append,D5,List.foldl_nil]
  generalize W:((cU sg z).take i).foldl (adZ rs) zs=F at *
  have o:((cU sg z).take i++[z++[97+i]]).map (λy=>nrQ ((adZ rs F (z++[97+i])).map (aI rs)) (aI rs y))=((cU sg z).take i).map (λy=>nrQ (F.map (aI rs)) (aI rs y))++[nrQ ((adZ rs F (z++[97+i])).map (aI rs)) (aI rs (z++[97+i]))]:=by
   rw[BL,DM]
   congr 1
   refine A9 λy f=>?_
   rw[qA]
   exact u9 (p6 _ _) (p y f)
  rw[o]
  have G:=aLV M (z:=⟨(z++[97+i]).toArray⟩) (by simpa using Sy)
  simp only[List.toList_toArray]at G
  have t:dIx (.list (F.map stD)) (.int (gs.length:Int))=.ok (stD z):=lA (cP (by rw[AE,C];rfl))
  have n:bJ (stD z) (.str ⟨#[97+i]⟩)=.ok (.str ⟨(z++[97+i]).toArray⟩):=by
   unfold stD
   rw[aLK (by show z.toArray.size+1<=16777216;rw[CA];exact(by ext)),show(⟨z.toArray⟩:Str)++(⟨#[97+i]⟩:Str)=⟨(z++[97+i]).toArray⟩by
    show(⟨z.toArray ++ #[97+i]⟩:Str)=_
    simp]
  have g:∀ x∈F.map (aI rs),g8 x=true:=λx a=>by
   obtain⟨y,f,rfl⟩:=A1.mp a
   exact jC M (D y f)
  have J:((adZ rs F (z++[97+i])).map (aI rs)).Nodup:=by rw[qA];exact aLZ E
  have m:=aGR J (y:=aI rs (z++[97+i])) (by rw[qA];exact p7 _ _)
  have K:∀ x∈(adZ rs F (z++[97+i])).map (aI rs),g8 x=true:=λx a=>by
   rw[qA]at a
   by_cases q:aI rs (z++[97+i])∈F.map (aI rs)
   .rw[nZ q]at a;exact g x a
   .rw[lT q]at a
    rcases BO.mp a with h|h
    · exact g x h
    · rw [AZ.mp h]; exact(jC M Sy)
  have u:=w4 (jC M Sy) K
  have s:(gX (F.map (aI rs))).length<=16777216:=by rw[aGO,AC];ext
  have r:F.length < 16777216:=by ext
  have c:min i (cU sg z).length < 16777216:=by ext
  refine⟨wyρ rs sg most F gs (some (.l ((((cU sg z).take i).map λy=>nrQ (F.map (aI rs)) (aI rs y)).map λj:Nat=>.int (j:Int)))) (some (.d (.str ⟨#[97+i]⟩))) w' x',_,by rw[e];simp[wyρ],.inl ?_,some (.d (.str ⟨#[97+i]⟩)),some (.d (.str ⟨(z++[97+i]).toArray⟩)),some (.d (aI rs (z++[97+i]))),rfl⟩
  by_cases q:aI rs (z++[97+i])∈F.map (aI rs)
  .have S:=aAK.mpr q
   have I:adZ rs F (z++[97+i])=F:=AJ q
   rw[I]at u m ⊢
   simp only[wyF,wyρ,aN,cY,dY,eM,dM,c8,fC,kZ,cL,bY,b6,AS,AN,R.bind_ok,k9,t,n,AX,A0,AT,A5,Nat.reduceAdd,BR,G,iI,aAE,(w4 (jC M Sy) g),S,i5,Bool.not_true,BZ,C8,mL,aAC,aD0,m,AC,B6,c]
   simp
  .have N:=aGP q
   have I:adZ rs F (z++[97+i])=F++[z++[97+i]]:=AL q
   rw[I]at u m ⊢
   rw[AC]at N
   rw[BL,DM]at u m
   simp only[wyF,wyρ,aN,cY,dY,eM,dM,c8,fC,kZ,cL,bY,b6,AS,AN,R.bind_ok,k9,t,n,AX,A0,AT,A5,Nat.reduceAdd,BR,G,iI,aAE,(w4 (jC M Sy) g),(w5 q),i5,Bool.not_false,aD1,N,s,r,aAC,aD0,u,m,AC,B6,c]
   simp[stD,r,u,m,c]
 rw[(CG (by unfold cU;simp))]at P
 refine⟨v',w',x',?_⟩
 rw[T,P,<-aEK M Sz]
 simp only[A6]
 rfl
theorem aTG{most:Nat}{u v w x:O9 A}(M:Mach rs sg)(r:m < 900)(n:gs.length=m)(o:m < (bfW rs sg m).length)(i:(bfW rs sg m).length<=900) :
  ∃ y u' v' w' x',(bfW rs sg m)[m]? = some y/\wyB (wyρ rs sg most (zsW rs sg m) gs u v w x)=if most < (bfW rs sg (m+1)).length then .ok (.rt (.d .none))else .ok (.nx (wyρ rs sg most (zsW rs sg (m+1)) (gs++[o3 (afW rs sg) (bfW rs sg (m+1)) y]) u' v' w' x')):=by
 have Zq:=lC M m (by ext)
 have Zq1:=lC M (m+1) (by ext)
 have p:(zsW rs sg m).length=(bfW rs sg m).length:=by rw[<-Zq.map,AC]
 have a:(zsW rs sg (m+1)).length=(bfW rs sg (m+1)).length:=by rw[<-Zq1.map,AC]
 have c:(zsW rs sg m)[m]? = some _:=AI (by ext)
 generalize (zsW rs sg m)[m]=z at c
 have Sz:=Zq.ok z (AD c)
 have e:(bfW rs sg m)[m]? = some (aI rs z):=by rw[<-Zq.map,AE,c];rfl
 have e1:zsW rs sg (m+1)=(cU sg z).foldl (adZ rs) (zsW rs sg m):=by rw[zsW,c]
 obtain⟨v',w',x',q⟩:=aXB (most:=most) (v:=v) (w:=w) (x:=x) M (by rw[n];ext) (by rw[Zq.map];exact yS _ _ m) (λy e=>(Zq.ok y e).1) (by ext) (by ext)
 rw[<-e1,Zq1.map]at q
 have g:dSl _ none _=.ok (.str (sgT sg)):=aB6 (by decide)
 have hi:aP (.str (sgT sg))=.ok ((range sg).map λk:Nat=>.str ⟨#[97+k]⟩):=by
  rw[rA (by have:=aS3 M.sg1 M.sg3;ext),aTF M.sg1 M.sg3,A6];rfl
 have f:gs.length < 16777216:=by ext
 refine⟨aI rs z,some (.l (((afW rs sg (aI rs z)).map (nrQ (bfW rs sg (m+1)))).map λj:Nat=>.int (j:Int))),v',w',x',e,?_⟩
 simp only[wyρ]at q
 have s:decide ((most:Int) < ((bfW rs sg (m+1)).length:Int))=decide (most < (bfW rs sg (m+1)).length):=by
  ext
 have b:(afW rs sg (aI rs z)).length<=16777216:=by simpa using (by unfold afW;have:=M.sg3;simp;ext)
 simp only[wyB,wyρ,aN,kB,kO,b6,R.bind_ok,A5,B5,BR,AX,A0,pT,dM,sR,dH,sS,pU,c8,AS,AN,g,hi,q,aAC,yI,f,iI,eM,k9,AC,a]
 by_cases h:most < (bfW rs sg (m+1)).length
 .simp_all
 .rw[AL h]
  simp[(by ext),a,b,o3,cT]
theorem wy_loop(M:Mach rs sg)(E:EndW rs sg most N)(F:most<=800)(h1:1<=most)(H:N<=most):∀ (k m:Nat) (u v w x:O9 A),m+k=N->((bfW rs sg m).length<=most)->
  (most < (bfW rs sg N).length/\aC (aW wyT wyB) wyE (wyρ rs sg most (zsW rs sg m) (cI (afW rs sg) (bfW rs sg m) m) u v w x)=.ok (.rt (.d .none))) \/
  ((bfW rs sg N).length<=most/\∃ u' v' w' x',aC (aW wyT wyB) wyE (wyρ rs sg most (zsW rs sg m) (cI (afW rs sg) (bfW rs sg m) m) u v w x)=wyE (wyρ rs sg most (zsW rs sg N) (cI (afW rs sg) (bfW rs sg N) N) u' v' w' x')):=by
 have r:∀ m u v w x,m<=N->m<=(bfW rs sg m).length->wyT (wyρ rs sg most (zsW rs sg m) (cI (afW rs sg) (bfW rs sg m) m) u v w x)=.ok (decide (m < (bfW rs sg m).length)):=λm u v w x f g=>by
  have s:(zsW rs sg m).length=(bfW rs sg m).length:=by rw[<-(lC M m (BB f (BB H (BB F (by simp))))).map,AC]
  simp only[wyT,wyρ,dM,eM,c8,AS,AN,R.bind_ok,k9,AC,s,(oP (after:=afW rs sg) g)]
  simp
 have c:∀ m,m<=N->m<=(bfW rs sg m).length:=λm h=>by
  cases m with
  | zero=>simp
  | succ n=>exact BB (E.on n h).1 (iD _ _ n).length_le
 intro k
 induction k with
 | zero=>
  intro m u v w x i g
  have i:m=N:=i
  subst i
  have I:=E.full g
  refine .inr ⟨g,u,v,w,x,?_⟩
  rw[aN,bR (by rw[r m u v w x (AM _) (c m (AM _)),BA (by ext)])]
  rfl
 | succ k ih=>
  intro m u v w x i g
  have a:m < N:=i▸GJ (Nat.succ_pos k)
  obtain⟨y,u',v',w',x',l,q⟩:=aTG (most:=most) (u:=u) (v:=v) (w:=w) (x:=x) M (by ext) (oP (after:=afW rs sg) (c m (BS a))) (E.on m a).1 (by ext)
  by_cases b:most < (bfW rs sg (m+1)).length
  .rw[AJ b]at q
   have f:m+1=N:=by
    rcases Nat.lt_or_ge (m+1) N with h|h
    .have:=(E.on _ h).2;ext
    .omega
   rw[f]at b
   refine .inl ⟨b,?_⟩
   rw[aN,fG (by rw[r m u v w x (BS a) (c m (BS a)),A2 (E.on m a).1]) q];rfl
  .rw[AL b]at q
   have e:cI (afW rs sg) (bfW rs sg m) m++[o3 (afW rs sg) (bfW rs sg (m+1)) y]=cI (afW rs sg) (bfW rs sg (m+1)) (m+1):=by
    unfold cI bfW at *
    have o:(bfQ (afW rs sg) (aI rs []) (m+1)).take (m+1)=(bfQ (afW rs sg) (aI rs []) m).take m++[y]:=by
     obtain⟨t,C⟩:=iD (afW rs sg) (aI rs []) m
     have D:=(AG.mp l).1
     rw[<-C,E4 (by ext),CU,l];rfl
    rw[o,BL,DM]
    congr 1
    refine A9 λy l=>?_
    unfold o3
    congr 1
    refine A9 λz G=>?_
    obtain⟨j,B⟩:=DV l
    have p:j < m:=by
     ext
    rw[ED,AJ p]at B
    refine(u9 (iD (afW rs sg) (aI rs []) m) ?_).symm
    have:=nB (fs:=bfQ (afW rs sg) (aI rs []) j) _ G
    rw[<-lU (tL (lV (by ext)) ((E.on j (by ext)).1) B)]at this
    exact(lV (by ext)).subset this
   rw[e]at q
   have:=ih (m+1) u' v' w' x' (by ext) (by ext)
   rw[aN,dE (by rw[r m u v w x (BS a) (c m (BS a)),A2 (E.on m a).1]) q]
   simp_all
def m3(rs:L9 Rw)(sg N:Nat):D4:=.tuple [.list ((zsW rs sg N).map stD),.tuple (cI (afW rs sg) (bfW rs sg N) N),.tuple ((zsW rs sg N).map λz=>.str (a7 rs z))]
theorem aXC(M:Mach rs sg)(E:EndW rs sg most N)(n:most<=800)(h1:1<=most)(s:N<=most):cE [.d (aK rs),.d (.int (sg:Int)),.d (.int (most:Int))]=if most < (bfW rs sg N).length then .ok (.d .none)else .ok (.d (m3 rs sg N)):=by
 have f:=aLV M (z:="") ⟨by show 0<=1000;simp,λc i=>nomatch i⟩
 have f:eI _=.ok (.d (aI rs [])):=f
 have j:bU (aI rs []) []=true:=by unfold bU;rw[(jC M (z:=[]) ⟨by simp,λc i=>by simp_all⟩)];rfl
 have y:_f.gO [] [(aI rs [],.int 0)]=.ok [(aI rs [],.int 0)]:=by simp[_f.gO,j,putM,b7,fP]
 have run:∀ r,aC _ wyE _=r->cE [.d (aK rs),.d _,.d _]=match r with | .bad=>.bad | .ex e=>.ex e | .ok (.rt (.l _))=>.bad | .ok (.rt a)=>.ok a | .ok (.nx _)=>.ok _ | .ok _=>.bad:=λr hr=>by
  have hr:aC _ wyE [some (.d (aK rs)),some (.d (.int sg)),some (.d (.int most)),some (.l [.str ""]),some (.m [(aI rs [],.int 0)]),some (.l []),none,none,none,none]=r:=hr
  unfold cE
  rw[vU]
  simp only[cZ,aN,kB,kO,bY,b6,dH,aOE,aOF,aSV,k7,cL,fC,dY,R.bind_ok,AT,A5,Nat.reduceAdd,AW,BE,A8,BD,replicate,AS,BR,AX,A0,f,jX,y,Nat.reduceLeDiff]
  rw[aN]at hr
  rw[hr]
  cases r with
  | bad=>rfl
  | ex e=>rfl
  | ok w=>
   cases w with
   | rt a=>cases a<;>rfl
   | _=>rfl
 rcases(wy_loop M E n h1 s N 0 none none none none (by simp) (by assumption))with ⟨b,q⟩|⟨k,u,v,w,x,q⟩
 .rw[AJ b,run _ q]
 .have Zq:=lC M N (by ext)
  have t:(zsW rs sg N).length=(bfW rs sg N).length:=by rw[<-Zq.map,AC]
  rw[AL (by ext)]
  have h:=bA (fs:=stN 0) (fe:=eA (aE 2 eO (aA (vV 1) (aA (vV 0) aB)))) (Y0:=[none,some (.d (aK rs))]) (d:=stD) (g:=λz=>.str (a7 rs z)) (xs:=zsW rs sg N) λz p=>by
   refine⟨_,rfl,?_⟩
   have:=yN M (z:=⟨z.toArray⟩) (by simpa using (Zq.ok z p).1)
   simp only[List.toList_toArray]at this
   simp[stD,this]
  have o:(cI (afW rs sg) (bfW rs sg N) N).length<=16777216:=by unfold cI;rw[AC,B6];ext
  have:wyE (wyρ rs sg most (zsW rs sg N) (cI (afW rs sg) (bfW rs sg N) N) u v w x)=.ok (.rt (.d (m3 rs sg N))):=by
   simp[wyE,wyρ,(eF (xs:=(zsW rs sg N).map stD) (by simp;ext)),cK,h,yI,(by ext),m3]
  rw[run _ (q.trans this)]
theorem aTH(M:Mach rs sg)(h1:rs.length=1)(xs:L9 D4)(nd:xs.Nodup)(h:∀ x∈xs,∃ z,aH sg z/\x=aI rs z):xs.length<=16:=by
 classical
 have k:=λz S=>h1▸aGV M S (rD M z)
 have d:∀ z,aH sg z->tnB 1 (cG rs z ((0:Nat))):=λz S=>h1▸aGV M S (yQ (by ext))
 let code:=λz=>tc 1 (dN rs z (0,0)) * 4+tc 1 (cG rs z (0))
 let f:=λx=>if h:∃ z,aH sg z/\x=aI rs z then code h.choose else 0
 have j:∀ x∈xs,∃ z,aH sg z/\x=aI rs z/\f x=code z:=λx i=>⟨(h x i).choose,(h x i).choose_spec.1,(h x i).choose_spec.2,dif_pos _⟩
 refine oC f 16 xs nd (λx i=>?_) (λa m b l e=>?_)
 .obtain ⟨z,S⟩:=j x i
  rw[S.2.2]
  have:=aB7 (k z S.1)
  have:=aB7 (d z S.1)
  ext
 .obtain ⟨z,S,e1,e2⟩:=j a m
  obtain⟨g,c⟩:=j b l
  rw[e1,c.2.1]
  rw[e2,c.2.2]at e
  have e:tc 1 _ * 4+tc 1 (cG rs z ((0:Nat)))=tc 1 _ * 4+tc 1 (cG rs g ((0:Nat))):=e
  have o:=aB7 (d z S)
  have n:=aB7 (d g c.1)
  have e1:tc 1 (cG rs z ((0:Nat)))=tc 1 (cG rs g ((0:Nat))):=by ext
  refine aOL (aL6 (k z S) (k g c.1) (by ext)) λq p=>?_
  have:q=0:=by ext
  subst this
  exact aL6 (d z S) (d g c.1) e1
def smT:Sg->R Bool:=(e1 asB (e2 dIs (rV 5) (eC .none)))
def smB:Sg->R Fw:=(aC (aS 3 (vD (e2 dSub (rV 3) (eC (.int 1)))))
 (aC (aS 4 (aE 4 eH (aA (vV 0) (aA (vD (e2 bJ (rV 1) (eC (.int 2)))) (aA (vV 3) (aA (vV 2) aB))))))
 (aS 5 (aE 3 cE (aA (vV 4) (aA (vV 2) (aA (vD (eC (.int 40))) aB)))))))
theorem aXD:sZ=(aC (aS 2 (vD (e2 bJ (eC (.int 1)) (e2 dMod (eA (aE 2 bP (aA (vV 0) (aA (vV 1) aB)))) (eC (.int 2))))))
 (aC (aS 3 (vD (e2 bJ (eC (.int 1)) (e2 dMod (eA (aE 2 bP (aA (vV 0) (aA (vD (e2 bJ (rV 1) (eC (.int 1)))) aB)))) (e2 dIx (eL (dI (aA (eC (.int 5)) (aA (eC (.int 3)) aB)))) (e2 dSub (rV 2) (eC (.int 1))))))))
 (aC (aS 4 (aE 4 eH (aA (vV 0) (aA (vD (e2 bJ (rV 1) (eC (.int 2)))) (aA (vV 3) (aA (vV 2) aB))))))
 (aC (aS 5 (aE 3 cE (aA (vV 4) (aA (vV 2) (aA (vD (eC (.int 40))) aB)))))
 (aC (aW smT smB)
 (aM (vD (bH (aA (eV 4) (aA (eV 5) aB)))))))))):=id rfl
structure Sml(rs:List Rw)(sg N:Nat):Prop where
 m:Mach rs sg
 e:EndW rs sg 40 N
 n:N<=40
 few:(bfW rs sg N).length<=40
 s2:sg<=2
 r5:rs.length<=5
theorem ways40(M:Mach rs sg)(c:sg<=2)(b:rs.length<=5):(cE [.d (aK rs),.d (.int (sg:Int)),.d (.int 40)]=.ok (.d .none)/\rs.length≠1)\/∃ N,cE [.d (aK rs),.d (.int (sg:Int)),.d (.int 40)]=.ok (.d (m3 rs sg N))/\Sml rs sg N:=by
 obtain⟨N,a⟩:=aTC rs sg 40
 have h:=aXC M a.2 (by simp) (by simp) a.1
 by_cases q:40 < (bfW rs sg N).length
 .rw[AJ q]at h
  refine .inl ⟨h,λh1=>?_⟩
  have:=aTH M h1 (bfW rs sg N) (yS _ _ _) λx e=>tO M (by ext) e
  ext
 .rw[AL q]at h
  exact .inr ⟨N,h,M,a.2,a.1,by ext,c,b⟩
theorem aTI{ns:L9 Int}{at':Nat}(s1:1<=sg)(i:sg<=2):∀ (n:Nat) (rs:L9 Rw) (y:D4),1<=n->n<=5->Mach rs sg->rs.length=n->cE [.d (aK rs),.d (.int (sg:Int)),.d (.int 40)]=.ok (.d y)->
  ∃ rs' N,aC (aW smT smB) (aM (vD (bH (aA (eV 4) (aA (eV 5) aB))))) [some (.d (dW ns)),some (.d (.int (at':Int))),some (.d (.int (sg:Int))),some (.d (.int (n:Int))),some (.d (aK rs)),some (.d y)]=.ok (.rt (.d (.tuple [aK rs',m3 rs' sg N])))/\Sml rs' sg N:=by
 intro n
 induction n with
 | zero=>ext
 | succ n ih=>
  intro rs y h1 p M o c
  rcases ways40 M i (by ext)with ⟨e,m⟩|⟨N,e,S⟩
  .rw[e]at c
   cases c
   have g:smT [some (.d (dW ns)),some (.d (.int at')),some (.d (.int sg)),some (.d (.int ((n+1:Nat)))),some (.d (aK rs)),some (.d .none)]=.ok true:=by
    rfl
   obtain⟨b,e2,M2,l⟩:=aLO (ns:=ns) (at':=at'+2) (n:=n) (by ext) (by ext) (by ext) s1 (by ext)
   obtain⟨f,a⟩:∃ f,cE _=.ok (.d f):=by
    rcases ways40 M2 i (by ext)with ⟨e,_⟩|⟨N,e,_⟩
    all_goals exact⟨_,e⟩
   have k:smB [some (.d (dW ns)),some (.d (.int at')),some (.d (.int sg)),some (.d (.int ((n+1:Nat)))),some (.d (aK rs)),some (.d .none)]=.ok (.nx [some (.d (dW ns)),some (.d (.int at')),some (.d (.int sg)),some (.d (.int n)),some (.d (aK b)),some (.d f)]):=by
    have j:((n+1:Nat)) - 1=(n:Int):=by simp
    simp only[smB,aN,cY,dY,eM,c8,dH,AN,AS,R.bind_ok,aLH,j,A0,AX,cL,bY,b6,fC,sT,AT,A5,Nat.reduceAdd,BR,e2,a]
   obtain⟨rs',N,h,S⟩:=ih b f (by ext) (by ext) M2 l a
   refine⟨rs',N,?_,S⟩
   rw[aN]at h ⊢
   rw[dE g k]
   exact h
  .rw[e]at c
   cases c
   refine⟨rs,N,?_,S⟩
   have g:smT [some (.d (dW ns)),some (.d (.int (at':Int))),some (.d (.int (sg:Int))),some (.d (.int ((n+1:Nat):Int))),some (.d (aK rs)),some (.d (m3 rs sg N))]=.ok false:=by
    simp[smT,iR,m3]
   rw[aN,bR g]
   simp
theorem aTJ(ns:L9 Int)(at':Nat):∃ rs sg N,i8 [.d (dW ns),.d (.int (at':Int))]=.ok (.d (.tuple [aK rs,m3 rs sg N]))/\Sml rs sg N:=by
 obtain⟨i,f⟩:=pZ ns at'
 obtain⟨b,g⟩:=pZ ns (at'+1)
 have k2:dMod _ _=.ok (.int (i % 2)):=cC (by simp)
 obtain⟨sg,o,s1,l⟩:∃ sg:Nat,1+i % 2=sg/\1<=sg/\sg<=2:=⟨(1+i % 2).toNat,by ext,by ext,by ext⟩
 obtain⟨m,q,t,v⟩:∃ m:Int,dIx (.list [.int 5,.int 3]) (.int (sg - 1))=.ok (.int m)/\1<=m/\m<=5:=by
  have:sg=1\/sg=2:=by ext
  rcases this with rfl|rfl<;>simp_all
 have k3:dMod _ _=.ok (.int (b % m)):=cC (by ext)
 have u:=B2 b (show m≠0 by ext)
 have w:=B3 b (show 0 < m by ext)
 obtain⟨n,r,s,p⟩:∃ n:Nat,1+b % m=n/\1<=n/\n<=5:=⟨(1+b % m).toNat,by ext,by ext,by ext⟩
 obtain⟨c,e2,M2⟩:=aLO (ns:=ns) (at':=at'+2) (by ext) (by ext) (by ext) s1 (by ext)
 obtain⟨j,a⟩:∃ j,cE _=.ok (.d j):=by
  rcases ways40 M2.1 l (by ext)with ⟨e,_⟩|⟨N,e,_⟩
  · exact⟨_, e⟩
  · exact⟨_, e⟩
 obtain⟨h,N,k⟩:=aTI (ns:=ns) (at':=at') s1 l n c j s p M2.1 M2.2 a
 refine⟨h,sg,N,?_,k.2⟩
 unfold i8
 rw[aXD]
 generalize aC (aW smT smB) (aM (vD (bH (aA (eV 4) (aA (eV 5) aB)))))=W at *
 simp[f,g,k2,o,q,k3,r,e2,a,k.1]
section
variable{rs:L9 Rw}{sg N:Nat}
structure Wy(rs:List Rw)(sg N:Nat):Prop where
 m:Mach rs sg
 len:(bfW rs sg N).length=N
 n:N<=200
def bZ(rs:L9 Rw)(sg N:Nat):L9 (L9 Nat):=(bfW rs sg N).map λx=>(afW rs sg x).map (nrQ (bfW rs sg N))
def c5(rs:L9 Rw)(sg N:Nat):L9 Str:=(zsW rs sg N).map (a7 rs)
theorem Sml.wy(S:Sml rs sg N):Wy rs sg N:=⟨S.m,S.e.full S.few,by have:=S.n;ext⟩
theorem aXE(W:Wy rs sg N):aI4 rs sg N=rdW (bZ rs sg N) (c5 rs sg N):=by
 unfold aI4 rdW rdD cI bZ c5 o3
 rw[CG (by rw[W.len];simp),A6,A6]
 rfl
theorem Wy.pos(W:Wy rs sg N):0 < N:=by
 have:=W.len
 cases N with
 | zero=>simp[bfW,bfQ]at this
 | succ n=>simp
theorem Wy.zlen(W:Wy rs sg N):(zsW rs sg N).length=N:=by
 have:=DD length ((lC W.m N (by have:=W.n;ext)).map)
 rw[AC,W.len]at this
 ext
theorem Wy.at_(W:Wy rs sg N)(hi:i < N):∃ z,(zsW rs sg N)[i]? = some z/\(bfW rs sg N)[i]? = some (aI rs z)/\aH sg z/\z.length<=N:=by
 have ok:=lC W.m N (by have:=W.n;ext)
 have a:=W.zlen
 refine⟨_,(AI (by ext)),?_,ok.ok _ (CY _)⟩
 rw[<-ok.map,AE,(AI (by ext))];rfl
theorem Wy.rows_len(W:Wy rs sg N):(bZ rs sg N).length=N:=by unfold bZ;rw[AC,W.len]
theorem Wy.on(W:Wy rs sg N)(hi:(bfW rs sg N)[i]? = some (aI rs z))(S:aH sg z)(g:z.length < 1000)(f:bD sg c=true) :
  eY (bZ rs sg N) i c < N/\(bfW rs sg N)[eY (bZ rs sg N) i c]? = some (aI rs (z++[c])):=by
 have d:=yU f
 have a:=aAO W.m S d.2
 rw[show 97+(c - 97)=c by ext]at a
 have b:aI rs _∈bfW rs sg N:=yV (by have:=W.len;unfold bfW at this;ext) (AD hi) (A1.mpr ⟨c - 97,BI.mpr d.2,a⟩)
 have e:eY (bZ rs sg N) i c=nrQ (bfW rs sg N) (aI rs (z++[c])):=by
  unfold eY bZ
  rw[AK (l:=List.map _ _),AE,hi]
  unfold afW
  simp_all
 rw[e]
 exact⟨by have:=(AG.mp (p8 b)).1;have:=W.len;ext,(p8 b)⟩
theorem aE5(M:Mach rs sg){b:L9 Nat}(S:aH sg z)(c:aH sg b)(h:aI rs z=aI rs b):a7 rs z=a7 rs b:=by
 have a:=yT M S
 rw[h,yT M c]at a
 ext
theorem Wy.word(W:Wy rs sg N)(hi:(bfW rs sg N)[i]? = some (aI rs z))(S:aH sg z):(c5 rs sg N).getD i ""=a7 rs z:=by
 have a:=(AG.mp hi).1
 rw[W.len]at a
 obtain⟨c,h1,h2,b⟩:=W.at_ a
 rw[hi]at h2
 unfold c5
 rw[AK,AE,h1]
 exact aE5 W.m b.1 S (BV h2).symm
theorem Wy.run(W:Wy rs sg N):∀ (y:L9 Nat) {i:Nat} {z:L9 Nat},(bfW rs sg N)[i]? = some (aI rs z)->aH sg (z++y)->(bfW rs sg N)[runN (bZ rs sg N) i y]? = some (aI rs (z++y))
 | [],i,z,hi,_=>by rw[C5];exact hi
 | c::t,i,z,hi,S=>by
  have hl:z.length < 1000:=by have:=S.1;simp at this;ext
  have h:=(W.on hi (⟨by ext,λd a=>S.2 d (CT _ a)⟩) hl (S.2 c (by simp))).2
  have e:z++c::t=(z++[c])++t:=by simp
  rw[e]at S ⊢
  exact W.run t h S
theorem Wy.says(W:Wy rs sg N)(S:aH sg z):(c5 rs sg N).getD (runN (bZ rs sg N) 0 z) ""=a7 rs z:=by
 have:=W.run z (rF _ _ _) S
 exact W.word this S
theorem Wy.rdw(W:Wy rs sg N):Rdw (bZ rs sg N) (c5 rs sg N) sg:=by
 have s1:=W.m.sg1
 have h:=W.m.sg3
 have n:=W.n
 have i:=W.pos
 have a:=W.rows_len
 refine⟨⟨by ext,by ext,by ext,by ext,λr hr=>?_⟩,?_,λw f=>?_⟩
 .obtain ⟨x,e,rfl⟩:=A1.mp hr
  refine⟨by unfold afW;simp,λj c=>?_⟩
  obtain⟨y,g,rfl⟩:=A1.mp c
  have d:y∈bfW rs sg N:=yV (by have:=W.len;unfold bfW at this;ext) e g
  have:=(AG.mp (p8 d)).1
  have:=W.len
  ext
 .unfold c5;rw[AC,W.zlen,a]
 .obtain ⟨z,b,rfl⟩:=A1.mp f
  exact aEE W.m ((lC W.m N (by ext)).ok z b).1
end
section
variable{ad r1 r2:L9 (L9 Nat)}{ws w1 w2:L9 Str}{sg:Nat}{L:L9 Nat}{N:Nat}
theorem tP(T:Lst ad ws L N):(bG ad L N).length=N:=by unfold bG;rw[AC,T.len]
end
section
variable{ad:L9 (L9 Nat)}{ws:L9 Str}{rs:L9 Rw}{sg N:Nat}{L:L9 Nat}
def cA(w:Str):Str:=if w="ever" then "out" else w
theorem stopW_is{w:Str}(h:w8 w):cA w="by"\/cA w="out":=by
 rcases h with rfl|rfl|rfl
 · exact .inl (by rfl)
 all_goals exact .inr (by rfl)
def jN(ad:L9 (L9 Nat))(ws:L9 Str)(q:Nat):Rw:=⟨if q=0 then .n 0 else .w "out",(ad.getD q []).map λj:Nat=>((j:Int),1),.w (ws.getD q "")⟩
def f7(ad:L9 (L9 Nat))(ws:L9 Str):L9 Rw:=(range ad.length).map (jN ad ws)
theorem aOU(a:q < ad.length):(f7 ad ws)[q]? = some (jN ad ws q):=by unfold f7;rw[AE,BN a];rfl
theorem rM(a:q < ad.length):aJ (f7 ad ws) (q:Int)=jN ad ws q:=by
 unfold aJ
 rw[show((q:Int)).toNat=q by rfl,AK,aOU a];rfl
def Stp(ws:L9 Str):Prop:=∀ w∈ws,w="by"\/w="out"
theorem Stp.at_(h:Stp ws)(a:q < ws.length):ws.getD q ""="by"\/ws.getD q ""="out":=by
 rw[AK,AI a]
 exact h _ (CY a)
theorem tQ(M:Rdw ad ws sg)(h:Stp ws):Mach (f7 ad ws) sg:=by
 have b:(f7 ad ws).length=ad.length:=by unfold f7;simp
 refine⟨by rw[b];exact M.r.n1,by rw[b];exact M.r.n2,M.r.s1,M.r.s3,λr hr=>?_⟩
 rw[b]
 obtain⟨q,a,rfl⟩:=A1.mp hr
 have a:=BI.mp a
 have n1:=M.r.n1
 refine⟨⟨?_,?_,λc f=>?_⟩,?_⟩
 .unfold jN
  by_cases d:q=0
  · rw [AJ d]; exact⟨CM _, by ext⟩
  · rw [AL d]; exact .inr rfl
 .exact (h.at_ (by rw[M.wl];ext))
 .obtain ⟨j,e,rfl⟩:=A1.mp f
  have:=(M.r.at a).2.2 j e
  exact⟨by simp,by ext,.inl rfl⟩
 .show ((ad.getD q []).map _).length=sg
  rw[AC,(M.r.at a).2.1]
theorem aTK(M:Rdr ad sg)(a:q < ad.length)(b:k < sg):ck k (jN ad ws q)=((eY ad q (97+k):Int),1):=by
 have h:=(iL M a (c:=97+k) (A2 (by ext))).1
 rw[show 97+k - 97=k by simp]at h
 unfold ck jN
 rw[AK,AE,h];rfl
theorem aOV(M:Rdw ad ws sg)(h:Stp ws)(z:L9 Nat):aH sg z->dN (f7 ad ws) z (0,0)=.n ((runN ad 0 z:Nat):Int):=by
 refine aON (P:=λz=>aH sg z->dN _ z _=.n ((runN ad 0 z))) (λ_=>?_) (λz c d S=>?_) z
 .have:=aAG (rs:=f7 ad ws) (q:=0)
  rw[this]
  have b:=rM (ws:=ws) M.r.n1
  have b:aJ _ 0=jN ad ws 0:=b
  rw[b];rfl
 .have Sz:=aI0 S
  have e:=yU Sz.2
  rw[aGM (tQ M h) Sz.1 Sz.2,d Sz.1]
  have a:=aTK (ws:=ws) M.r (jM M.r z Sz.1.2 M.r.n1) e.2
  rw[show 97+(c - 97)=c by ext]at a
  rw[aOM (by rw[rM (jM M.r z Sz.1.2 M.r.n1),a]),rM (jM M.r z Sz.1.2 M.r.n1),a]
  have:runN ad 0 (z++[c])=eY ad (runN ad 0 z) c:=by unfold runN;simp
  rw[this]
theorem aMC(M:Rdw ad ws sg)(h:Stp ws)(S:aH sg z):a7 (f7 ad ws) z=ws.getD (runN ad 0 z) "":=by
 have:=aGN (tQ M h) S
 unfold a7
 have e:fD="ever":=rfl
 rw[e]at this
 rw[this,aOV M h z S]
 unfold wbR
 dsimp
 have:iB (f7 ad ws) (cG (f7 ad ws) z) ((runN ad 0 z))=some (.inr (ws.getD (runN ad 0 z) "")):=by
  unfold iB
  rw[rM (jM M.r z S.2 M.r.n1)];rfl
 rw[resOf_out this];rfl
theorem aYS{w:Str}(h:w8 w):fX [.d (.str w)]=.ok (.d (.str (cA w))):=by
 have a:=tK h (.inr (.inr rfl))
 unfold fX oN cA
 by_cases q:w="ever"
 .rw[A2 q]at a
  rw[AJ q]
  simp[a]
 simp_all
theorem aTL(M:Rdw ad ws sg)(e:q < ad.length):gR [.d (rdW ad ws),.d (.int (q:Int))]=.ok (.d (aY (jN ad ws q))):=by
 have hr:=M.r.at e
 have s3:=M.r.s3
 have i:dIx (rdW ad ws) (.int 0)=.ok _:=rfl
 have b:=aAP (ws:=ws.map .str) M.r e
 have h:dIx (rdW ad ws) (.int 1)=.ok _:=rfl
 have c:=(M.w e).2
 have f:aP (cT _)=.ok ((ad.getD q []).map λj:Nat=>.int _):=c9 (by ext)
 have k:=bA (fs:=stN 0) (fe:=bH (aA (eV 0) (aA (eC (.int 1)) aB))) (Y0:=[none]) (g:=λj:Nat=>cellD (j,1)) (xs:=ad.getD q []) λj m=>⟨[some _],rfl,by rfl⟩
 have a:aY (jN ad ws q)=.tuple [(if q=0 then Tn.n 0 else Tn.w "out").d,.tuple ((ad.getD q []).map λj:Nat=>cellD (j,1)),.str (ws.getD q "")]:=by
  unfold aY jN
  rw[A6];rfl
 rw[a]
 generalize ws.getD q ""=w at *
 generalize ad.getD q []=r at *
 unfold gR pS
 by_cases l:q=0
 .subst l
  have b:dIx _ (.int 0)=.ok _:=b
  have c:dIx _ (.int 0)=.ok _:=c
  simp[bV,i,b,h,c,f,cK,k,Tn.d]
 .simp[bV,(by ext),i,b,h,c,f,cK,k,Tn.d]
end
section
variable{ad:L9 (L9 Nat)}{ws:L9 Str}{rs:L9 Rw}{sg N:Nat}{L:L9 Nat}
end
end _e
variable{x:Str}
namespace _f
end _f
namespace _g
end _g
namespace _f
variable{Z:_a.St}{F H:Hp}{Y:Sg}
def BxK(c:Ct)(E':XK)(Z:_a.St)(D:kC)(F H:Hp):R Unit->Prop
 | .bad=>False
 | .ok _=>∀ F' H',Ext F H F' H'->D.nx Z H'
 | .ex e=>∀ a C F' H',Ext F H F' H'->lL c.K c.mg F' e a C->E' (.ref C) (some a) H'
theorem BxK.ext{c:Ct}{E':XK}{D:kC}{F1 H1:Hp}(s:Ext F H F1 H1):∀ {r:R Unit},BxK c E' Z D F H r->BxK c E' Z D F1 H1 r
 | .bad,h=>h
 | .ok _,h=>λb H' e=>h b H' (s.trans e)
 | .ex _,h=>λa C b H' e=>h a C b H' (s.trans e)
def aMS:Sg->R Unit:=λ_=>.ok ()
section
variable{X:Cx}{c:Ct}{E:XK}{e:Ez}{pos p2:Pos}{lo hi:O9 Ez}
def dSlS:D4->O9 Int->O9 Int->R D4
 | .str z,lo,hi=>if z.length<=16777216 then .ok (.str (Txt.slice z lo hi))else .bad
 | _,_,_=>.bad
theorem aYT:SlR X (aNL c (bO c) dSlS):=by
 intro ap s Z H v x i k lo hi sl Q I g f j b h
 obtain⟨F,d,w,l,e,a,q⟩:=h
 unfold dSlS at a
 split at a
 .split at a
  .cases a
   obtain rfl:=aQ.str_of e
   exact aJ1 ap s Z H _ x i k lo hi sl Q I g f j b ⟨_,rfl,by assumption,q _ F H (Ext.refl l) (.str _)⟩
  simp_all
 simp_all
theorem aMD:∀ x l h e,dSlS x l h≠.ex e:=by intro x l h e q;unfold dSlS at q;split at q<;>(ext)<;>cases q
theorem aME{z:Str}{a fh:Sg->R (O9 Int)}(f:PR X c E e (eC (.str z)))(d:PO X lo (tPf c E a))(b:PO X hi (tPf c E fh)):PD X c E (.Subscript e (.Slice lo hi none p2) pos) (eSl dSl (eC (.str z)) a fh):=
 ((PE.imp (aCG aYT f d b) λZ H Q h=>aFU aMD (l5 c) h))
def yX:D4->R (L9 D4)
 | .str z=>if z.cps.toList.length<=16777216 then .ok (nO 0 (z.cps.toList.map λu=>.str ⟨#[u]⟩))else .bad
 | _=>.bad
theorem aTM{tg:Ez}{f:Sg->R D4}(h':PI X tg e (aJ3 (c6 (tV (bO c) c E f) gK))):PI0 X c E tg e (e1 yX f):=PI.imp h' λZ H Q ⟨Y,F,ab,k⟩=>by
 have a:=Rk.bind k
 cases b:f Y with
 | bad=>rw[b]at a;exact a.elim
 | ex x=>rw[b]at a;exact⟨Y,F,ab,by rw[b];exact a⟩
 | ok d=>
  rw[b]at a
  have k2:=Rk.ok a
  unfold yX at k2
  split at k2
  .rename_i z
   split at k2
   .rename_i g
    refine⟨Y,F,ab,?_⟩
    rw[b]
    intro v h H' s r
    obtain rfl:=DatV.str_of r
    exact⟨z,rfl,Rk.ok k2 _ h H' s (aKW g)⟩
   .exact k2.elim
  .exact k2.elim
end
def tR(Y:Sg)(Z:_a.St)(p:Az):Prop:=∀ (j:Nat) (a:A),Y[j]? = some (some a)->a.own=true->Z[j]? ≠ some (some (.ref p))
theorem Ab.off9{c:Ct}{o:HO}(b:Ab c Y Z F H)(q:F p=none)(r:c.H0 p=none)(s:tR Y Z p):Ab c Y Z F (upd H p o) where
 len:=b.len
 fh:=λa o' z=>by rw[aG (λw=>by rw[w,q]at z;cases z)];exact b.fh a o' z
 slot:=λj a h=>by
  obtain⟨v,h1,h2⟩:=b.slot j a h
  refine⟨v,h1,?_⟩
  cases i:a.own with
  | true=>exact h2.off λz=>s j a h i (by rw[h1,z])
  | false=>
   cases a with
   | l xs=>cases i
   | m xs=>cases i
   | d x=>exact h2
   | x e=>exact h2
   | g k n f=>exact h2
   | k S=>exact h2
   | f S=>exact h2
   | o S=>exact h2
   | w S=>exact h2
   | h _ _ _ _=>exact h2
 apart:=b.apart
 f0:=b.f0
 h0:=λa o' z=>by rw[aG (λw=>by rw[w,r]at z;cases z)];exact b.h0 a o' z
 n0:=b.n0
 t0:=b.t0
theorem Ab.pub9{c:Ct}{o:HO}(b:Ab c Y Z F H)(h2:H p=some o)(t:F p=none)(y:c.H0 p=none)(v:tR Y Z p):Ab c Y Z (upd F p o) H:=by
 have i:aD F (upd F p o):=aD.upd t
 exact {
  len:=b.len
  fh:=λa o' z=>by
   by_cases w:a=p
   .subst w;rw[aO]at z;rw[h2];ext
   .rw[aG w]at z;exact b.fh a o' z
  slot:=λj a h=>by
   obtain⟨w,s,q⟩:=b.slot j a h
   refine⟨w,s,?_⟩
   have off:∀ r,a.own=true->w=.ref r->F r=none->upd F p o r=none:=λr A e f=>by
    rw[aG]
    .omega
    .intro z
     subst z
     exact v j a h A (by rw[s,e])
   cases a with
   | l zs=>obtain⟨r,ws,e⟩:=q;exact⟨r,ws,e.1,e.2.1,off r rfl e.1 e.2.2.1,e.2.2.2.1,e.2.2.2.2.same i⟩
   | m a0=>obtain⟨r,ws,e⟩:=q;exact⟨r,ws,e.1,e.2.1,off r rfl e.1 e.2.2.1,e.2.2.2.1,e.2.2.2.2.same i⟩
   | d x=>exact DatV.same i q
   | x e=>exact AF.same (g:=c.g) (a:=.x e) i q
   | g k n f=>exact AF.same (K:=c.K) (mg:=c.mg) (a:=.g k n f) i q
   | k S=>obtain⟨S,f,cl,doc,pm,u,ct,h0⟩:=q;exact⟨S,f,cl,doc,pm,u,ct,h0.1,h0.2.1,i _ _ h0.2.2.1,i _ _ h0.2.2.2.1,h0.2.2.2.2⟩
   | f a0=>exact AF.same (mg:=c.mg) (a:=.f a0) i q
   | o e=>exact AF.same (g:=c.g) (a:=.o e) i q
   | w e=>exact q
   | h k n f ds=>exact AF.same (mg:=c.mg) (a:=.h k n f ds) i q
  apart:=b.apart
  f0:=λa o z=>i a o (b.f0 a o z)
  h0:=b.h0
  n0:=λa z n=>by
   by_cases w:a=p
   .subst w;exact .inl y
   .rw[aG w]at n;exact b.n0 a z n
  t0:=b.t0}
theorem Ab.drop9{c:Ct}(b:Ab c Y Z F H)(i:Nat)(v:V):Ab c (Y.set i none) (Z.set i (some v)) F H where
 len:=by rw[CB,CB];exact b.len
 fh:=b.fh
 slot:=λj a h=>by
  rcases get_set h with ⟨e,q,o⟩|⟨g,q⟩
  .cases q
  .rw[BK g];exact b.slot j a q
 apart:=λj k m p l h1 h2 r s=>by
  rcases get_set h1 with ⟨e,q,o⟩|⟨g,q⟩
  .cases q
  .rcases get_set h2 with ⟨t,d,n⟩|⟨f,d⟩
   .cases d
   .rw[BK g,BK f]
    exact b.apart j k m p l q d r s
 f0:=b.f0
 h0:=b.h0
 n0:=b.n0
 t0:=b.t0
theorem aOW{l:L9 α}{x:α}(h:l[i]? = some x):l.set i x=l:=by
 rw[<-(AG.mp h).2];exact List.set_getElem_self (AG.mp h).1
structure Own9(c:Ct)(F H:Hp)(Y:Sg)(Z:_a.St)(i:Nat)(p b:Az)(u:V)(ws:List V):Prop where
 s:Z[i]? = some (some (.ref p))
 ne:p≠b
 hp:H p=some (.lst [u,.ref b])
 hb:H b=some (.lst ws)
 fp:F p=none
 fb:F b=none
 p0:c.H0 p=none
 b0:c.H0 b=none
 np:tR Y Z p
 nb:tR Y Z b
theorem Own9.ext{c:Ct}{a H':Hp}{u:V}{ws:L9 V}(h:Own9 c F H Y Z i p b u ws)(e:Ext F H a H'):Own9 c a H' Y Z i p b u ws:=
 ⟨h.s,h.ne,e.hh _ _ h.hp,e.hh _ _ h.hb,e.stay h.fp h.hp (λ_ z=>nomatch z),e.stay h.fb h.hb (λ_ z=>nomatch z),h.p0,h.b0,h.np,h.nb⟩
def rLI(K:Frag):V->L9 V->Hp->VK->Prop:=λx vs H Q=>∃ xs d u j,vs=[u]/\DatV K H x (.list xs)/\DatV K H u d/\shaped d=true/\shaped (.list xs)=true/\xs.length<=16777216/\(xs.findIdx? λy=>PyData.eqv y d)=some j/\Q (.int j) H
theorem aMF{X:Cx}(R:X.A.units+64 < cLine):MtR X "list.index" (rLI X.K):=by
 intro ap s Z H x vs v us Q I G t h
 obtain⟨xs,d,u,j,rfl,C,E,s1,g,N,p,q⟩:=h
 obtain⟨L,rfl,B⟩:=t.one
 obtain⟨O,r1⟩:=DatV.reads I C (m4 g) G
 obtain⟨bs,r2⟩:=DatV.reads I E (m4 s1) B
 have f:=nM (b:=d.depth) (hJ g).2
 cases r1 with
 | list h1 h2 h3 h4=>
  rename_i a o c n D
  have e:=SeqAt.readsAll_map _ _ _ (hJ g).1 h4
  obtain⟨P,od,S,sl⟩:=o
  subst h2 h3
  have l:c.toList.length=xs.length:=by rw[<-e,AC]
  have J:c.size=xs.length:=by ext
  rw[List.findIdx?_eq_some_iff_getElem]at p
  obtain⟨M,w,i⟩:=p
  have r:∀ m (f:m < c.size),PyData.eqv (readOf s.heap c[m]) d=PyData.eqv _ d:=λm f=>by
   have:=by
    have z:(c.toList.map (readOf s.heap))[m]'(by simp_all)=xs[m]'(by ext):=by simp_all
    simpa using z
   rw[this]
  refine DS GK ⟨_,h1,rfl⟩ PySem.F.entry_list_index (PySem.F.args_list_index_2 _ _) (SeqAt.list_indexAt a c n od sl L (λy=>PyData.eqv _ d) j _ (by ext) (by rw[r j (by ext)];ext) (λm f k=>by rw[r m f];exact FN.mpr (i m k))) ⟨h1,SeqAt.items_eqAt h4 r2 (hJ g).1 (cR s1) (by ext),.int j,H,I.tok _,⟨_,rfl⟩,q⟩
def aEL:D4->D4->R D4
 | .list xs,x=>if shaped x=true/\shaped (.list xs)=true/\xs.length<=16777216 then(match xs.findIdx? λy=>PyData.eqv y x with|some j=>.ok (.int j)|none=>.bad)else .bad
 | _,_=>.bad
def isL:D4->Bool
 | .list _=>true
 | _=>false
def aI5(f g:Sg->R D4):Sg->R D4:=λY=>(f Y).bind λx=>if isL x=true then(g Y).bind λy=>aEL x y else .bad
theorem aMG{X:Cx}{c:Ct}{E:XK}{e:Ez}{f g:Sg->R D4}(d:X.K=c.K)(h:PE X e (tBM X.K "list" (rLI X.K) (tV (aZ c) c E f) (c6 (tV (aZ c) c E g) gK))):PD X c E e (aI5 f g):=PE.imp h λZ H Q ⟨Y,F,ab,k⟩=>by
 refine⟨Y,F,ab,(Rk.bind k).imp λx ex q v m H1 s1 r1=>?_⟩
 cases x with
 | list xs=>
  obtain⟨p,vs,rfl,h1,h2⟩:=aQ.lst_of s1.fh r1
  refine⟨.inl ⟨rfl,vs,by ext⟩,Y,m,ab.ext s1,((Rk.bind q).ext s1).imp λy _ q u i H2 a r2=>?_⟩
  unfold aEL at q
  dsimp at q
  split at q
  .rename_i b
   split at q
   .rename_i j l
    exact⟨xs,y,u,j,rfl,by rw[d];exact(aQ.ext a r1).heap a.fh,by rw[d];exact r2.heap a.fh,b.1,b.2.1,b.2.2,l,Rk.ok q _ i H2 (s1.trans a) (.int _)⟩
   .exact q.elim
  .exact q.elim
 | _=>exact q.elim
end _f
namespace _a
theorem aTN{w:W9}{A:U9}{s:S9}{l:Az}{x:Int}{u:Tok}
  (a:s.heap.get? l=some {cls:=.type "list",dict:=none,data:=.seq items k,slots:=#[]})
  (hlo : -(2 ^ 63:Int)<=x) (hhi:x < 2 ^ 63) (hsz:items.size * x.toNat<=2 ^ 24)
  (h:Q (.ref s.heap.objs.size) {s with heap:=s.heap.push {cls:=.type "list",data:=.seq (foldl (λb c=>b++c) #[] (replicate (if items.isEmpty=true then 0 else x.toNat) items))}}) :
  wpAny (model prog w) A (binaryOp .Mult (.ref l) (.int x u)) Q E s:=
 FW (by rfl) ⟨_,a,rfl⟩ (λs'=>FT s' x u) noFill_list_mul F.fills_int_mul EY repeat_list F.slot_int_index.lookup
  (DS EY (FT s x u) F.entry_int_rmul (F.args_int_rmul_2 _ _) (int___rmul___int_list x u l items k)
   ⟨a,rfl,⟨_,a,rfl⟩,DS F.slot_list_mul ⟨_,a,rfl⟩ F.entry_list_mul (F.args_list_mul_2 _ _)
    (AutoListH.list___mul___list_int_3 l items k x u (by simp[Builtin.List.listFitsIndex];ext) (by ext) (by simp[Builtin.List.listTooLong,sizeLine];ext))
    ⟨a,h⟩⟩)
def aYU:R2:=λx y H Q=>∃ p vs i,x=.ref p/\y=.int i/\H p=some (.lst vs)/\vs≠[] /\ -(2 ^ 63:Int)<=i/\i < 2 ^ 63/\vs.length * i.toNat<=16777216/\∀ r,H r=none->Q (.ref r) (upd H r (.lst (replicate i.toNat vs).flatten))
theorem aTO{X:Cx}:OpR X (binaryOp .Mult) aYU:=by
 intro ap s Z H v u x y Q I e d h
 obtain⟨p,vs,i,rfl,rfl,g,f,h1,h2,j,q⟩:=h
 cases e
 obtain⟨t,rfl⟩:=d
 obtain⟨z,a,n,r⟩:=((I.hok p _ g))
 have c:=r.1.length.symm
 refine aTN r.2 h1 h2 (by simp_all) ?_
 have b:a.toArray.isEmpty=false:=by
  ext
 rw[b,AL (by simp),(zZ a i.toNat [])]
 exact⟨.ref _,_,I.lnew (_f.wO r.1 _) (by rw[aFA];have:sizeLine=16777216:=rfl;ext),rfl,q _ I.fresh⟩
end _a
namespace _f
def yY(xs:L9 D4):D4->R (L9 D4)
 | .int i=>if xs≠[] /\ -(2 ^ 63:Int)<=i/\i < 2 ^ 63/\xs.length * i.toNat<=16777216 then .ok (replicate i.toNat xs).flatten else .bad
 | _=>.bad
def aI6(f:Sg->R (L9 D4))(g:Sg->R D4):Sg->R (L9 D4):=λY=>(f Y).bind λxs=>(g Y).bind λy=>yY xs y
section
variable{X:Cx}{c:Ct}{E:XK}{a b:Ez}{pos:Pos}
theorem aTP{f:Sg->R (L9 D4)}{fb:Sg->R D4}(j:PN X c E a f)(hb:PR X c E b fb):PN X c E (.BinOp a .Mult b pos) (aI6 f fb):=PE.imp (aHE aTO j hb) λZ H Q ⟨Y,F,ab,k⟩=>by
 refine⟨Y,F,ab,(Rk.bind k).imp λxs _ q v h H1 s1 r1=>?_⟩
 obtain⟨p,vs,rfl,e1⟩:=r1
 refine⟨Y,h,ab.ext s1,((Rk.bind q).ext s1).imp λy _ q u g H2 d r2=>?_⟩
 cases y with
 | int i=>
  unfold yY at q
  dsimp only at q
  split at q
  .rename_i e
   obtain rfl:=aQ.int_of r2
   refine⟨p,vs,i,rfl,rfl,d.hh _ _ e1.2.1,λz=>e.1 ?_,e.2.1,e.2.2.1,by rw[e1.2.2.2.length];exact e.2.2.2,λr hr=>?_⟩
   .have:=e1.2.2.2.length
    rw[z]at this
    exact GG.mp this.symm
   .exact Rk.ok q _ g _ ((s1.trans d).trans (Ext.own d.fh hr)) ⟨r,_,rfl,aU (s1.trans d).hh hr,aO,aU d.fh hr,sP (e1.2.2.2.same d.ff) _⟩
  .exact q.elim
 | _=>exact q.elim
end
end _f
namespace _a
def tCM(C:Az)(sp:Sp)(dvs:L9 V)(E:XK)(ta:TE)(t:TA):TE:=λZ H Q=>ta Z H λx H1=>x=.ref C/\t Z H1 λvs H2=>sp (vs++dvs) H2 Q E
structure ClsM(K:Frag)(C:Az)(m:Str)(f:Az):Prop where
 sp:specialIn K (.ref C) "__getattribute__"=some (some (.builtin "type.__getattribute__"))
 rd:readsIn K C (.type "type")=true
 fc:findCls K (.ref C) (.type "type") m=some (.val (.ref f))
 kp:keepIn K (.ref f)=true
section
variable{X:Cx}{CX:CXT}{k:Nat}{f C:Az}{fd:FuncData}{ps:L9 Str}{sp:Sp}{dvs:L9 V}{ds:L9 V9}{E:XK}{m:Str}{pos apos:Pos}{e o:Ez}{es:L9 Ez}{ta:TE}{t:TA}
theorem aAQ{pl:Sem Bool}(j:PE X o ta)(cm:ClsM X.K C m f)(F:FnOk X.prog X.w X.K X.mg X.base CX k f fd ps sp)(hr:Room k X.A)(hb:cO X.K fd ps ds)(g:a8 dvs ds)(hx:fU CX X E)(l:PA X (e::es) t)
  (c:autoParam (starEach (e::es) X.env=(false,eval e X.env)::starEach es X.env) z3) (hpl:autoParam ((backTo pos (starEach es X.env)).any (·.1)=false) z3)
  (ht:autoParam (eval (.Call (.Attribute o m apos) (e::es) [] pos) X.env=(do
   let ov <-eval o X.env
   standAt apos.atName
   let (f,first) <-holding [ov] (getMethod ov m pl)
   callWith pos f first (backTo pos (starEach (e::es) X.env)) (backToKw pos (keywordEach [] X.env)))) z3) :
  PE X (.Call (.Attribute o m apos) (e::es) [] pos) (tCM C sp dvs E ta t):=by
 intro ap s Z H Q I h
 refine GU (thn (j ap s Z H _ I h) λu s1 a=>?_) ht
 obtain⟨x,H1,b,i,ex,q⟩:=a
 subst ex
 obtain rfl:=i
 refine PySem.W.method_cls b.kIn cm.sp (PySem.W.cls_value b.kIn cm.rd cm.fc rfl ?_)
 refine C3 I.ok.mod.kin cm.kp (thn (l pos ap _ Z H1 _ (b.tok (s1.toks+1)) q) λus p ⟨vs,H2,d,r,n⟩=>⟨d.kIn,?_⟩) c hpl
 exact r7 F hr hb g hx d r n
end
def spB(K:Frag)(fs:L9 Str):Sp:=λvs H Q _=>∃ x C dx us,vs=.ref x::us/\us.length=fs.length/\H x=some (.ins C dx [])/\Cls K C/\(∀ f∈fs,jS K C f)/\Q .non (upd H x (.ins C dx (fs.zip us)))
def spO(C:Az)(fs:L9 Str):Sp:=λvs H Q _=>∃ x dx us,vs=.ref x::us/\us.length=fs.length/\H x=some (.ins C dx [])/\Q .non (upd H x (.ins C dx (fs.zip us)))
structure MkAt(P:Program)(w:World)(K:Frag)(mg:Str->Option V9)(base:Heap)(k:Nat)(cn:Str)(fs:List Str)(C:Az):Prop where
 m:mg cn=some (.ref C)
 i:∃ f fd,Mk K C f/\FnOk P w K mg base CX0 k f fd ("self"::fs) (spO C fs)/\cO K fd ("self"::fs) []
end _a
variable{qs:L9 Az}{cn:Str}
namespace _f
variable{Y:Sg}{Z:_a.St}{F H:Hp}
def rN(cn:Str)(fs:L9 Str)(f:Sg->R (L9 D4)):Sg->R A:=λY=>(f Y).bind λxs=>if xs.length=fs.length then .ok (.o ⟨cn,fs.zip xs⟩)else .bad
section
variable{X:Cx}{c:Ct}{E:XK}{e o:Ez}{es:L9 Ez}{pos apos:Pos}
theorem aTQ{fs:L9 Str}{m:XK}{f:Sg->R (L9 D4)}(n:c.mg cn=some (.ref C))(h:PE X e (aPK C (spO C fs) [] m (tAd c E f))):PV X c E e (rN cn fs f):=PE.imp h λZ H Q i=>by
 obtain⟨Y,F,ab,k⟩:=i
 refine⟨Y,F,ab,(Rk.bind k).imp λxs _ q vs l H1 s1 r1 x dx o g b=>?_⟩
 by_cases a:xs.length=fs.length
 .rw[AJ a]at q
  have j:vs.length=fs.length:=by rw[r1.length,a]
  refine⟨x,dx,vs,by rw[C5],j,aO,rfl,?_⟩
  rw[kE]
  have d:Ext l H1 _ (upd H1 dx (.own x)):=Ext.new s1.fh g
  exact Rk.ok q _ _ _ (s1.trans (d.trans (Ext.new d.fh (by rw[aG (BQ b)];ext)))) ⟨x,rfl,C,dx,fs.zip vs,n,aO,(by rw[zV j,zV a]),(by rw[zW j,zW a];exact r1.same (d.trans (Ext.new d.fh (by rw[aG (BQ b)];ext))).ff)⟩
 .rw[AL a]at q;exact q.elim
theorem aEM{fs:L9 Str}{p:Pos}{f:Sg->R (L9 D4)}(d:X.mg=c.mg)(M:MkAt X.prog X.w X.K X.mg X.base k cn fs C)(hr:Room (k+1) X.A)(g:Gl X cn)(h:PAd X c E (e::es) f)(b:autoParam ((cn == ("__debug__":Str))=false) z5)(he:autoParam (starEach (e::es) X.env=(false,eval e X.env)::starEach es X.env) z3)(hpl:autoParam ((backTo pos (starEach es X.env)).any (·.1)=false) z3):PV X c E (.Call (.Name cn p) (e::es) [] pos) (rN cn fs f):=by
 obtain⟨j,fd,a⟩:=M.i
 exact aTQ (by rw[<-d];exact M.m) (aQM a.1 a.2.1 hr g M.m a.2.2 .nil aBX h b he hpl)
def aEN(P:P9)(w:W9)(K:Frag)(mg:Str->O9 V9)(base:Hz)(T:Hp)(k:Nat)(cn m:Str)(G:L9 A->R A):Prop:=
 ∃ C f fd,mg cn=some (.ref C)/\Cls K C/\Meth K C m f/\FnOk P w K mg base (CXe P w) k f fd ["self"] (spF (gOf P w K mg base T) K mg 1 G)/\cO K fd ["self"] []
theorem oF{V W:Type}{g:Str}:∀ {fvs:L9 (Str×V)} {fs:L9 (Str×W)},fvs.map (·.1)=fs.map (·.1)->fs.lookup g=none->fvs.lookup g=none
 | [],[],_,_=>rfl
 | [],_::_,h,_=>by rfl
 | _::_,[],h,_=>by simp_all
 | (a,v)::fvs,(b,x)::fs,h,e=>by
  injection h with h1 h2
  subst h1
  rw[B7]at e ⊢
  cases q:(g == a)with
  | true=>simp_all
  | false=>rw[q]at e;exact oF h2 e
theorem vX{k:Str}{v:α}:∀ {l:L9 (Str×α)},l.lookup k=some v->(k,v)∈l
 | [],h=>by ext
 | (a,x)::t,h=>by
  rw[B7]at h
  cases q:(k == a)with
  | true=>simp_all
  | false=>rw[q]at h;exact .tail _ (vX h)
def vMt(f:Sg->R A)(m:Str)(tb:L9 (Str×(L9 A->R A))):Sg->R A:=λY=>(f Y).bind λa=>match a with
 | .o e=>if (e.fs.lookup m).isNone=true then(match tb.lookup e.c with|some G=>G [.o e]|none=>.bad)else .bad
 | _=>.bad
theorem aYV{m:Str}{T:Hp}{tb:L9 (Str×(L9 A->R A))}{f:Sg->R A}{pl:Sem Bool}(hG:c.g=gOf X.prog X.w X.K X.mg X.base T)(y:X.K=c.K)(n:X.mg=c.mg)(h:∀ p∈tb,aEN X.prog X.w X.K X.mg X.base T k p.1 m p.2)(hr:Room k X.A)(hx:fU (CXe X.prog X.w) X E)(J:PV X c E o f)
  (D:autoParam (eval (.Call (.Attribute o m apos) [] [] pos) X.env=(do
   let ov <-eval o X.env
   standAt apos.atName
   let (f,first) <-holding [ov] (getMethod ov m pl)
   callWith pos f first (backTo pos (starEach [] X.env)) (backToKw pos (keywordEach [] X.env)))) z3):PV X c E (.Call (.Attribute o m apos) [] [] pos) (vMt f m tb):=by
 intro ap s Z H Q I ⟨Y,F,ab,k⟩
 refine aE1 J I ⟨Y,F,ab,(Rk.bind k).imp λa _ k v B H1 s1 r1=>?_⟩ D
 cases a with
 | o er=>
  dsimp at k
  split at k
  .rename_i d
   split at k
   .rename_i G L
    obtain⟨a,rfl,C,dx,j,i⟩:=r1
    obtain⟨M,f,fd,t,cl,x,ok,b⟩:=(show aEN X.prog X.w X.K X.mg X.base T _ er.c m G from h _ (vX L))
    rw[n]at t
    rw[i.1]at t
    cases t
    refine⟨a,C,dx,j,f,rfl,s1.fh _ _ i.2.1,cl,x,oF i.2.2.1 (FV.mp d),λN u=>?_⟩
    refine PySem.W.callWith_K0 u.kIn x.kp (r7 (vs:=[.ref a]) ok hr b .nil hx u (.cons rfl .nil) ?_)
    refine⟨B,[.o er],by rw[<-hG];exact λa o z=>s1.ff a o (ab.f0 a o (ab.t0 a o z)),s1.fh,⟨⟨a,rfl,?_⟩,trivial⟩,rfl,?_⟩
    .rw[y,n];exact⟨C,dx,j,i.1,i.2.1,i.2.2.1,i.2.2.2⟩
    .rw[<-hG,y,n]
     cases l:G _ with
     | bad=>rw[l]at k;exact k
     | ok a=>rw[l]at k;exact λv q H' s r=>Rk.ok k v q H' (s1.trans s) r
     | ex e=>rw[l]at k;exact λa C q H' s r=>k a C q H' ((ab.all.trans s1).trans s) r
   .exact k.elim
  .exact k.elim
 | _=>exact k.elim
end
theorem aAR{P:P9}{w:W9}{K:Frag}{mg:Str->O9 V9}{base:Hz}{T:Hp}{x q:Str}{st:Stmt}{N ps:L9 Str}{k:Nat}{f:Az}{fd:FuncData}{fb:Sg->R Fw}(d:Fun K x q st f fd)(S:FnScope N ps (aF st))
  (a:∀ (cdv:V9) (A:U9) (outer:L9 Env) (s:S9) (H F:Hp) (E:XK),Room k (A.deeper (envOfC q (aF st) s.heap.objs.size f cdv))->
   j7 ((fO (CXe P w) P w K mg base N q (aF st) f cdv A outer s H E).fly E) ⟨K,mg,w,F,H,gOf P w K mg base T,(envOfC q (aF st) s.heap.objs.size f cdv).cells,λ_=>none⟩ E (bB st) fb):FnOk P w K mg base (CXe P w) (k+1) f fd ps (spF (gOf P w K mg base T) K mg ps.length (fnF N.length fb)):=by
 refine d.okX S (λvs H Q E h=>?_) (λcdv A outer s H vs Q E hr h=>?_)
 .obtain ⟨F,c,h2⟩:=h
  rw[h2.2.2.1.len,h2.2.2.2.1]
 .obtain ⟨F,c,b⟩:=h
  exact⟨_,a cdv A outer s H F E hr,pN b.1 b.2.1 b.2.2.1 b.2.2.2.2⟩
def j3(Y:Sg):Bool:=Y.all λo=>match o with
 | some a=>!a.own
 | none=>true
theorem rO(h:j3 Y=true):tR Y Z p:=λj a b c=>by
 have z:=CK.mp h _ (AD b)
 simp_all
structure OwnL(c:Ct)(F H:Hp)(Z:_a.St)(i:Nat)(p:Az)(qs:List Az)(vss:List (List V)):Prop where
 s:Z[i]? = some (some (.ref p))
 hp:H p=some (.lst (qs.map V.ref))
 fp:F p=none
 p0:c.H0 p=none
 np:p∉qs
 nd:qs.Nodup
 len:vss.length=qs.length
 q:∀ (j:Nat) (q:Az) (vs:List V),qs[j]? = some q->vss[j]? = some vs->H q=some (.lst vs)/\F q=none/\c.H0 q=none
theorem OwnL.ext{c:Ct}{d H':Hp}{b:L9 (L9 V)}(h:OwnL c F H Z i p qs b)(e:Ext F H d H'):OwnL c d H' Z i p qs b:=
 ⟨h.s,e.hh _ _ h.hp,e.stay h.fp h.hp (λ_ z=>nomatch z),h.p0,h.np,h.nd,h.len,λj q vs h1 h2=>by
  have a:=h.q j q vs h1 h2
  exact⟨e.hh _ _ a.1,e.stay a.2.1 a.1 (λ_ z=>nomatch z),a.2.2⟩⟩
theorem OwnL.put{c:Ct}{d:L9 (L9 V)}(h:OwnL c F H Z i p qs d){j:Nat}{q:Az}{vs us:L9 V}(h1:qs[j]? = some q)(h2:d[j]? = some vs):OwnL c F (upd H q (.lst us)) Z i p qs (d.set j us):=by
 have g:=AD h1
 refine⟨h.s,?_,h.fp,h.p0,h.np,h.nd,by rw[CB];exact h.len,λk r ws e1 e2=>?_⟩
 .rw[aG (λz=>h.np (by simp_all))];exact h.hp
 .rcases get_set e2 with ⟨e,z,_⟩|⟨f,z⟩
  .subst e z
   rw[h1]at e1
   cases e1
   have b:=h.q _ _ _ h1 h2
   exact⟨aO,b.2.1,b.2.2⟩
  .obtain ⟨a,b⟩:=h.q k r ws e1 z
   refine⟨?_,b.1,b.2⟩
   rw[aG]
   .omega
   .intro w
    subst w
    exact f ((List.getElem_inj h.nd).mp ((AG.mp h1).2.trans (AG.mp e1).2.symm))
theorem aG2{c:Ct}(d:j3 Y=true):∀ (qs:L9 Az) (vss:L9 (L9 V)) {F:Hp},Ab c Y Z F H->qs.Nodup->vss.length=qs.length->(∀ (j:Nat) (q:Az) (vs:L9 V),qs[j]? = some q->vss[j]? = some vs->H q=some (.lst vs)/\F q=none/\c.H0 q=none)->
  ∃ F',aD F F'/\Ab c Y Z F' H/\(∀ (j:Nat) (q:Az) (vs:L9 V),qs[j]? = some q->vss[j]? = some vs->F' q=some (.lst vs))/\∀ a,a∉qs->F' a=F a
 | [],_,F,ab,_,_,_=>⟨F,bF F,ab,λj q vs h=>by simp_all,λ_ _=>rfl⟩
 | q::qs,[],F,ab,_,hl,_=>by simp_all
 | q::qs,vs::vss,F,ab,nd,hl,h=>by
  have a:=h 0 q vs rfl rfl
  obtain⟨F',s1⟩:=aG2 d qs vss (ab.pub9 a.1 a.2.1 a.2.2 (rO d)) (CO.mp nd).2 (by simpa using hl) (λj r ws e1 e2=>by
   obtain⟨x,y,z⟩:=h (j+1) r ws (by assumption) (by assumption)
   exact⟨x,by rw[aG (λw=>((CO.mp nd).1) (by rw[<-w];exact AD e1))];ext,z⟩)
  refine⟨F',λx o z=>s1.1 x o (aD.upd a.2.1 x o z),s1.2.1,λj r ws e1 e2=>?_,λx b=>?_⟩
  .cases j with
   | zero=>simp at e1 e2;subst e1 e2;rw[s1.2.2.2 q ((CO.mp nd).1),aO]
   | succ j=>exact s1.2.2.1 j r ws (by assumption) (by assumption)
  .rw[AV,not_or]at b
   rw[s1.2.2.2 x b.2,aG b.1]
theorem aEO{F2:Hp}(s:aD F F2):∀ {qs:L9 Az} {vss:L9 (L9 V)} {xss:L9 (L9 D4)},vss.length=qs.length->xss.length=qs.length->(∀ (j:Nat) (q:Az) (vs:L9 V),qs[j]? = some q->vss[j]? = some vs->F2 q=some (.lst vs))->(∀ (j:Nat) vs xs,vss[j]? = some vs->xss[j]? = some xs->DatVs K F vs xs)->DatVs K F2 (qs.map V.ref) (xss.map PyData.list)
 | [],_,[],_,_,_,_=>.nil
 | [],_,_::_,_,h,_,_=>by simp_all
 | q::qs,[],_,h,_,_,_=>by simp_all
 | q::qs,_,[],_,h,_,_=>by simp_all
 | q::qs,vs::vss,xs::xss,h1,h2,h3,h4=>.cons (.lst (SqL.of (h3 0 q vs rfl rfl)) ((h4 0 vs xs rfl rfl).same s)) (aEO s (by simpa using h1) (by simpa using h2) (λj r ws e1 e2=>h3 (j+1) r ws (by assumption) (by assumption)) (λj r ws e1 e2=>h4 (j+1) r ws (by assumption) (by assumption)))
theorem OwnL.done{c:Ct}{b:L9 (L9 V)}{e:L9 (L9 D4)}(h:OwnL c F H Z i p qs b)(ab:Ab c Y Z F H)(g:j3 Y=true)(hx:e.length=qs.length)(l:∀ (j:Nat) vs xs,b[j]? = some vs->e[j]? = some xs->DatVs c.K F vs xs) :
  ∃ F',aD F F'/\Ab c (Y.set i (some (.d (.list (e.map PyData.list))))) Z F' H:=by
 obtain⟨k,s1⟩:=aG2 g qs b ab h.nd h.len h.q
 have fp:k p=none:=by rw[s1.2.2.2 p h.np];exact h.fp
 have f:=(s1.2.1.pub9 h.hp fp h.p0 (rO g)).setA (i:=i) (a:=.d _) (.lst (SqL.of aO) (aEO (λa o z=>(aD.upd fp) a o (s1.1 a o z)) h.len hx (λj q vs e1 e2=>(aD.upd fp) _ _ (s1.2.2.1 j q vs e1 e2)) l))
 rw[aOW h.s]at f
 exact⟨_,λa o z=>(aD.upd fp) a o (s1.1 a o z),f⟩
def oQ(fs:D4->Sg->O9 Sg)(fk fe:Sg->R D4):L9 D4->L9 (L9 D4)->Sg->R (L9 (L9 D4)×Sg)
 | [],xss,Y=>.ok (xss,Y)
 | y::t,xss,Y=>(zU (fs y Y)).bind λY1=>if j3 Y1=true then(fk Y1).bind λk=>(match k with
  | .int kk=>(match ixN xss.length kk with
   | some j=>(fe Y1).bind λx=>if (xss.getD j []).length < 16777216 then oQ fs fk fe t (xss.set j (xss.getD j []++[x])) Y1 else .bad
   | none=>.bad)
  | _=>.bad)else .bad
def aI7(i:Nat)(fi1 fi2:Sg->R (L9 D4))(fs:D4->Sg->O9 Sg)(fk fe:Sg->R D4):Sg->R Fw:=λY=>(fi1 Y).bind λxs=>if i < Y.length/\j3 (Y.set i none)=true then(fi2 (Y.set i none)).bind λys=>(oQ fs fk fe ys (replicate xs.length []) (Y.set i none)).bind λr=>.ok (.nx (r.2.set i (some (.d (.list (r.1.map PyData.list))))))else .bad
theorem aYW{c:Ct}{E:XK}{d H1 b H2:Hp}{r:R α}{f:α->R β}{k:β->Prop}(h:Rk c E F H r λa=>Rk c E d H1 (f a) k):Rk c E b H2 (r.bind f) k:=by
 cases r with
 | bad=>exact h
 | ok a=>exact h
 | ex e=>exact h
def aP8(i:Nat)(r:L9 (L9 D4)×Sg):R Fw:=.ok (.nx (r.2.set i (some (.d (.list (r.1.map PyData.list))))))
def aP9(c:Ct)(E:XK)(F H:Hp)(D:kC)(fr:Sg->R Fw)(w:Fw):Prop:=Rk c E F H (match w with | .nx Y'=>fr Y'|w=>.ok w) (oX c F D)
section
variable{X:Cx}{c:Ct}{E:XK}{rest:L9 Stmt}{pos:Pos}
theorem aOX{W st2:Stmt}{N:L9 Str}{tg elt:Ez}{ac A:Sg->R (L9 D4)}{fs:D4->Sg->O9 Sg}{is:L9 Nat}{g:TG}{fk fe:Sg->R D4}{fr:Sg->R Fw}
  (h1:PS X W (lH (uF X N scope js tg elt [] (tI c E ac)) (jG i))) (hj:js[0]? = some none)
  (hb:∀ (cl:L9 (Str×Az)) (C:Az) (s:S9) (H0:Hp) (fp:L9 Az),PG (dZ X N scope cl C s H0 fp) tg (jG 0)/\PE (dZ X N scope cl C s H0 fp) elt (aUT gK))
  (hg:Tg c g fs is) (hi:i∉is)
  (h2:PS X st2 (aMT (tI0 c E A) g (xH (tBM X.K "list" zF (tOp (rIx X.K) (g7 i) (tV (aZ c) c E fk)) (c6 (tV (bO c) c E fe) gK)))))
  (hr:j7 X c E rest fr):j7 X c E (W::st2::rest) (aC (aI7 i ac A fs fk fe) fr):=PSs.imp (_a.aX h1 (_a.aX h2 hr)) λD Z H ⟨Y,F,ab,k⟩=>by
 refine⟨Y,F,ab,(Rk.bind (Rk.bind k)).imp λxs _ q J B F1 H1 s1 sb yl=>?_⟩
 by_cases hn:i < Y.length/\j3 (Y.set i none)=true
 .rw[AJ hn]at q
  refine aFC (λm h H'=>∃ F' qs,Ext F1 H1 F' H'/\h=qs.map V.ref/\qs.length=m/\qs.Nodup/\∀ r∈qs,H1 r=none/\H' r=some (.lst [])/\F' r=none) yl.len ⟨F1,[],Ext.refl s1.fh,rfl,rfl,DO,λr hr=>by simp_all⟩ ?_ ?_ ?_ ?_ ?_
  .simp_all
  .rintro m h H' d ⟨F',qs,e1,_⟩
   exact yl.go m F' H' e1.ff e1.fh (λa o z=>e1.hh a o (sb a o z)) d
  .rintro h H' ⟨F',qs,e1,_⟩
   exact yl.stop F' H' e1.ff e1.fh (λa o z=>e1.hh a o (sb a o z))
  .rintro m v h Ha Hb d ⟨F',qs,e1,rfl,hlen,nd,hq⟩ hy
   obtain⟨t,e2⟩:=yl.yld m F' Ha v Hb xs[m] e1.ff e1.fh (λa o z=>e1.hh a o (sb a o z)) hy (AI d)
   intro cl C s H0 fp
   refine⟨_,_,_,(hb cl C s H0 fp).1,_a.pA,(hb cl C s H0 fp).2,λZ0 k0=>⟨aC6 (is:=[0]) k0 CB (λj hj=>BK (λz=>hj (by simp[z]))) (λj hj=>by rw[AZ.mp hj];assumption),?_⟩⟩
   dsimp only[aU0]
   rw[AJ rfl]
   refine⟨B5 _,λr hr=>?_⟩
   have e3:Ext t Hb t (upd Hb r (.lst [])):=Ext.own e2.1.fh hr
   refine⟨t,qs++[r],e1.trans (e2.1.trans e3),by rw[BL];rfl,by rw[A7,hlen];rfl,?_,λx T=>?_⟩
   .rw[CN]
    refine⟨nd,by simp,λa ha b hb z=>?_⟩
    rw[AZ]at hb
    subst hb z
    have:=e2.1.hh _ _ (hq a ha).2.1
    rw[hr]at this
    cases this
   .rcases BO.mp T with z|z
    .have I:=hq x z
     exact⟨I.1,(e2.1.trans e3).hh _ _ I.2.1,(e2.1.trans e3).stay I.2.2 I.2.1 (λ_ z=>nomatch z)⟩
    .rw[AZ.mp z]
     exact⟨aU (e1.trans e2.1).hh hr,aO,aU e2.1.fh hr⟩
  .rintro h H2 ⟨t,qs,e1,rfl,hlen,nd,hq⟩ p hp
   have e2:Ext t H2 t (upd H2 p (.lst (qs.map V.ref))):=Ext.own e1.fh hp
   have ae:Ab c (Y.set i none) (Z.set i (some (.ref p))) t (upd H2 p (.lst (qs.map V.ref))):=((ab.ext s1).ext (e1.trans e2)).drop9 i (.ref p)
   have O2:OwnL c t (upd H2 p (.lst (qs.map V.ref))) (Z.set i (some (.ref p))) i p qs (replicate xs.length []):=by
    refine⟨B4 (by rw[<-ab.len];exact hn.1),aO,aU e1.fh hp,aU (ab.ext s1).h0 (aU e1.hh hp),(λz=>by have:=(hq p z).2.1;rw[hp]at this;cases this),nd,by rw[CI,hlen],λj r vs h1 h2=>?_⟩
    have I:=hq r (AD h1)
    rw[CV]at h2
    split at h2
    .cases h2
     exact⟨e2.hh _ _ I.2.1,I.2.2,aU (ab.ext s1).h0 I.1⟩
    .cases h2
   show tI0 c E A (Z.set i (some (.ref p))) (upd H2 p (.lst (qs.map V.ref))) _
   generalize Y.set i none=Y1 at *
   generalize Z.set i (some (.ref p))=Z1 at *
   generalize upd H2 p (.lst (qs.map V.ref))=H3 at *
   refine⟨Y1,t,ae,?_⟩
   refine(show Rk c E t H3 (A Y1) _ from Rk.bind q).imp λys _ q J F4 H4 s4 L=>?_
   refine⟨λm n Z' H'=>n=ys.length - m/\m<=ys.length/\∃ Y' F' vss xss,aD F4 F'/\Ab c Y' Z' F' H'/\OwnL c F' H' Z' i p qs vss/\xss.length=qs.length/\j3 Y'=true/\(∀ (j:Nat) vs xs,vss[j]? = some vs->xss[j]? = some xs->DatVs c.K F' vs xs)/\Rk c E F' H' ((oQ fs fk fe (ys.drop m) xss Y').bind (aP8 i)) (aP9 c E F H D fr),⟨ys.length,by simp,B5 _,Y1,F4,replicate xs.length [],replicate xs.length [],bF _,ae.ext s4,O2.ext s4,by rw[CI,hlen],hn.2,λj vs xs h1 h2=>?_,q⟩,?_⟩
   .rw[CV]at h1 h2
    split at h1
    .rename_i hl
     rw[AJ hl]at h2
     cases h1;cases h2;exact .nil
    .cases h1
   .rintro m n Z' H' ⟨rfl,hm,Y',F',vss,xss,s5,ab5,O5,hxs,hno5,hd5,k5⟩
    by_cases d:m < ys.length
    .refine .inr ⟨L.go m F' H' s5 ab5.fh kI d,λM G=>∃ Y' F' vss xss,aD F4 F'/\Ab c Y' M F' G/\OwnL c F' G M i p qs vss/\xss.length=qs.length/\j3 Y'=true/\(∀ (j:Nat) vs xs,vss[j]? = some vs->xss[j]? = some xs->DatVs c.K F' vs xs)/\Rk c E F' G ((oQ fs fk fe (ys.drop (m+1)) xss Y').bind (aP8 i)) (aP9 c E F H D fr),λM G w=>⟨ys.length - (m+1),by ext,rfl,d,w⟩,λv H6 y=>?_⟩
     obtain⟨F6,S⟩:=L.yld m F' H' v H6 ys[m] s5 ab5.fh kI y (AI d)
     rw[(D7 d)]at k5
     unfold oQ at k5
     cases hf:fs ys[m] Y' with
     | none=>rw[hf]at k5;exact k5.elim
     | some Y7=>
      rw[hf,kJ,R.bind_ok]at k5
      refine hg v ys[m] Y' Y7 Z' F6 H6 _ (ab5.ext S.1) S.2 hf λZ7 ai ah P=>?_
      have O7:OwnL c F6 H6 Z7 i p qs vss:=by
       have z:=O5.ext S.1
       exact⟨by rw[ah i hi];exact z.s,z.hp,z.fp,z.p0,z.np,z.nd,z.len,z.q⟩
      by_cases f:j3 Y7=true
      .rw[AJ f]at k5
       refine⟨.ref p,O7.s,Y7,F6,P,?_⟩
       refine(show Rk c E F6 H6 (fk Y7) _ from Rk.bind (Rk.bind k5)).imp λkd _ k5 u F8 H8 Q r8=>?_
       cases kd with
       | int kk=>
        dsimp only at k5
        obtain rfl:=aQ.int_of r8
        have O8:=O7.ext Q
        cases T:ixN xss.length kk with
        | none=>rw[T]at k5;exact k5.elim
        | some j=>
         rw[T]at k5
         have O:j < xss.length:=(aE9 T).2.1
         have aa:j < qs.length:=by ext
         have af:j < vss.length:=by rw[O8.len];exact aa
         have eq:qs[j]? = some qs[j]:=AI aa
         have ev:vss[j]? = some vss[j]:=AI af
         refine .inl ⟨p,qs.map V.ref,kk,V.ref qs[j],rfl,rfl,SqL.of O8.hp,?_,?_⟩
         .unfold atI
          rw[AC,<-hxs,T]
          show(qs.map V.ref)[j]? = _
          rw[AE,eq];rfl
         .refine ⟨.inl ⟨rfl,_,SqL.of (O8.q j _ _ eq ev).1⟩,Y7,F8,P.ext Q,?_⟩
          refine(show Rk c E F8 H8 (fe Y7) _ from Rk.bind k5).imp λx _ k5 u F9 H9 U r9=>?_
          have z1:=(O8.ext U).q j _ _ eq ev
          have ag:xss.getD j []=xss[j]:=by rw[AK,(AI O)];rfl
          rw[ag]at k5
          by_cases hz:xss[j].length < 16777216
          .rw[AJ hz]at k5
           have dj:DatVs c.K F9 vss[j] xss[j]:=(hd5 j _ _ ev (AI O)).same (S.1.trans (Q.trans U)).ff
           refine⟨qs[j],vss[j],u,rfl,rfl,z1.1,by rw[dj.length,fQ];exact hz,?_⟩
           refine⟨Y7,F9,vss.set j (vss[j]++[u]),xss.set j (xss[j]++[x]),λa o z=>(S.1.trans (Q.trans U)).ff a o (s5 a o z),((P.ext Q).ext U).off9 z1.2.1 z1.2.2 (rO f),(O8.ext U).put eq ev,by rw[CB];exact hxs,f,λl vs xs e1 e2=>?_,?_⟩
           .rcases get_set e1 with ⟨e,w,_⟩|⟨ne,w⟩
            .subst e w
             rw[B4 O]at e2
             cases e2
             exact dj.append (.cons r9 .nil)
            .rw[BK ne]at e2
             exact(hd5 l vs xs w e2).same (S.1.trans (Q.trans U)).ff
           .exact aYW k5
          .rw[AL hz]at k5;exact k5.elim
       | _=>exact k5.elim
      .rw[AL f]at k5;exact k5.elim
    .have e:m=ys.length:=by ext
     subst e
     rw[GA]at k5
     refine .inl ⟨L.stop F' H' s5 ab5.fh kI,?_⟩
     obtain⟨F9,s9⟩:=O5.done ab5 hno5 hxs hd5
     refine⟨_,F9,s9.2,?_⟩
     exact Rk.fw (H:=H) (λa o z=>s9.1 a o (s5 a o (s4.ff a o ((λa o z=>e1.ff a o (s1.ff a o z)) a o z)))) k5
 .rw[AL hn]at q;exact q.elim
end
end _f
variable{p:Pos}
namespace _a
end _a
namespace _e
open _f
def tS:Sg->R Fw:=(aM (vD (eC (.str "by"))))
def dO:L9 A->R A:=fnF 1 tS
def qB:Sg->R Fw:=(aM (vD (eC (.str "out"))))
def cV:L9 A->R A:=fnF 1 qB
def qC:Sg->R Fw:=(aM (vD (eC (.str "ever"))))
def cW:L9 A->R A:=fnF 1 qC
def tT:Sg->R Fw:=(aC (aI7 2 (dR (e2 bJ (e1 dLen (rV 1)) (eC (.int 1)))) (e2 mR (eV 0) (eSl dSl (rV 0) (oSo (eC (.int 1))) oNo)) (stT [(stN 3),(stN 4)]) (e2 (d2 i4) (e2 dIx (rV 3) (eC (.int 0))) (e2 dIx (rV 4) (eC (.int 0)))) (e2 dIx (rV 4) (eC (.int 1))))
 (aM (vD (e1 dTup (eL (bK [none] (e1 aP (rV 2)) (stN 0) cF (e1 dTup (rV 0))))))))
def jD:L9 A->R A:=fnF 5 tT
end _e
namespace _f
@[simp] theorem aAS(cn:Str)(fs:L9 Str)(f:Sg->R (L9 D4))(Y:Sg):rN cn fs f Y=(f Y).bind λxs=>if xs.length=fs.length then .ok (.o ⟨cn,fs.zip xs⟩)else .bad:=id rfl
@[simp] theorem aXF(f:Sg->R A)(m:Str)(tb:L9 (Str×(L9 A->R A)))(Y:Sg):vMt f m tb Y=(f Y).bind λa=>match a with
 | .o e=>if (e.fs.lookup m).isNone=true then(match tb.lookup e.c with|some G=>G [.o e]|none=>.bad)else .bad
 | _=>.bad:=id rfl
@[simp] theorem aTR(f g:Sg->R D4)(Y:Sg):aI5 f g Y=(f Y).bind λx=>if isL x=true then(g Y).bind λy=>aEL x y else .bad:=id rfl
@[simp] theorem aYX(xs:L9 D4):isL (.list xs)=true:=id rfl
@[simp] theorem aOY(f:Sg->R (L9 D4))(g:Sg->R D4)(Y:Sg):aI6 f g Y=(f Y).bind λxs=>(g Y).bind λy=>yY xs y:=id rfl
@[simp] theorem aOZ(i:Nat)(a b:Sg->R (L9 D4))(fs:D4->Sg->O9 Sg)(c fe:Sg->R D4)(Y:Sg):aI7 i a b fs c fe Y=(a Y).bind λxs=>if i < Y.length/\j3 (Y.set i none)=true then(b (Y.set i none)).bind λys=>(oQ fs c fe ys (replicate xs.length []) (Y.set i none)).bind λr=>.ok (.nx (r.2.set i (some (.d (.list (r.1.map PyData.list))))))else .bad:=id rfl
theorem aXG{i:Int}(h0:0<=i)(h1:i < n):ixN n i=some i.toNat:=by unfold ixN;simp_all
end _f
namespace _e
open _f
variable{rs:L9 Rw}
structure PathOk(rs:List Rw)(z:List Nat)(ps:List (Int×Int))(s:Int×Int):Prop where
 nd:ps.Nodup
 val:∀ x∈ps++[s],bM rs z x
 st0:(ps++[s])[0]? = some (0,0)
 step:∀ (k:Nat) a b,(ps++[s])[k]? = some a->(ps++[s])[k+1]? = some b->bL rs z a=some b
 fin:(s∉ps/\bL rs z s=none)\/(s∈ps/\∃ s',bL rs z s=some s')
 few:ps.length<=iP rs z
theorem aO0(M:Mach rs sg)(S:aH sg z):∀ (k:Nat) (ps:L9 (Int×Int)) (s:Int×Int),Way rs z ps s k->(ps++[s])[0]? = some (0,0)->(∀ (k:Nat) a b,(ps++[s])[k]? = some a->(ps++[s])[k+1]? = some b->bL rs z a=some b)->∃ ps' s',fN rs z=ps'++[s']/\PathOk rs z ps' s':=by
 have f:∀ k ps s,Way rs z ps s k->(ps++[s])[0]? = some (0,0)->(∀ k a b,(ps++[s])[k]? = some a->(ps++[s])[k+1]? = some b->bL rs z a=some b)->s∈ps->∃ ps' s',fN rs z=ps'++[s']/\PathOk rs z ps' s':=by
  intro k ps s W d h1 c
  refine⟨ps,s,(W.stop c).symm,W.nd,W.val,d,h1,.inr ⟨c,?_⟩,by have:=W.num;ext⟩
  obtain⟨j,n⟩:=DV c
  have h:=(AG.mp n).1
  have e2:∃ b,(ps++[s])[j+1]? = some b:=⟨_,AI (by simp_all)⟩
  obtain⟨b,e2⟩:=e2
  exact⟨b,h1 j s b (by rw[BF h];ext) e2⟩
 intro k
 induction k with
 | zero=>
  intro ps s W d h1
  by_cases c:s∈ps
  .exact f 0 ps s W d h1 c
  .have j:=W.more c;ext
 | succ k ih=>
  intro ps s W d h1
  by_cases c:s∈ps
  .exact f _ ps s W d h1 c
  .cases e:bL rs z s with
   | none=>exact⟨ps,s,(W.ends c e).symm,W.nd,W.val,d,h1,.inl ⟨c,e⟩,by have:=W.num;ext⟩
   | some s'=>
    refine ih _ s' (W.next M S c e) (by rw[BF (by simp)];ext) λk a b e1 e2=>?_
    by_cases l:k+1 < (ps++[s]).length
    .rw[BF l]at e2
     rw[BF (by ext)]at e1
     exact h1 k a b e1 e2
    .have g:k+1 < (ps++[s]++[s']).length:=(AG.mp e2).1
     rw[A7,A7]at g
     rw[A7]at l
     simp only[AT,A5]at l g
     have i:k=ps.length:=by ext
     subst i
     have o:(ps++[s]++[s'])[ps.length]? = some s:=by rw[BF (by simp),CD (AM _)];simp
     have m:(ps++[s]++[s'])[ps.length+1]? = some s':=by rw[CD (by simp)];simp
     rw[o]at e1;rw[m]at e2
     cases e1;cases e2
     exact e
theorem aTS(M:Mach rs sg)(S:aH sg z):∃ ps s,fN rs z=ps++[s]/\PathOk rs z ps s:=
 aO0 M S _ [] _ (Way.start M) rfl λk a b e1 e2=>by
  simp_all
section
variable{rs:L9 Rw}{sg:Nat}{z:Str}
theorem aI8(M:Mach rs sg)(S:aH sg z.cps.toList)(V:bM rs z.cps.toList s):mK [.d (aK rs),.d (.str z),.d (prD s)]=.ok (.d (.tuple [(aL rs z.cps.toList s).1.d,.int (aL rs z.cps.toList s).2])):=by
 obtain⟨p,q⟩:=s
 have hr:=i9 V.2.2.1 V.2.2.2
 have m:z.length<=16777216:=by rw[gW];have:=S.1;ext
 have f:=pV m
 rw[gW]at f
 generalize u:z.cps.toList=b at *
 have g:dIx (prD (p,q)) (.int 0)=.ok (.int p):=rfl
 have h:dIx (prD (p,q)) (.int 1)=.ok (.int q):=rfl
 have C:∀ r:Rw,dIx (aY r) (.int 0)=.ok r.l.d:=λr=>rfl
 have r1:∀ r:Rw,dIx (aY r) (.int 1)=.ok _:=λr=>rfl
 have r2:∀ r:Rw,dIx (aY r) (.int 2)=.ok r.r.d:=λr=>rfl
 unfold mK aBI
 by_cases a:p=0
 .subst a
  have e:aL rs b (0,q)=((aJ rs q).l,1):=by rfl
  rw[e]
  simp[g,h,hr,C,bV]
 .by_cases h1:p=(b.length:Int)+1
  .have e:aL rs b (p,q)=((aJ rs q).r,-1):=by unfold aL;rw[AL a,AJ h1]
   rw[e]
   have A:¬ ((b.length:Int)+1=0):=by ext
   have x:dEq (.int p) (.int 0)=.ok (.bool false):=by rw[bV,BA a]
   have e1:dEq (.int p) (.int ((b.length:Int)+1))=.ok (.bool true):=by rw[bV,A2 h1]
   simp[g,h,hr,r2,x,e1,f]
  .obtain ⟨c,t,v,j⟩:=uH S V a h1
   obtain⟨i,k,o,E⟩:=lK M S V a h1
   have B:=V.1
   have w:=V.2.1
   simp only at B w t j k o
   have e:aL rs b (p,q)=(.n i.1,i.2):=by unfold aL;rw[AL a,AL h1];simp only[o]
   rw[e]
   have D:dIx (.str z) (.int (p - 1))=.ok (.str ⟨#[c]⟩):=aIN m (kP (by ext) (by rw[u,<-t];congr 1;ext))
   have y:dIx (.tuple ((aJ rs q).c.map cellD)) (.int ((c - 97:Nat):Int))=.ok (cellD i):=iS (cP (by rw[AE,<-j,k];rfl))
   simp[g,h,hr,r1,bV,a,f,h1,D,(pX (nV M.sg3 v)),y]
   rfl
theorem cat_w(M:Mach rs sg){a:L9 Nat}(V:bM rs a s)(h:(aL rs a s).1=.w x):x="by"\/x="out":=by
 have g:=(M.row _ (AD (bQ V.2.2.1 V.2.2.2))).1
 unfold aL at h
 split at h
 .have h:(aJ rs s.2).l=.w x:=h
  have:=g.1;rw[h]at this;exact this
 .split at h
  .have h:(aJ rs s.2).r=.w x:=h
   have:=g.2.1;rw[h]at this;exact this
  ext
def ptT:Sg->R Bool:=(e1 asB (kX true 4 (eV 2)))
def ptB:Sg->R Fw:=(aC (jZ 4 (eV 2) (eC (.bool true)))
 (aC (aS 5 (aE 3 mK (aA (vV 0) (aA (vV 1) (aA (vV 2) aB)))))
 (aC (sIf (e1 asB (e2 dIn (e2 dIx (rV 5) (eC (.int 0))) (eC (.tuple [.str "by",.str "out"])))) (sFz 3 (aM (vV 3))) sNx)
 (aC (aS 2 (vD (bH (aA (e2 bJ (e2 dIx (rV 2) (eC (.int 0))) (e2 dIx (rV 5) (eC (.int 1)))) (aA (e2 dIx (rV 5) (eC (.int 0))) aB)))))
 (iY 3 (eV 2))))))
def ptρ(rs:L9 Rw)(z:Str)(ps:L9 (Int×Int))(s:Int×Int)(u:O9 A):Sg:=[some (.d (aK rs)),some (.d (.str z)),some (.d (prD s)),some (.l (ps.map prD++[prD s])),some (.m (been prD ps)),u]
theorem aXH{u:O9 A}(h:s∈ps):ptT (ptρ rs z ps s u)=.ok false:=by
 simp[ptT,ptρ,(bS cS ps s),((i7 cH).mpr h)]
theorem aG3{u:O9 A}(h:s∉ps):ptT (ptρ rs z ps s u)=.ok true:=by
 simp[ptT,ptρ,(bS cS ps s),(eS cH h)]
theorem aTT(M:Mach rs sg)(S:aH sg z.cps.toList){u:O9 A}(V:bM rs z.cps.toList s)(h:s∉ps)(b:ps.length<=2000000)(e:(aL rs z.cps.toList s).1=.w x):ptB (ptρ rs z ps s u)=.ok (.rt (.d (.list ((ps++[s]).map prD)))):=by
 have a:(been prD ps).length<=16777216:=by rw[eG];ext
 have f:=aI8 M S V
 rw[e]at f
 simp[ptB,ptρ,(bS cS ps s),a,f,Tn.d,(mZ (cat_w M V e))]
theorem aXI(M:Mach rs sg)(S:aH sg z.cps.toList){u:O9 A}{q:Int}(V:bM rs z.cps.toList s)(h:s∉ps)(g:ps.length<=2000000)(e:(aL rs z.cps.toList s).1=.n q) :
  ∃ u',ptB (ptρ rs z ps s u)=.ok (.nx (ptρ rs z (ps++[s]) (s.1+(aL rs z.cps.toList s).2,q) u')):=by
 have a:(been prD ps).length<=16777216:=by rw[eG];ext
 have f:=aI8 M S V
 rw[e]at f
 generalize (aL rs z.cps.toList s).2=t at *
 have c:ps.length+1 < 16777216:=by ext
 have b:dIx (prD s) (.int 0)=.ok _:=rfl
 have p2:∀ i:Int,prD (i,q)=.tuple _:=λi=>rfl
 exact⟨some (.d (.tuple [.int q,.int t])),by simp[ptB,ptρ,(bS cS ps s),(fM cH h),a,f,Tn.d,(mY q),b,p2,c]⟩
theorem aTU(M:Mach rs sg)(S:aH sg z.cps.toList):∀ (k:Nat) (ps:L9 (Int×Int)) (s:Int×Int) (u:O9 A),Way rs z.cps.toList ps s k->
  aC (aW ptT ptB) (sFz 3 (aM (vV 3))) (ptρ rs z ps s u)=.ok (.rt (.d (.list ((fN rs z.cps.toList).map prD)))):=by
 have g:iP rs z.cps.toList<=1002 * 1000:=E7 (by have:=S.1;ext) M.len2
 have b:∀ k ps s u,Way rs z.cps.toList ps s k->s∈ps->aC (aW ptT ptB) (sFz 3 (aM (vV 3))) (ptρ rs z ps s u)=.ok (.rt (.d (.list ((fN rs z.cps.toList).map prD)))):=by
  intro k ps s u W a
  rw[aN,bR (aXH a),<-W.stop a]
  simp[ptρ]
 intro k
 induction k with
 | zero=>
  intro ps s u W
  by_cases a:s∈ps
  .exact b 0 ps s u W a
  .have j:=W.more a;ext
 | succ k ih=>
  intro ps s u W
  by_cases a:s∈ps
  .exact b _ ps s u W a
  .cases c:(aL rs z.cps.toList s).1 with
   | w x=>
    rw[aN,fG (aG3 a) (aTT M S W.here a (by have:=W.num;ext) c),<-W.ends a (by unfold bL;rw[c])];rfl
   | n q=>
    obtain⟨e,f⟩:=aXI M S W.here a (by have:=W.num;ext) c
    have:=ih _ _ e (W.next M S a (by unfold bL;rw[c]))
    rw[aN]at this ⊢
    rw[dE (aG3 a) f]
    ext
end
def brd(a b:Int×Int):Nat:=(i4 a.1 b.1).toNat
def aEP(xss:L9 (L9 D4))(a b:Int×Int):L9 (L9 D4):=xss.set (brd a b) (xss.getD (brd a b) []++[.int b.2])
def bdL:L9 (Int×Int)->L9 (L9 D4)->L9 (L9 D4)
 | a::b::t,xss=>bdL (b::t) (aEP xss a b)
 | _,xss=>xss
def Adj(n:Nat)(l:L9 (Int×Int)):Prop:=∀ (k:Nat) a b,l[k]? = some a->l[k+1]? = some b->0<=i4 a.1 b.1/\i4 a.1 b.1 < n
theorem Adj.tail{a:Int×Int}(h:Adj n (a::l)):Adj n l:=λk x y e1 e2=>h (k+1) x y (by assumption) (by assumption)
theorem aEQ(c:L9 (L9 D4))(a b:Int×Int):(aEP c a b).length=c.length:=by unfold aEP;rw[CB]
theorem aG4:∀ (l:L9 (Int×Int)) (xss:L9 (L9 D4)),(bdL l xss).length=xss.length
 | [],_=>rfl
 | [_],_=>rfl
 | a::b::t,xss=>by unfold bdL;rw[aG4 _,aEQ]
def Few(m:Nat)(xss:L9 (L9 D4)):Prop:=∀ r∈xss,r.length+m<=16777000
theorem aER{a:L9 (L9 D4)}(h:Few m a)(j:Nat)(b:m<=16777000):(a.getD j []).length+m<=16777000:=by
 rw[AK]
 cases e:a[j]? with
 | none=>simp_all
 | some r=>exact h r (AD e)
theorem aO1{c:L9 (L9 D4)}{a b:Int×Int}(h:Few (m+1) c)(d:m+1<=16777000):Few m (aEP c a b):=λr hr=>by
 rcases List.mem_or_eq_of_mem_set hr with q|q
 .have:=h r q;ext
 .have:=aER h (brd a b) d
  rw[q,A7,CS];ext
section
variable{D0 D1:D4}
theorem aBM:∀ (l:L9 (Int×Int)) (xss:L9 (L9 D4)) (u3 u4:O9 A),Adj xss.length l->Few l.length xss->l.length<=16777000->
  ∃ u3' u4',oQ (stT [(stN 3),(stN 4)]) (e2 (d2 i4) (e2 dIx (rV 3) (eC (.int 0))) (e2 dIx (rV 4) (eC (.int 0)))) (e2 dIx (rV 4) (eC (.int 1))) ((l.zip (l.drop 1)).map λp=>.tuple [prD p.1,prD p.2]) xss [some (.d D0),some (.d D1),none,u3,u4]=.ok (bdL l xss,[some (.d D0),some (.d D1),none,u3',u4'])
 | [],xss,u3,u4,_,_,_=>⟨u3,u4,rfl⟩
 | [a],xss,u3,u4,_,_,_=>⟨u3,u4,rfl⟩
 | a::b::t,xss,u3,u4,h,hf,hl=>by
  obtain⟨u3',u4',q⟩:=aBM _ (aEP xss a b) _ _ (by rw[aEQ];exact h.tail) (aO1 hf hl) (by ext)
  refine⟨u3',u4',?_⟩
  have e:((a::b::t).zip ((a::b::t).drop 1)).map (λp=>PyData.tuple [prD p.1,prD p.2])=.tuple [prD a,prD b]::(((b::t).zip _).map λp=>PyData.tuple _):=rfl
  rw[e]
  unfold oQ bdL
  have n:=aER hf (brd a b) hl
  have k:∀ s:Int×Int,dIx (prD s) (.int 0)=.ok _:=λs=>rfl
  have m:∀ s:Int×Int,dIx (prD s) (.int 1)=.ok _:=λs=>rfl
  have g:∀ i j:Int,d2 i4 (.int i) (.int j)=.ok _:=λi j=>rfl
  have c:j3 [some (A.d D0),some (.d D1),none,some (.d (prD a)),some (.d (prD b))]=true:=rfl
  simp only[aLG,aDZ,aDY,aGE,EO,A0,AX,kJ,R.bind_ok,c,BR,eM,c8,dH,AN,AS,k,m,g,(aXG (h 0 a b rfl rfl).1 (h 0 a b rfl rfl).2)]
  have f:brd a b=(i4 a.1 b.1).toNat:=rfl
  rw[<-f,AJ (by ext)]
  exact q
end
theorem aMH(l:L9 (Int×Int)):(((l.map prD).zip ((l.map prD).drop 1)).map _f.aIG)=(l.zip (l.drop 1)).map λp=>PyData.tuple [prD p.1,prD p.2]:=by
 rw[<-List.map_drop,List.zip_map,A6];rfl
theorem aZZ(xs:L9 D4)(h:xs≠[]):oY xs (some 1) none=xs.drop 1:=by
 have h1:1<=xs.length:=by cases xs with|nil=>exact absurd rfl h|cons _ _=>simp
 have e:_b.sIx xs.length 0 (some 1)=1:=by
  have:=_b.aQO xs.length 0 1
  ext
 unfold oY
 rw[_b.aM0,e,CG (by simp)]
def n8(xss:L9 (L9 D4)):D4:=.tuple (xss.map PyData.tuple)
theorem aXJ{z:Str}(hz:z.cps.toList.length<=1000)(t:l≠[])(u:l.length<=16000000)(v:Adj (z.cps.toList.length+1) l) :
  jD [.d (.list (l.map prD)),.d (.str z)]=.ok (.d (n8 (bdL l (replicate (z.cps.toList.length+1) [])))):=by
 have b:=pV (z:=z) (by rw[gW];ext)
 rw[gW]at b
 have hr:fK 0 (z.cps.toList.length+1)=.ok ((range (z.cps.toList.length+1)).map λi:Nat=>.int i):=by
  have:=aIR (n:=z.cps.toList.length+1) (by ext)
  simp_all
 obtain⟨j,o,q⟩:=aBM (D0:=.list (l.map prD)) (D1:=.str z) l (replicate _ []) none none (by rw[CI];ext) (λr hr=>by rw[List.eq_of_mem_replicate hr];simp;ext) (by ext)
 have c:mR (.list (l.map prD)) (.list ((l.map prD).drop 1))=.ok ((l.zip (l.drop 1)).map λp=>PyData.tuple [prD p.1,prD p.2]):=by
  unfold mR
  rw[eF (by ext),R.bind_ok,eF (by rw[EM,AC];ext),R.bind_ok,aMH]
 have h:dSl (.list (l.map prD)) (some 1) none=.ok (.list ((l.map prD).drop 1)):=by rw[aYE,aZZ _ (by simp_all)]
 generalize m:bdL l _=a at *
 have k:a.length=z.cps.toList.length+1:=by rw[<-m,aG4,CI]
 have f:aP _=.ok (a.map PyData.list):=eF (by ext)
 have s:compL (stN 0) cF (e1 dTup (rV 0)) (cK [none] [some (.d (.list (l.map prD))),some (.d (.str z)),some (.d (.list (a.map PyData.list))),j,o]) (a.map PyData.list)=.ok _:=bA λx w=>⟨_,rfl,rfl⟩
 unfold jD tT
 have g:j3 [some (A.d (.list (l.map prD))),some (.d (.str z)),none,none,none]=true:=rfl
 have e:replicate 3 (none:O9 A)=[none,none,none]:=rfl
 simp only[cZ,aN,aOZ,mX,eM,dM,c8,kZ,dH,AW,BE,AT,A5,Nat.reduceAdd,e,A8,BD,AN,AS,b,R.bind_ok,sT,hr,A0,AX,g,and_true,Nat.reduceLT,BR,sR,pU,sS,h,c,AC,BM,q,jJ,dY,yG,nT,f,s]
 rfl
theorem aO2{a b:Int×Int}(M:Mach rs sg)(S:aH sg z)(V:bM rs z a)(h:bL rs z a=some b):0<=i4 a.1 b.1/\i4 a.1 b.1 < ((z.length+1:Nat):Int):=by
 have W:=kS M S V h
 have i:b.1=a.1+1\/b.1=a.1 - 1:=by
  unfold bL at h
  cases e:(aL rs z a).1 with
  | w x=>simp_all
  | n q=>
   rw[e]at h
   cases h
   have j:(aL rs z a).2=1\/(aL rs z a).2 = -1:=by
    by_cases c:a.1=0
    .left;unfold aL;rw[AJ c]
    .by_cases h1:a.1=z.length+1
     .right;unfold aL;rw[AL c,AJ h1]
     .obtain ⟨f,d⟩:=lK M S V c h1
      unfold aL
      rw[AL c,AL h1]
      simp only[d.2.1]
      exact d.2.2.2.2
   ext
 obtain⟨g,k,_,_⟩:=V
 obtain⟨w1,w2,_,_⟩:=W
 unfold i4
 ext
theorem PathOk.adj(M:Mach rs sg)(S:aH sg z)(P:PathOk rs z ps s):Adj (z.length+1) (ps++[s]):=λk a b e1 e2=>
 aO2 M S (P.val a (AD e1)) (P.step k a b e1 e2)
def lD(rs:L9 Rw)(z:L9 Nat)(ps:L9 (Int×Int))(s:Int×Int):Er:=
 if a7 rs z="by" then⟨"LetBy",[("place",.int s.1),("room",.int s.2),("borders",n8 (bdL (ps++[s]) (replicate (z.length+1) [])))]⟩
 else if a7 rs z="out" then⟨"ShutOut",[("place",.int s.1),("room",.int s.2),("borders",n8 (bdL (ps++[s]) (replicate (z.length+1) [])))]⟩
 else⟨"ForEver",[("place",.int s.1),("room",.int s.2),("first",.int (ps.idxOf s)),("again",.int ps.length)]⟩
inductive EndP(rs:List Rw)(z:List Nat)(ps:List (Int×Int))(s:Int×Int):Prop
 | b (h:a7 rs z="by") (n:s∉ps) (e:bL rs z s=none) (c:(aL rs z s).1=.w "by")
 | o (h:a7 rs z="out") (n:s∉ps) (e:bL rs z s=none) (c:(aL rs z s).1=.w "out")
 | e (h:a7 rs z="ever") (n:s∈ps) (q:Int) (c:(aL rs z s).1=.n q)
theorem aYY{z:Str}(M:Mach rs sg)(S:aH sg z.cps.toList):∃ ps s,fN rs z.cps.toList=ps++[s]/\PathOk rs z.cps.toList ps s/\EndP rs z.cps.toList ps s:=by
 obtain⟨ps,s,e,P⟩:=aTS M S
 obtain⟨_,j,s',g,V,q⟩:=wY M S
 rw[e]at g
 obtain⟨rfl,h2⟩:=List.append_inj' g rfl
 cases h2
 refine⟨ps,s,e,P,?_⟩
 rcases q with ⟨c,x,d,a⟩|⟨⟨s',c⟩,a⟩
 .have f:s∉ps:=by
   rcases P.fin with ⟨h,_⟩|⟨_,s',h⟩<;>simp_all
  rcases cat_w M V d with rfl|rfl
  .exact .b (by unfold a7;rw[a];rfl) f c d
  .exact .o (by unfold a7;rw[a];rfl) f c d
 .have i:s∈ps:=by
   rcases P.fin with ⟨_,h⟩|⟨h,_⟩<;>simp_all
  cases k:(aL rs z.cps.toList s).1 with
  | w x=>unfold bL at c;simp_all
  | n q=>exact .e (by unfold a7;rw[a];rfl) i q k
theorem tU(l:L9 (Int×Int))(s:Int×Int):dIx (.list ((l++[s]).map prD)) (.int (-1))=.ok (prD s):=by
 rw[BL];exact jA _ _
theorem aO3(M:Mach rs sg)(S:aH sg z)(P:PathOk rs z ps s):ps.length<=1002000:=by
 have a:iP rs z<=1002 * 1000:=E7 (by have:=S.1;ext) M.len2
 have:=P.few
 ext
theorem aYZ(s:Int×Int):Sh 1 (prD s):=sE λy a=>by
 rcases AV.mp a with q|q
 · rw [q]; exact pB _ _
 · rw [AZ.mp q]; exact pB _ _
theorem aI9:shaped (.list (l.map prD))=true:=Sh.shaped (sh_lst λx a=>by
 obtain⟨s,_,rfl⟩:=A1.mp a
 exact aYZ s) (by simp)
theorem aQA(s:Int×Int):nbD (prD s)=true:=rfl
theorem aXK{a b:Int×Int}:prD a=prD b↔a=b:=⟨λh=>cH _ _ h,λh=>by rw[h]⟩
theorem aXL(a b:Int×Int):PyData.eqv (prD a) (prD b)=decide (a=b):=by
 rw[aL2 (aQA a) (aQA b) (vR a)]
 exact decide_eq_decide.mpr aXK
theorem aG5(s:Int×Int):∀ (l t:L9 (Int×Int)),s∈l->((l++t).map prD).findIdx? (λy=>PyData.eqv y (prD s))=some (l.idxOf s)
 | [],_,h=>by ext
 | a::l,t,h=>by
  rw[A8,AW,List.findIdx?_cons,aXL]
  by_cases e:a=s
  .grind
  .rw[BA e,aG5 s l t (by
    ext),List.idxOf_cons,C6 e]
   rfl
def itM(rs:L9 Rw)(z:L9 Nat):Nat->O9 (Int×Int)
 | 0=>some (0,0)
 | n+1=>(itM rs z n).bind (bL rs z)
def aZ0(ps:L9 (Int×Int))(s:Int×Int):Er:=⟨"ForEver",[("place",.int s.1),("room",.int s.2),("first",.int (ps.idxOf s)),("again",.int ps.length)]⟩
section
variable{rs:L9 Rw}{sg:Nat}{z:L9 Nat}{ps:L9 (Int×Int)}{s:Int×Int}
theorem aY0(h:a7 rs z="by"):lD rs z ps s=⟨"LetBy",[("place",.int s.1),("room",.int s.2),("borders",n8 (bdL (ps++[s]) (replicate (z.length+1) [])))]⟩:=by unfold lD;rw[AJ h]
theorem aY1(h:a7 rs z="out"):lD rs z ps s=⟨"ShutOut",[("place",.int s.1),("room",.int s.2),("borders",n8 (bdL (ps++[s]) (replicate (z.length+1) [])))]⟩:=by unfold lD;rw[AL (by rw[h];decide),AJ h]
theorem aY2(h:a7 rs z="ever"):lD rs z ps s=aZ0 ps s:=by unfold lD;rw[AL (by rw[h];decide),AL (by rw[h];decide)];rfl
theorem mt_says(W:EndP rs z ps s){f:Sg->R A}{Y:Sg}(h:f Y=.ok (.o (lD rs z ps s))):vMt f "says" [("LetBy",dO),("ShutOut",cV),("ForEver",cW)] Y=.ok (.d (.str (a7 rs z))):=by
 rw[aXF,h]
 cases W with
 | b w n e c=>rw[aY0 w,w];rfl
 | o w n e c=>rw[aY1 w,w];rfl
 | e w n q c=>rw[aY2 w,w];rfl
theorem word_of(W:EndP rs z ps s):a7 rs z="by"\/a7 rs z="out"\/a7 rs z="ever":=by
 cases W with
 | b w n e c=>exact .inl w
 | o w n e c=>exact .inr (.inl w)
 | e w n q c=>exact .inr (.inr w)
end
section
variable{rs:L9 Rw}{sg:Nat}{z:Str}{ps:L9 (Int×Int)}{s:Int×Int}
def AtN(rs:L9 Rw)(z:L9 Nat)(p r n:Int):Prop:=itM rs z n.toNat=some (p,r)
instance (rs:L9 Rw) (z:L9 Nat) (p r n:Int):Decidable (AtN rs z p r n):=inferInstanceAs (Decidable (_=_))
def aY3(rs:L9 Rw)(z:L9 Nat)(p r f a:Int):Prop:=(0<=f/\f < a/\a<=(rs.length:Int) * ((z.length:Int)+2))/\AtN rs z p r f/\AtN rs z p r a
instance (rs:L9 Rw) (z:L9 Nat) (p r f a:Int):Decidable (aY3 rs z p r f a):=inferInstanceAs (Decidable (_/\_))
end
end _e
namespace _a
theorem aXM{fs ex:L9 Az}{a:Cv}{d H1:Hp}{h h':Hz}(un:Un fs ex d H1 h h')(c:∀ b∈cQ a,H1 b=none)(f:∀ b∈cQ a,h.objs.size<=b):Un fs ex d (pub a H1) h h':=
 ⟨un.keep,un.slot,λb o e n h2=>by
  rw[dD λz=>absurd (A3 (AQ e) (f b z)) (B0 _)];exact un.free b o e n h2,un.there,λb xs q=>eD c _ _ (un.tups b xs q),λb o u q=>eD c _ _ (un.frzs b o u q),λb ps q=>eD c _ _ (un.tbls b ps q)⟩
theorem aXN{CX:CXT}{w:W9}{base:Hz}{params:Arguments}{e:Ez}{M kV a Y:V9}{O:O9 Az}
  {F:Array (O9 V9)} {N ps:L9 Str} {sp:Sp} {i:Nat} {js:L9 Nat} (U:K.lookup f=some ⟨Y,od,.func (fnOf name qual params [st,.Return (some e) p] scope M kV doc pm O a ct),F⟩) (G:codeIn K a qual=true) (S:FnScope N ps scope)
  (len:∀ vs H Q E,sp vs H Q E->vs.length=ps.length)
  (g:∀ (A:U9) (outer:L9 Env) (s:S9) (H:Hp) (vs:L9 V) (Q:VK) (E:XK),Room k (A.deeper (envOfC qual scope s.heap.objs.size f a))->sp vs H Q E->
   PE (fO CX P w K mg base N qual scope f a A outer s H E) e (g7 i)/\∃ t,PS (fO CX P w K mg base N qual scope f a A outer s H E) st t/\t {nx:=λl H1=>∃ v,l[i]? = some (some v)/\(∀ j∈js,wE (fO CX P w K mg base N qual scope f a A outer s H E) l j)/\∀ B,PubRel (fO CX P w K mg base N qual scope f a A outer s H E) l H1 js B->Q v (pub B H1),rt:=λ_ _=>False} (start N vs) H) :
  FnOk P w K mg base CX (k+1) f (fnOf name qual params [st,.Return (some e) p] scope M kV doc pm O a ct) ps sp:=by
 refine⟨len,λA outer s H args us vs Q E hr m I r C=>?_⟩
 have KX:=m.mod.kin.keeps λb o e=>(m.bs b o e).1
 have d:∀ y∈ps.zip us,scope.names.lookup y.1=some .local\/(scope.names.lookup y.1=some .cell/\((cellsFrom (s.heap.objs.size+1) scope.names []).lookup y.1).isSome=true):=λn hy=>by
  rcases S.par n.1 (DZ hy).1 with q|q
  .exact .inl q
  .exact .inr ⟨q,EK _ _ _ (.inl q)⟩
 refine EQ hr.depth (KX _ _ U) rfl S.co S.gen rfl (codeRec_of KX G) (I _ _ _ _ ?_)
 refine FF S.kind d λenv D s1 x=>?_
 subst D
 refine⟨(m.mod.nolimit.keeps λb o e=>(m.bs b o e).1).keeps x.toInCall.keep,codeAny_func ?_⟩
 obtain⟨D,t,T⟩:=g A outer s H vs Q E (hr.deeper _) C
 refine EL (BW (T.1 [] s1 _ H _ (aA2 S hr.hd m (len _ _ _ _ C) r x) T.2) (λfl s' c=>?_) λe s' c=>c)
 cases fl with
 | next=>
  obtain⟨l,H1,Z,v,J⟩:=c
  refine EL (wpAny_Return_some (BW (D [] s' l H1 (λL H'=>L=v/\H'=H1) Z ⟨v,J.1,rfl,rfl⟩) (λu s2 c=>?_) λe s' c=>c))
  obtain⟨L,H',h,X,e1,e2⟩:=c
  subst e1 e2
  obtain⟨B,R⟩:=aCQ h js J.2.1
  refine⟨L,pub B H',h.os,h.bare,aXM h.base R.1.free λb I=>?_,(aFG h R.1 R.2).hok,X,J.2.2 B R.1⟩
  obtain⟨⟨o,v⟩,z⟩:=gM.mp I
  exact(R.2 b o v z).2.1
 | ret u=>
  obtain⟨_,q⟩:=c
  simp_all
 | brk=>
  obtain⟨_,q⟩:=c
  simp_all
 | cont=>
  obtain⟨_,q⟩:=c
  simp_all
end _a
namespace _f
theorem aTV{c:Cv}{f g F H:Hp}(d:∀ b∈cQ c,H b=none)(e:Ext f g F H):Ext f g (pub c F) (pub c H):=by
 refine⟨λb o q=>eD d _ _ (e.hh b o q),λb o q=>eD (λb a=>aU e.fh (d b a)) _ _ (e.ff b o q),aDL e.fh,λb q n=>?_⟩
 by_cases a:b∈cQ c
 · exact .inl (aU e.hh (d b a))
 · rw [dD a]at n; exact e.nw b q n
def fnK(m:Nat)(sl:L9 Nat)(k n:Nat)(Gm:L9 A->L9 D4->R D4):L9 A->R A:=λas=>match eR sl (as.map some++replicate (m - as.length) none)with
 | some caps=>.ok (.g k n (Gm caps))
 | none=>.bad
section
variable{P:P9}{w:W9}{K:Frag}{mg:Str->O9 V9}{base:Hz}{T:Hp}
theorem aTW{x:Str}{st d1:Stmt}{e:Ez}{p:Pos}{N ps:L9 Str}{k Z n i:Nat}{q:Str}{qs:L9 (Pos×Str)}{cls:Str->O9 ClSt}{C:ClSt}{fr:L9 Str}{sl:L9 Nat}{Gm:L9 A->L9 D4->R D4}(D:DefAtT K mg base T qs x st ps)(S:FnScope N ps (aF st))(hb:bB st=[d1,.Return (some e) p])
  (hS:cls q=some C) (M:CloOk P w K mg base T C fr Z n Gm) (h1:∀ y,(y,NameKind.free)∈C.scope.names->y∈fr) (h2:∀ y∈fr,(y,NameKind.free)∈C.scope.names) (h3:sl.map (λj=>N[j]?)=fr.map some) (hi:∀ j∈sl,j≠i) (ae:i < N.length) (ac:ps.length<=i)
  (I:∀ j∈sl,∃ y,N[j]? = some y/\(aF st).names.lookup y=some .cell)
  (c:∀ (f c0 P0:Az) (A:U9) (outer:L9 Env) (s:S9) (H F:Hp) (E:XK),Tb mg base c0 P0->T P0=some (.tbl qs)->Room k (A.deeper (envOfC x (aF st) s.heap.objs.size f (.ref c0)))->
   PE (fO (CXe P w) P w K mg base N x (aF st) f (.ref c0) A outer s H E) e (g7 i)/\PSf (fO (CXe P w) P w K mg base N x (aF st) f (.ref c0) A outer s H E) ⟨K,mg,w,F,H,gOf P w K mg base T,(envOfC x (aF st) s.heap.objs.size f (.ref c0)).cells,cls⟩ E d1 (uR i q)):cB P w K mg base T (k+1) x ps (fnK N.length sl Z n Gm):=by
 obtain⟨f,oc,od,kV,doc,pm,an,c0,ct,aa,P0,V,L,kp,b,m⟩:=D.ex
 rw[hb]at V b
 refine⟨f,_,aXN (i:=i) (js:=sl) V L S (λvs H Q E h=>?_) (λA outer s H vs Q E hr h=>?_),b,m.1,kp⟩
 .obtain ⟨F,o,h2⟩:=h
  rw[h2.2.2.1.len,h2.2.2.2.1]
 .obtain ⟨F,o,g0,g1,g2,g3,u⟩:=h
  refine⟨(c f c0 P0 A outer s H F E m.2.1 m.2.2 hr).1,_,(c f c0 P0 A outer s H F E m.2.1 m.2.2 hr).2,?_⟩
  refine⟨_,F,(wK (cells:=(envOfC x (aF st) s.heap.objs.size f (.ref c0)).cells) (cls:=cls) (w:=w) (n:=N.length) g0 g1 g2),?_⟩
  unfold fnK at u
  cases G:eR sl _ with
  | none=>rw[G]at u;exact u.elim
  | some caps=>
   rw[G]at u
   intro Z' F' H' s' d
   have r:(o.map some++replicate (N.length - o.length) none).length=N.length:=by ext
   obtain⟨v,U,hA⟩:=d.slot i _ (B4 (by rw[r];ext))
   have g:∀ js:L9 Nat,(∀ j∈js,j≠i)->eR js ((o.map some++replicate (N.length - o.length) none).set i (some (.k q)))=eR js (o.map some++replicate _ none):=λjs l=>by
    induction js with
    | nil=>rfl
    | cons j js ih=>
     unfold eR
     rw[BK (BQ (l j A4)),ih λj h=>l j (AU _ h)]
   refine⟨v,U,λj l=>?_,λY R=>?_⟩
   .obtain ⟨y,W⟩:=I j l
    obtain⟨a,ha⟩:=wP ((g sl hi).trans G) j l
    obtain⟨v,U⟩:=d.slot j a ha
    exact⟨y,v,W.1,W.2,rfl,U.1⟩
   .obtain ⟨S',f1,cl,t,O,cc,J,B,z⟩:=hA
    have B:cls q=some S':=B
    rw[hS]at B;cases B
    refine u v (pub Y F') (pub Y H') (aTV R.free d.all) ?_
    exact aDP (X:=fO (CXe P w) P w K mg base N x (aF st) f (.ref c0) A outer s H E) rfl rfl rfl rfl d R (⟨f1,cl,t,O,cc,J,z⟩) M h1 h2 h3 (λj l=>l) ((g sl hi).trans G)
end
def outH(F:Hp)(q:Az):Hp:=λa=>if a=q then none else F a
section
variable{X:Cx}{c:Ct}{E:XK}{st:Stmt}
end
end _f
namespace _a
section
variable{X:Cx}
end
end _a
namespace _f
section
variable{X:Cx}{c:Ct}{E:XK}{e:Ez}{st:Stmt}{rest:L9 Stmt}{pos:Pos}
end
section
variable{X:Cx}{c:Ct}{E:XK}{e:Ez}{st:Stmt}
end
end _f
namespace _a
end _a
namespace _f
section
variable{X:Cx}{c:Ct}{E:XK}{e:Ez}{cn:Str}{C:Az}{fs:L9 Str}{f:Sg->R (L9 D4)}
end
def aMI(X:Cx)(E:XK)(tf:TE)(t:TA):TE:=λZ H Q=>tf Z H λx H0=>∃ f,x=.ref f/\FnK X.K H0 f/\t Z H0 λvs H1=>FnK X.K H1 f/\∃ k fd ps sp,Room k X.A/\FnOk X.prog X.w X.K X.mg X.base (CXe X.prog X.w) k f fd ps sp/\cO X.K fd ps []/\sp vs H1 Q E
def aJA(m:Nat)(f:Sg->R A)(g:Sg->R (L9 D4)):Sg->R D4:=λY=>(f Y).bind λa=>match a with
 | .g k n G=>(g Y).bind λds=>if k<=m/\ds.length=n then G ds else .bad
 | _=>.bad
theorem aTX{X:Cx}{c:Ct}{E:XK}{e:Ez}{m:Nat}{T:Hp}{f:Sg->R A}{g:Sg->R (L9 D4)}(hG:c.g=gOf X.prog X.w X.K X.mg X.base T)(L:X.K=c.K)(S:X.mg=c.mg)(hr:Room m X.A)(h:PE X e (aMI X E (tV (aH5 c) c E f) (tAd c E g))):PD X c E e (aJA m f g):=PE.imp h λZ H Q u=>by
 obtain⟨Y,F,ab,k⟩:=u
 refine⟨Y,F,ab,(Rk.bind k).imp λa _ k v s O D P=>?_⟩
 have b:=ab.ext D
 cases a with
 | g lv n G=>
  obtain⟨J,U,rfl,s1,B⟩:=((P))
  rw[hG]at B
  obtain⟨fd,ps,i⟩:=((B))
  have l:∀ j H',aD s j->aD j H'->FnK X.K H' J:=λj H' N M=>i.2.2.2.imp id λI=>by obtain⟨I,od,fd,sl,e⟩:=I;exact⟨I,od,fd,sl,M _ _ (N _ _ (s1 _ _ e))⟩
  refine⟨J,rfl,l s O (bF s) b.fh,Y,s,b,(Rk.bind (k.ext D)).imp λds _ q vs j H' e1 r=>?_⟩
  refine⟨l j H' e1.ff e1.fh,?_⟩
  by_cases p:lv<=m/\ds.length=n
  .rw[AJ p]at q
   refine⟨lv,fd,ps,_,hr.mono p.1,i.2.2.1,i.2.1,j,ds,λa o z=>e1.ff a o (s1 a o z),λa o z=>e1.ff a o (b.f0 a o (b.t0 a o (by rw[hG];exact z))),e1.fh,by rw[L];ext,p.2,?_⟩
   cases t:G ds with
   | bad=>rw[t]at q;exact q
   | ok d=>rw[t]at q;exact λv y H2 e2 r2=>Rk.ok q v y H2 (D.trans (e1.trans e2)) (by rw[L]at r2;exact r2)
   | ex x=>rw[t]at q;exact λa C y H2 e2 r2=>q a C y H2 ((b.all.trans e1).trans e2) (by simp_all)
  .rw[AL p]at q;exact q.elim
 | _=>exact k.elim
theorem aO4{X:Cx}{E:XK}{o i e:Ez}{pos:Pos}{es:L9 Ez}{B:TE}{t:TA}(D:PE X (.Subscript o i p) B)(hx:fU (CXe X.prog X.w) X E)(y:PA X (e::es) t)
  (n:autoParam (starEach (e::es) X.env=(false,eval e X.env)::starEach es X.env) z3) (hpl:autoParam ((backTo pos (starEach es X.env)).any (·.1)=false) z3):PE X (.Call (.Subscript o i p) (e::es) [] pos) (aMI X E B t):=by
 intro ap s Z H Q I h
 refine AA (thn (D ap s Z H _ I h) λu z j=>?_)
 obtain⟨v,x,c,C,f,G,d,h⟩:=j
 subst G
 obtain rfl:=C
 have g:∀ us s1,AP X ap Z (λvs H1=>FnK X.K H1 f/\∃ k fd ps sp,Room k X.A/\FnOk X.prog X.w X.K X.mg X.base (CXe X.prog X.w) k f fd ps sp/\cO X.K fd ps []/\sp vs H1 Q E) us s1->
   (∃ H1,Inv X ap Z H1 s1/\FnK X.K H1 f)/\wpAny (model X.prog X.w) X.A (call (.ref f) us) (EP X ap Z Q) X.xe s1:=by
  rintro us s1 ⟨vs,H1,b,r,a,k,fd,ps,sp,hr,F,hb,q⟩
  refine⟨⟨H1,b,a⟩,r7 F hr hb .nil hx b r ?_⟩
  ext
 rcases d with d|⟨m,od,fd,sl,d⟩
 .refine C3 c.ok.mod.kin d (thn (y pos ap z Z x _ c h) λus s1 l=>?_) n hpl
  obtain⟨⟨H1,b,_⟩,q⟩:=g us s1 l
  exact⟨b.kIn,q⟩
 .refine callWith_F ⟨m,od,fd,sl,FnO.get c.hok d⟩ (thn (y pos ap z Z x _ c h) λus s1 l=>?_) n hpl
  obtain⟨⟨H1,b,a⟩,q⟩:=g us s1 l
  refine⟨?_,q⟩
  rcases a with a|⟨m,od,fd,sl,a⟩
  .cases e:X.K.lookup f with
   | none=>unfold keepIn at a;simp_all
   | some o=>
    have J:=c.bs f o (c.ok.mod.kin f o e)
    ext
  .exact ⟨m,od,fd,sl,FnO.get b.hok a⟩
section
variable{X:Cx}{c:Ct}{E:XK}{e b:Ez}{es:L9 Ez}{i:Nat}{pos:Pos}
def vH(f:Sg->R A)(g:Sg->R (L9 D4)):Sg->R A:=λY=>(f Y).bind λa=>match a with
 | .g k n G=>(g Y).bind λds=>if ds.length<=1000 then .ok (.h k n G ds)else .bad
 | _=>.bad
theorem aTY{f:Sg->R A}{g:Sg->R (L9 D4)}(h0:PV X c E e f)(h1:PAd X c E es g)(s:autoParam (starEach (e::es) X.env=(false,eval e X.env)::starEach es X.env) z3):PV X c E (.List (e::es) pos) (vH f g):=PE.imp (aCF (aT h0 h1 s)) λZ H Q d=>by
 obtain⟨Y,F,ab,k⟩:=d
 refine⟨Y,F,ab,(Rk.bind k).imp λa _ q v m H1 s1 r1=>?_⟩
 cases a with
 | g k n G=>
  obtain⟨r,t,rfl,j⟩:=r1
  refine⟨Y,m,ab.ext s1,((Rk.bind q).ext s1).imp λds _ q vs u H3 b l=>?_⟩
  by_cases i:ds.length<=1000
  .rw[AJ i]at q
   refine⟨by rw[AT,l.length,fQ];ext,λp h=>?_⟩
   exact Rk.ok q _ _ _ ((s1.trans b).trans (Ext.new b.fh h)) ⟨p,r,t,vs,rfl,aO,λa o z=>(aD.upd (aU b.fh h)) a o (b.ff a o (j.1 a o z)),j.2,l.same (aD.upd (aU b.fh h))⟩
  .rw[AL i]at q;exact q.elim
 | _=>exact q.elim
def vHV(i:Nat):Sg->R A:=λY=>match Y[i]? with
 | some (some (.h k n G ds))=>.ok (.h k n G ds)
 | _=>.bad
theorem aG6(h:PE X e (g7 i)):PV X c E e (vHV i):=PE.imp h λZ H Q ⟨Y,F,ab,k⟩=>by
 unfold vHV at k
 split at k
 .rename_i a
  obtain⟨v,h1⟩:=ab.slot i _ a
  exact⟨v,h1.1,k v F H (Ext.refl ab.fh) h1.2⟩
 .exact k.elim
def vH0(i:Nat):Sg->R A:=λY=>match Y[i]? with
 | some (some (.h k n G _))=>.ok (.g k n G)
 | _=>.bad
def w9(i j:Nat):Sg->R D4:=λY=>match Y[i]? with
 | some (some (.h _ _ _ ds))=>(match ds[j]? with|some d=>.ok d|none=>.bad)
 | _=>.bad
theorem aY4(h:PE X e (g7 i))(hb:PE X b (tC (.int 0)))(f:uD b:=by exact λ_ _=>rfl):PV X c E (.Subscript e b pos) (vH0 i):=PE.imp (_a.aBW uE h hb f) λZ H Q ⟨Y,F,ab,k⟩=>by
 unfold vH0 at k
 split at k
 .rename_i g
  obtain⟨v,h1,p,a,d,vs,rfl,h2⟩:=ab.slot i _ g
  exact⟨_,h1,p,_,0,.ref a,rfl,rfl,SqL.of (ab.fh _ _ h2.1),cP rfl,k _ F H (Ext.refl ab.fh) ⟨a,d,rfl,h2.2.1,h2.2.2.1⟩⟩
 .exact k.elim
theorem yZ{j:Nat}(h:PE X e (g7 i))(hb:PE X b (tC (.int ((j+1:Nat):Int))))(g:uD b:=by exact λ_ _=>rfl):PD X c E (.Subscript e b pos) (w9 i j):=PE.imp (_a.aBW uE h hb g) λZ H Q ⟨Y,F,ab,k⟩=>by
 unfold w9 at k
 split at k
 .rename_i ds l
  obtain⟨v,h1,p,n,m,vs,rfl,h2⟩:=ab.slot i _ l
  split at k
  .rename_i d f
   obtain⟨u,a⟩:=DatVs.get' h2.2.2.2 f
   exact⟨_,h1,p,_,_,u,rfl,rfl,SqL.of (ab.fh _ _ h2.1),cP a.1,k _ F H (Ext.refl ab.fh) a.2⟩
  .exact k.elim
 .exact k.elim
end
end _f
namespace _e
open _f
section
variable{ad:L9 (L9 Nat)}{ws:L9 Str}{sg:Nat}
theorem aY5(M:Rdr ad sg){wd:L9 D4}(j:q < ad.length)(hz:Sgs sg z)(p:z.length<=1000):jU [.d (rdD ad wd),.d (.int (q:Int)),.d (stD z)]=.ok (.d (.int (runN ad q z:Int))):=by
 have h:aP (stD z)=.ok (z.map λu:Nat=>PyData.str ⟨#[u]⟩):=by
  have:=rA (z:=⟨z.toArray⟩) (by ext)
  assumption
 obtain⟨r,t,u,rfl⟩:=i6 (fs:=stN 3) (fb:=(aS 1 (vD (e2 dIx (e2 dIx (e2 dIx (rV 0) (eC (.int 0))) (rV 1)) (e2 iZ (eC (.str "abc")) (rV 3)))))) (Y:=[some _,some (.d (.int q)),some _,none])
  (λi Y=>∃ u,Y=[some (.d (rdD ad wd)),some (.d (.int (runN ad q (z.take i)))),some (.d (stD z)),u]) ⟨none,rfl⟩ λi c Y f b=>by
  obtain⟨u,e⟩:=b
  have a:runN ad q (z.take i) < ad.length:=jM M _ (λx m=>hz x (E1 m)) j
  have g:z.take (i+1)=z.take i++[c]:=by rw[List.take_succ,f];rfl
  have k:runN ad q (z.take (i+1))=eY ad (runN ad q (z.take i)) c:=by unfold runN;rw[g,List.foldl_append];rfl
  have s:dIx (rdD ad wd) (.int 0)=.ok _:=rfl
  have n:dIx _ _=.ok (cT _):=iS (cP (by rw[AE,(M.at a).1];rfl))
  have o:dIx (cT _) _=.ok _:=iS (cP (by rw[AE,(iL M a (hz c (AD f))).1];rfl))
  have id:=pX (nV M.s3 (hz c (AD f)))
  refine⟨[some _,some _,some _,some (.d (.str ⟨#[c]⟩))],_,by rw[e];rfl,.inl ?_,some (.d (.str ⟨#[c]⟩)),rfl⟩
  rw[k]
  generalize ad.getD _ []=l at *
  simp_all
 unfold jU vP
 simp_all
end
theorem aO5{L:L9 Str}(h:∀ w∈L,w8 w):Cp (.list (L.map .str)):=by
 have ok:∀ w,w8 w->PyData.strOk w=true:=λw a=>by
  rcases a with rfl|rfl|rfl<;>decide +kernel
 refine⟨?_,Sh.shaped (n:=2) (sh_lst λx b=>?_) (by simp)⟩
 .exact aGT λx b=>by
   obtain⟨w,_,rfl⟩:=A1.mp b
   rfl
 .obtain ⟨w,a,rfl⟩:=A1.mp b
  exact aJ4 _ (ok w (h w a))
def qD:Sg->R Fw:=(aC (aS 2 (vD (eSl dSl (eC (.str "abc")) oNo (oSo (rV 0)))))
 (aC (kT (e1 yX (eV 1)) (stT [(stN 3),(stN 4)]) (sIf (e1 asB (e2 dNin (rV 4) (rV 2))) wM sNx))
 (aM (vV 1))))
def gY:L9 A->R A:=fnF 5 qD
def vY:Sg->R Fw:=(aM (aE 2 gY (aA (aE 1 c7 (aA (vV 0) aB)) (aA (vV 1) aB))))
def iM:L9 A->R A:=fnF 2 vY
def f8:Sg->R Fw:=(aM (vD (eL (bK [none,some 0] (e1 aP (rV 1)) (stN 0) cF (eA (aE 2 gE (aA (vV 1) (aA (vV 0) aB))))))))
def jQ:Sg->R Fw:=(aM (vD (e2 dGt (e1 dLen (rV 0)) (eC (.int 200)))))
def o4:Sg->R Fw:=(aC (dG 1 (bK [none,some 0] (dR (eA (aE 1 c7 (aA (vV 0) aB)))) (stN 0) cF (eA (aE 2 hR (aA (vV 1) (aA (vV 0) aB))))))
 (aC (uR 2 "one_way.<locals>.after")
 (aC (sFz 1 (aS 3 (pO [1] 3 fF (aA (aE 1 fW (aA (vV 0) aB)) (aA (uS "one_way.<locals>.after" [1] 4 1 (eX 2 f8) 2) (aA (aDO [] 1 2 (eX 2 jQ)) aB))))))
 (aC (aS 4 (vD (e2 dIx (rV 3) (eC (.int 0)))))
 (aC (sIf (e1 asB (e2 dGt (e1 dLen (rV 4)) (eC (.int 200)))) wM sNx)
 (aM (vD (bH (aA (e1 dTup (e2 dIx (rV 3) (eC (.int 1)))) (aA (e1 dTup (eL (bK [none,some 0] (e1 aP (rV 4)) (stN 0) cF (eA (aE 2 dS (aA (vV 1) (aA (vV 0) aB))))))) aB))))))))))
def fJ:L9 A->R A:=fnF 5 o4
def vZ:Sg->R Fw:=(aM (aE 3 jU (aA (vV 0) (aA (vD (eC (.int 0))) (aA (aE 2 gY (aA (aE 1 mW (aA (vV 0) aB)) (aA (vV 1) aB))) aB)))))
def l8:L9 A->R A:=fnF 2 vZ
def v3:Sg->R Fw:=(aM (vD (e2 dIx (e2 dIx (rV 0) (eC (.int 1))) (eA (aE 2 l8 (aA (vV 0) (aA (vV 1) aB)))))))
def eP:L9 A->R A:=fnF 2 v3
def qE:Sg->R Fw:=(aC (uO (aE 2 iM (aA (vV 0) (aA (vV 1) aB))))
 (aC (aS 2 (vD (e1 dTup (eL (bK [none] (e1 aP (eA (aE 2 hR (aA (vV 0) (aA (vD (e2 iZ (eC (.str "abc")) (rV 1))) aB))))) (stN 0) cF (bH (aA (e2 dIx (rV 0) (eC (.int 1))) (aA (e2 dIx (rV 0) (eC (.int 0))) aB))))))))
 (aM (vD (bH (aA (eV 2) (aA (eV 2) aB)))))))
def gZ:L9 A->R A:=fnF 3 qE
def tW:Sg->R Fw:=(aC (uO (aE 2 iM (aA (vV 0) (aA (vV 1) aB))))
 (aC (dG 2 (bK [none,some 0] (e1 aP (eSl dSl (eC (.str "abc")) oNo (oSo (eA (aE 1 c7 (aA (vV 0) aB)))))) (stN 0) cF (eA (aE 2 gZ (aA (vV 1) (aA (vV 0) aB))))))
 (aC (aS 3 (aE 1 uV (aA (vD (e1 dLen (rV 0))) aB)))
 (aC (kT (e1 aP (eV 1)) (stN 4) (aS 3 (aE 2 lO (aA (vV 3) (aA (vD (e2 dIx (rV 2) (e2 iZ (eC (.str "abc")) (rV 4)))) aB)))))
 (aM (vV 3))))))
def eU:L9 A->R A:=fnF 5 tW
def v4:Sg->R Fw:=(aC (sIf (e1 asB (e2 dGt (e1 dLen (rV 0)) (eC (.int 60)))) wM sNx)
 (aM (vD (e1 dTup (rV 0)))))
def l9:L9 A->R A:=fnF 1 v4
def n9:Sg->R Fw:=(aC (aS 1 (aE 2 uW (aA (aE 1 mV (aA (vV 0) aB)) (aA (vD (eC (.int 1))) aB))))
 (aC (aS 2 (vD (bH (aA (eC (.int 0)) (aA (e2 oK (bH (aA (bH (aA (eC (.int 0)) (aA (eC (.int 1)) aB))) aB)) (eA (aE 1 c7 (aA (vV 0) aB)))) (aA (e2 dIx (e2 dIx (rV 1) (eC (.int 0))) (eC (.int 2))) aB))))))
 (aM (aE 1 l9 (aA (vD (eL (e2 nP (eL (dI (aA (eV 2) aB))) (rV 1)))) aB)))))
def iE:L9 A->R A:=fnF 3 n9
def tX:Sg->R Fw:=(aM (aE 1 m8 (aA (aE 1 fJ (aA (vV 0) aB)) aB)))
def lE:L9 A->R A:=fnF 1 tX
def tY:Sg->R Fw:=(aC (aS 1 (aE 1 fJ (aA (vV 0) aB)))
 (aC (aS 2 (vD (e1 dTup (eL (bK [none] (e1 aP (e2 dIx (rV 1) (eC (.int 1)))) (stN 0) cF (eA (aE 1 fX (aA (vV 0) aB))))))))
 (aC (aS 3 (aE 1 m8 (aA (vD (bH (aA (e2 dIx (rV 1) (eC (.int 0))) (aA (eV 2) aB)))) aB)))
 (aC (aS 4 (vD (e1 dLen (e2 dIx (rV 3) (eC (.int 0))))))
 (aC (sIf (e1 asB (e2 dGt (rV 4) (eC (.int 60)))) wM sNx)
 (aM (vD (e1 dTup (eL (bK [none,some 3] (dR (rV 4)) (stN 0) cF (eA (aE 2 gR (aA (vV 1) (aA (vV 0) aB))))))))))))))
def lF:L9 A->R A:=fnF 5 tY
def aES:Sg->R Fw:=(aC (uO (aE 2 iM (aA (vV 0) (aA (vV 1) aB)))) (aC (aS 2 (vD (eC (.tuple [.int 0,.int 0])))) (aC (dG 3 (dI (aA (eV 2) aB))) (aC (kW 4) (aC (aW ptT ptB) (sFz 3 (aM (vV 3))))))))
def rP:L9 A->R A:=fnF 6 aES
def aET:Sg->R Fw:=(aC (aS 2 (aE 2 rP (aA (vV 0) (aA (vV 1) aB))))
 (aC (aS 3 (vD (e2 dIx (rV 2) (e1 dNeg (eC (.int 1))))))
 (aC (aS 4 (vD (e2 dIx (eA (aE 3 mK (aA (vV 0) (aA (vV 1) (aA (vV 3) aB))))) (eC (.int 0)))))
 (aC (sIf (e1 asB (e2 dEq (rV 4) (eC (.str "by")))) (aM (rN "LetBy" ["place","room","borders"] (aA (e2 dIx (rV 3) (eC (.int 0))) (aA (e2 dIx (rV 3) (eC (.int 1))) (aA (eA (aE 2 jD (aA (vV 2) (aA (vV 1) aB)))) aB))))) sNx)
 (aC (sIf (e1 asB (e2 dEq (rV 4) (eC (.str "out")))) (aM (rN "ShutOut" ["place","room","borders"] (aA (e2 dIx (rV 3) (eC (.int 0))) (aA (e2 dIx (rV 3) (eC (.int 1))) (aA (eA (aE 2 jD (aA (vV 2) (aA (vV 1) aB)))) aB))))) sNx)
 (aM (rN "ForEver" ["place","room","first","again"] (aA (e2 dIx (rV 3) (eC (.int 0))) (aA (e2 dIx (rV 3) (eC (.int 1))) (aA (aI5 (rV 2) (rV 3)) (aA (e2 dSub (e1 dLen (rV 2)) (eC (.int 1))) aB)))))))))))
def gG:L9 A->R A:=fnF 5 aET
def cN:Sg->R Fw:=(aM (vMt (aE 2 gG (aA (vV 1) (aA (vV 0) aB))) "says" [("LetBy",dO),("ShutOut",cV),("ForEver",cW)]))
def tZ:L9 A->R A:=fnK 2 [0] 5 1 (eX 2 cN)
def oR:Sg->R Fw:=(aC (aS 4 (aE 2 eO (aA (vV 0) (aA (vV 2) aB))))
 (aC (aS 5 (vD (e2 dMod (rV 3) (e2 bJ (e1 dLen (rV 2)) (eC (.int 1))))))
 (aC (aS 6 (aE 2 lO (aA (aE 2 eU (aA (vV 0) (aA (vD (eSl dSl (rV 2) oNo (oSo (rV 5)))) aB))) (aA (aE 2 eU (aA (vV 0) (aA (vD (eSl dSl (rV 2) (oSo (rV 5)) oNo)) aB))) aB))))
 (aC (dG 7 (dI (aA (eA (vMt (aE 2 gG (aA (vV 0) (aA (vV 2) aB))) "says" [("LetBy",dO),("ShutOut",cV),("ForEver",cW)])) (aA (aJA 12 (vH0 1) (aA (eV 2) aB)) (aA (eA (aE 2 sQ (aA (vV 0) (aA (vV 6) aB)))) (aA (eA (aE 2 sQ (aA (vV 0) (aA (aE 2 eU (aA (vV 0) (aA (vV 2) aB))) aB)))) aB))))))
 (aC (dG 7 (e2 nP (rV 7) (eL (dI (aA (eA (aE 2 eP (aA (vD (w9 1 0)) (aA (vV 2) aB)))) (aA (eA (aE 2 eP (aA (vD (w9 1 1)) (aA (vV 2) aB)))) (aA (eA (aE 2 eO (aA (vD (w9 1 3)) (aA (vD (aNU (rV 2) (oSo (e1 dNeg (eC (.int 1)))))) aB)))) aB)))))))
 (aC (sIf (e1 asB (e2 dNe (rV 7) (eL (aI6 (dI (aA (eV 4) aB)) (eC (.int 7)))))) (aM (vD (eC (.bool false)))) sNx)
 (aM (vD (e2 dEq (eA (aE 2 eO (aA (vD (w9 1 2)) (aA (vV 2) aB)))) (e2 dIx (eL (dI (aA (eC (.str "out")) (aA (eC (.str "by")) aB)))) (e1 dInt (e2 dEq (rV 4) (eC (.str "by"))))))))))))))
def eW:L9 A->R A:=fnF 8 oR
def lwL:Sg->R Fw:=(aC (aS 6 (vD (e1 (d1 aDD) (eA (aE 2 bP (aA (vV 0) (aA (vV 5) aB)))))))
 (aC (aS 7 (vD (e2 dIx (eL (dI (aA (e2 dMod (e2 dDiv (rV 6) (eC (.int 8))) (eC (.int 6))) (aA (e2 dMod (e2 dDiv (rV 6) (eC (.int 8))) (eC (.int 31))) aB)))) (e1 dInt (e2 dEq (e2 dMod (rV 6) (eC (.int 8))) (eC (.int 0)))))))
 (sIf (wH (e1 asB (eA (aE 4 eW (aA (vV 1) (aA (vHV 4) (aA (aE 4 gV (aA (vV 0) (aA (vV 5) (aA (vV 7) (aA (vV 3) aB))))) (aA (vD (e2 dDiv (rV 6) (eC (.int 512)))) aB)))))))) (aM (vD (eC (.bool false)))) sNx)))
def aJB:Sg->R Fw:=(aC (qW (stT [(stN 1),(stN 2)]) (eA (aE 2 i8 (aA (vV 0) (aA (vD (eC (.int 0))) aB)))))
 (aC (aS 3 (vD (e1 dLen (e2 dIx (e2 dIx (rV 1) (eC (.int 0))) (eC (.int 1))))))
 (aC (aS 4 (vH (aE 1 tZ (aA (vV 1) aB)) (aA (eA (aE 1 fJ (aA (vV 1) aB))) (aA (eA (aE 1 lE (aA (vV 1) aB))) (aA (eA (aE 1 lF (aA (vV 1) aB))) (aA (eA (aE 1 iE (aA (vV 1) aB))) aB))))))
 (aC (kT (zQ (eC (.int 11)) (e2 (d2 zX) (eC (.int 20)) (e2 (d2 i4) (eC (.int 48)) (e1 dLen (rV 0))))) (stN 5) lwL)
 (aM (aE 4 eW (aA (vV 1) (aA (vHV 4) (aA (vD (eC (.str ""))) (aA (vD (eC (.int 0))) aB))))))))))
def aQB:L9 A->R A:=fnF 8 aJB
end _e
namespace _f
variable{X:Cx}{c:Ct}{E:XK}{e:Ez}{st:Stmt}{i:Nat}{N:L9 Str}{js:L9 (O9 Nat)}{scope:Scope}{tg elt:Ez}{ifs:L9 Ez}{fi:Sg->R (L9 D4)}{fs:D4->Sg->O9 Sg}{ft:Sg->R Bool}{fe:Sg->R D4}{is:L9 Nat}
def aQC(X:Cx)(c:Ct)(N:L9 Str)(scope:Scope)(tg elt:Ez)(ifs:L9 Ez)(fs:D4->Sg->O9 Sg)(ft:Sg->R Bool)(fe:Sg->R D4)(is:L9 Nat):Prop:=∀ (cl:L9 (Str×Az)) (C:Az) (s:S9) (H0:Hp) (fp:L9 Az),∃ g,Tg c g fs is/\PG (dZ X N scope cl C s H0 fp) tg g/\_a.PIf (dZ X N scope cl C s H0 fp) ifs (tTf c E0 ft)/\PD (dZ X N scope cl C s H0 fp) c E0 elt fe
def nm1:Ez->L9 Str
 | .Name x _=>[x]
 | _=>[]
def nm2:Ez->L9 Str
 | .Name x _=>[x]
 | .Tuple es _ _=>es.flatMap nm1
 | _=>[]
def oS(tg:Ez)(XN:L9 Str)(js:L9 (O9 Nat)):L9 Str:=(match tg with
 | .Name x _=>[x]
 | .Tuple es _ _=>es.flatMap nm2
 | _=>[])++js.filterMap λo=>o.map λj=>XN.getD j ""
theorem aY6{f:Ez}{pos:Pos}(h:Caps X scope (oS tg X.N js) js)(hi:PI X tg f (tI c E fi))(hb:(oS tg X.N js).Nodup->aQC X c (oS tg X.N js) scope tg elt ifs fs ft fe is)(k:decide (oS tg X.N js).Nodup=true)(l:js.Pairwise λa b=>a=none\/a≠b)(j:∀ i∈is,js[i]? = some none)
 (m:autoParam (X.calm=true) z3) (hok:autoParam (dJ scope.names X.env.kindOf=true) z3) (hkind:autoParam (scope.kind=.function) z3) (hs:∀ x,foldedSetIterable f X.env x=pure x:=by intro _;rfl) :
 PN X c E (.ListComp elt [⟨tg,f,ifs,0⟩] scope pos) (bK js fi fs ft fe):=aFT (aFB m h hok hi hkind hs) l j λa b c d e=>let ⟨g,q1,q2,q3⟩:=hb (BC k) a b c d e;⟨g,q2,q1,q3⟩
theorem aY7{f:Ez}{pos h:Pos}(j:Caps X scope (oS tg X.N js) js)(hi:PI X tg f (tI c E fi))(hb:(oS tg X.N js).Nodup->aQC X c (oS tg X.N js) scope tg elt ifs fs ft fe is)(m:decide (oS tg X.N js).Nodup=true)(n:js.Pairwise λa b=>a=none\/a≠b)(k:∀ i∈is,js[i]? = some none)
 (nd:X.N.Nodup) (hx:Loc X.env.scope x) (l:autoParam (X.N[i]? = some x) z3) (hsw:autoParam (swapsWith (.ListComp elt [⟨tg,f,ifs,0⟩] scope pos) (some (.Name x pos')) h.line X.env=pure true) z3)
 (hc:autoParam (X.calm=true) z3) (hok:autoParam (dJ scope.names X.env.kindOf=true) z3) (hkind:autoParam (scope.kind=.function) z3) (hf:X.fn x=true\/X.env.scope.names.lookup x=some .local:=by first|exact .inl rfl|exact .inr rfl|assumption) (hs:∀ x,foldedSetIterable f X.env x=pure x:=by intro _;rfl) :
 PSf X c E (.Assign [.Name x pos'] (.ListComp elt [⟨tg,f,ifs,0⟩] scope pos) h) (dG i (bK js fi fs ft fe)):=aRG (_a.xR nd l hx hsw hc j hok hi hkind hf hs) n k λa b c d e=>let ⟨g,q1,q2,q3⟩:=hb (BC m) a b c d e;⟨g,q2,q1,q3⟩
section
variable{P:P9}{w:W9}{K:Frag}{mg:Str->O9 V9}{base:Hz}{TH:Hp}{x:Str}{st:Stmt}{ps:L9 Str}{k:Nat}{fb:Sg->R Fw}
def HBd(P:P9)(w:W9)(K:Frag)(mg:Str->O9 V9)(base:Hz)(TH:Hp)(k:Nat)(x:Str)(st:Stmt)(N:L9 Str)(fb:Sg->R Fw):Prop:=∀ (f:Az) (cdv:V9) (A:U9) (outer:L9 Env) (s:S9) (H F:Hp) (E:XK),Room k (A.deeper (envOfC x (aF st) s.heap.objs.size f cdv))->N.Nodup->
 j7 ((fO (CXe P w) P w K mg base N x (aF st) f cdv A outer s H E).fly E) ⟨K,mg,w,F,H,gOf P w K mg base TH,(envOfC x (aF st) s.heap.objs.size f cdv).cells,λ_=>none⟩ E (bB st) fb
theorem aTZ(N:L9 Str)(D:DefAt K mg x st ps)(S:FnScope N ps (aF st))(a:HBd P w K mg base TH k x st N fb):cB P w K mg base TH (k+1) x ps (fnF N.length fb):=aVL D S λf b A outer s H F E hr=>a f b A outer s H F E hr S.nd
theorem aT0{fd:FuncData}(N:L9 Str)(c:Fun K x x st f fd)(S:FnScope N ps (aF st))(a:HBd P w K mg base TH k x st N fb):FnOk P w K mg base (CXe P w) (k+1) f fd ps (spF (gOf P w K mg base TH) K mg ps.length (fnF N.length fb)):=aVS c S λb A outer s H F E hr=>a f b A outer s H F E hr S.nd
end
theorem aXO{X:Cx}{c:Ct}{E:XK}{G:L9 A->R A}{w:W9}{base:Hz}{T:Hp}{ps:L9 Str}{e:Ez}{es:L9 Ez}{pos:Pos}{f:Sg->R (L9 A)}(C:cB P w K mg base T k x ps G)(hr:Room k X.A)(hx:fU (CXe P w) X E)(b:PAv X c E (e::es) f)
  (a:autoParam (ps.length=n) z3) (hg:autoParam (Gl X x) z3) (h1:autoParam (X.prog=P) z3) (h2:autoParam (X.w=w) z3) (h3:autoParam (X.K=K) z3) (h4:autoParam (X.mg=mg) z3) (h5:autoParam (X.base=base) z3) (hG:autoParam (gOf P w K mg base T=c.g) z3) (hK:autoParam (K=c.K) z3) (hM:autoParam (mg=c.mg) z3) (hdb:autoParam ((x == ("__debug__":Str))=false) z5)
  (he:autoParam (starEach (e::es) X.env=(false,eval e X.env)::starEach es X.env) z3) (hpl:autoParam ((backTo pos (starEach es X.env)).any (·.1)=false) z3):PV X c E (.Call (.Name x p) (e::es) [] pos) (aE n G f):=by
 subst h1 h2 h3 h4 h5 a
 exact qT hG hK hM (qG C hr hg hx b hdb he hpl)
end _f
set_option hygiene false
local macro_rules
| `(tactic| exists $t:term)=>`(tactic| (with_reducible show $t))
local macro_rules
| `(tactic| exists $h:term,$r:term)=>`(tactic| (with_reducible show(_:_->Prop) $h);refine $r<;>symm)
local macro_rules
| `(tactic| ac_rfl)=>`(tactic| first
 | exists PD _ _ _ _ (eV _);exact aKJ (pv _)
 | exists PD _ _ _ _ (eC _);first
  | exists PD _ _ _ _ (eC (.int _));apply pM
  | exists PD _ _ _ _ (eC (.str _));apply xW
  | exact(g9 (jE (v:=.str "abc") rfl T.g_SIGNS.choose_spec ⟨_,rfl⟩) λ_=>.str _)
  | exact(g9 (jE (v:=.int 200) rfl T.g_MOST_BEGINNINGS.choose_spec ⟨_,rfl⟩) λ_=>.int _)
  | exact(g9 (jE (v:=.int 60) rfl T.g_MOST_ROOMS.choose_spec ⟨_,rfl⟩) λ_=>.int _)
  | exact(g9 (jE (v:=.ref T.g_STOPS.choose) rfl T.g_STOPS.choose_spec.1 rfl) λF=>aDA T.g_STOPS.choose_spec.2 (by exact λF=>.cons (.str _) (.cons (.str _) (.nil))) F)
  | exact(g9 (jE (v:=.ref T.g_BEGIN.choose) rfl T.g_BEGIN.choose_spec.1 rfl) λF=>aDA T.g_BEGIN.choose_spec.2 (by exact λF=>.cons (.int _) (.cons (.int _) (.nil))) F)
  | exists PD _ _ _ _ (eC (.bool _));exact aX7
  | exact aVD
 | exists PD _ _ _ _ (e2 _ _ _);first
  | exists e2 dIx _ _,aB0 (aB1 rfl) qR ?_ ?_
  | exists e2 bJ _ _,nK (aFJ rfl) aA8 ?_ ?_
  | exists e2 dMod _ _,nK aRD aKP ?_ ?_
  | exists e2 dSub _ _,nK aRA aKM ?_ ?_
  | exists e2 dMul _ _,nK aRB aKN ?_ ?_
  | exists e2 dDiv _ _,nK aRC aKO ?_ ?_
  | exists e2 dEq _ _,nL (aC2 rfl hr.units) wF ?_ ?_ (fS _)
  | exists e2 dNe _ _,nL (aC3 rfl hr.units) wG ?_ ?_ (fS _)
  | exists e2 dGt _ _,nL aKL aC0 ?_ ?_ (fS _)
  | exists e2 dLt _ _,nL aKK aCZ ?_ ?_ (fS _)
  | exists e2 dIn _ _,nL (aKR rfl hr.units) aC1 ?_ ?_ (by with_unfolding_all rfl)
  | exists e2 dNin _ _,nL (aFK rfl hr.units) aA9 ?_ ?_ (by with_unfolding_all rfl)
  | exists PD _ _ _ _ (e2 iZ _ _);refine aNP (xN GT PySem.F.slot_str_index PySem.F.type_str_index aM6 ?_ (aT ?_ bI)) (by intro Y x h;cases h;exact⟨_,rfl⟩)<;>symm
  | exists e2 oK _ _,nK (aNV rfl) aH9 ?_ ?_
 | exists e1 dLen _,aKS rfl (j5 aCE rfl T.b_len PySem.boot_len (aT ?_ bI))
 | exists e1 dTup _,wI rfl (oA mP rfl T.b_tuple EF (aT ?_ bI))
 | exists e1 dInt _,aRF (oA aJQ rfl T.b_int boot_int (aT ?_ bI))
 | exists e1 (kU "str") _,aVN (j5 (aNO rfl (aRH _)) rfl T.b_isinstance PyProof.Rows.boot_isinstance (aT ?_ (aT (aQH (v:=.ty "str") rfl T.b_str boot_str rfl) bI)))
 | exists e1 dNeg _,aX8 aRE aKQ ?_
 | exists eA _,uM ?_
 | exists eL _,xX ?_
 | exists bH _,aVH ?_
 | exists oJ _ _,aRN rfl rfl (aRM hr.units (pv _) ?_ (λ_ _=>rfl))
 | exists eIf _ _ _,aX9 ?_ ?_ ?_
 | exists aI5 _ _,aMG rfl (xN EG GK PySem.F.type_list_index (aMF hr.units) ?_ (aT ?_ bI))
 | exists eSl dSl (eC _) _ _,aME ?_ ?_ ?_
 | exists eSl dSl _ _ _,aC8 rfl ?_ ?_ ?_)
local macro_rules
| `(tactic| and_intros)=>`(tactic| first
 | exists PTf _ _ _ _ (wH _);refine _f.rZ ?_;and_intros
 | exists mQ _ _,PW.pt ?_
 | exists bOr _ _,PW.pt ?_
 | exists e1 asB (kX true _ _),aKZ rfl rfl (zB (aNQ hr.units) ?_ (pv _) (by with_unfolding_all rfl))
 | exists e1 asB (kX false _ _),aKZ rfl rfl (zB (aRL hr.units) ?_ (pv _) (by with_unfolding_all rfl))
 | exists e1 asB (e2 dEq _ _),_f.iH (aC2 rfl hr.units) wF ?_ ?_ (fS _)
 | exists e1 asB (e2 dNe _ _),_f.iH (aC3 rfl hr.units) wG ?_ ?_ (fS _)
 | exists e1 asB (e2 dLt _ _),_f.iH aKK aCZ ?_ ?_ (fS _)
 | exists e1 asB (e2 dLe _ _),_f.iH aVE aNH ?_ ?_ (fS _)
 | exists e1 asB (e2 dGt _ _),_f.iH aKL aC0 ?_ ?_ (fS _)
 | exists e1 asB (e2 dGe _ _),_f.iH aVF aNI ?_ ?_ (fS _)
 | exists e1 asB (e2 dIs _ _),_f.iH aVG aNJ ?_ ?_ (fS _)
 | exists e1 asB (e2 dIsnt _ _),_f.iH aNK aH6 ?_ ?_ (fS _)
 | exists e1 asB (e2 dIn _ _),_f.iH (aKR rfl hr.units) aC1 ?_ ?_ (by with_unfolding_all rfl)
 | exists e1 asB (e2 dNin _ _),_f.iH (aFK rfl hr.units) aA9 ?_ ?_ (by with_unfolding_all rfl)
 | refine _f.rY ?_;ac_rfl)
local macro_rules
| `(tactic| symm)=>`(tactic| first
 | exists HBd _ _ _ _ _ _ _ _ _ _ _;intro _ _ _ _ _ _ _ _ hr nd;symm
 | exists FnScope _ _ _;constructor<;>first|rfl|decide +kernel
 | exists PD _ _ _ _ _;ac_rfl
 | exists PR _ _ _ _ _;first|exists PR _ _ _ _ (rV _);exact mH (pv _)|refine fV ?_;ac_rfl
 | exists PV _ _ _ _ _;first
  | exists PV _ _ _ _ (vV _);exact aVC (pv _)
  | exists PV _ _ _ _ (vD _);refine jI ?_;ac_rfl
  | exists vMt _ "says" _,aYV rfl rfl rfl (by assumption) (hr.mono (by decide)) (by first|exact aPN|exact jH λ_ _ _ h=>h) ?_
  | exists rN "LetBy" _ _,aEM rfl (by assumption) (hr.mono (by decide)) rfl ?_
  | exists rN "ShutOut" _ _,aEM rfl (by assumption) (hr.mono (by decide)) rfl ?_
  | exists rN "ForEver" _ _,aEM rfl (by assumption) (hr.mono (by decide)) rfl ?_
  | refine aXO (by with_reducible assumption) (hr.mono (by decide)) (by first|exact aPN|exact jH λ_ _ _ h=>h) ?_;symm
 | exists PTf _ _ _ _ _;and_intros
 | exists j7 _ _ _ _ _;first
  | apply _f.o7
  | apply _f.dQ;symm
  | apply _f.aX<;>symm
 | exists PSf _ _ _ _ _;first
  | exists aS _ _,_f.eZ (_a.eZ nd rfl (by first|exact .inl rfl|exact .inr rfl) ?_)
  | exists PSf _ _ _ _ (dG _ (bK _ _ _ _ _));first|exact aY7 (by symm) (by symm) (λnd _ _ _ _ _=>⟨_,by symm,by symm,by symm,by symm⟩) (by kernel_rfl) (by decide) (by decide) nd (by first|exact .inl rfl|exact .inr rfl)
  | exists dG _ _,uN (_a.eZ nd rfl (by first|exact .inl rfl|exact .inr rfl) ?_)
  | exists PSf _ _ _ _ (aM _);apply _f.iU;symm
  | exists PSf _ _ _ _ wM;exact _f.aVU
  | exists uT _ _ _,aSA rfl rfl (_a.jF (aV0 PySem.F.plainAttrs_dict DQ PySem.F.type_dict_setdefault (aWB hr.units) (pv _) (aT ?_ (aT ?_ bI))))
  | exists PSf _ _ _ _ (sIf _ _ _);apply _f.xI<;>symm
  | exists iY _ _,aVI rfl (_a.jF (xN EG GD GE aA3 (pv _) (aT ?_ bI)))
  | exists PSf _ _ _ _ (kT _ _ _);exact _f.jR (by symm) (_a.jR (lJ ⟨rfl,rfl⟩) rfl (by symm) (by symm) (by symm))
  | exists aW _ _,_f.nC (_a.nC (lJ ⟨rfl,rfl⟩) ?_ ?_)
  | exists PSf _ _ _ _ (qW _ _);exact aVO (by symm) (aJK (by symm) (by symm))
  | exists sFz _ _,aPS _ ?_
  | exists PSf _ _ _ _ (jZ _ _ _);exact _f.aRO rfl rfl (aJK (by symm) (aUK (pv _) (by symm) (aNS hr.units)))
  | exists PSf _ _ _ _ (kW _);exact aRK rfl (_a.eZ nd rfl (by first|exact .inl rfl|exact .inr rfl) aRJ)
  | exists uO _,_f.jF (_a.jF ?_)
  | exists PSf _ _ _ _ (x9 _ _);exact aRY rfl rfl (_a.eZ nd rfl (by first|exact .inl rfl|exact .inr rfl) (aRW hr.units (by symm)))
  | apply _f.iU;symm
 | exists PAv _ _ _ _ _;first
  | exists PAv _ _ _ _ aB;exact aFM
  | refine gD ?_ ?_<;>symm
 | exists PAd _ _ _ _ _;first
  | exists PAd _ _ _ _ aB;exact aFL
  | refine lM ?_ ?_<;>symm
 | exists PN _ _ _ _ _;first
  | exists dI _,aC4 ?_
  | exists e2 nP _ _,aK1 rfl ?_ ?_
  | exists PN _ _ _ _ (bK _ _ _ _ _);first|exact aY6 (by symm) (by symm) (λnd _ _ _ _ _=>⟨_,by symm,by symm,by symm,by symm⟩) (by kernel_rfl) (by decide) (by decide)
 | exists PPf _ _ _ _ _ _;first
  | apply aRX
  | apply aNX<;>symm
 | exists Caps _ _ _ _;constructor<;>first|rfl|exact .inl rfl|exact .inr rfl|symm
 | exists _a.PIf _ _ _;first
  | apply _f.pA
 | exists Tg _ _ _ _;first
  | exists Tg _ _ (stN _) _;exact m7 _
  | exact aKV rfl (by symm) rfl
 | exists Tgs _ _ _ _;first
  | exists Tgs _ _ [] _;exact aFN
  | exact wJ (by symm) (by symm)
 | exists PG _ _ _;first
  | exists PG _ (.Name _ _) _;exact o8 (by first|exact nd|decide +kernel) rfl (by first|exact .inl rfl|exact .inr rfl)
  | exact aJJ rfl (by symm)
 | exists PGs _ _ _;first
  | exists PGs _ [] _;exact aE7
  | exact v7 (by symm) (by symm)
 | exists PWf _ _ _ _ _;first
  | apply _f.uC;and_intros
  | apply _f.aCA;and_intros
  | apply _f.xG<;>symm
  | apply _f.aHA<;>symm
 | exists PO _ _ _;first
  | apply aPU
  | apply aPV;symm
 | exists PI0 _ _ _ _ _ _;first
  | exists PI0 _ _ _ _ _ (e1 aP _);refine aVJ rfl ?_;symm
  | exists PI0 _ _ _ _ _ (e1 uU _);exact aSD rfl (_a.aSB rfl T.b_enumerate (aT (by symm) bI))
  | exists PI0 _ _ _ _ _ (e2 mR _ _);exact aF9 rfl (_a.aDS rfl T.b_zip (aT (by symm) (aT (by symm) bI)))
  | exists PI0 _ _ _ _ _ (dR _);refine aFR (aAW rfl T.b_range (aT ?_ bI));symm
  | refine aFS (aAX rfl T.b_range (aT ?_ (aT ?_ bI)))<;>symm
 | exists _f.PIf _ _ _ _ _ _;first
  | exists _f.PIf _ _ _ _ _ (e1 aP _);refine aVK rfl ?_;symm
  | exists _f.PIf _ _ _ _ _ (e2 mR _ _);exact aR8 rfl (_a.aDS rfl T.b_zip (aT (by symm) (aT (by symm) bI)))
  | refine aPT ?_;symm
 )
set_option hygiene true
namespace _e
open _f
def top(i:Nat):Stmt:=PySem.Challenge.pw_striproam_k43_whole_all_roads.main.body.getD i (.Pass ⟨0,0,0,0⟩)
inductive AllD(K:Frag)(mg:Str->Option V9):List (Str×Nat×List Str)->Prop
 | nil:AllD K mg []
 | cons {x:Str} {i:Nat} {ps:List Str} {r:List (Str×Nat×List Str)}:DefAt K mg x (top i) ps->AllD K mg r->AllD K mg ((x,i,ps)::r)
theorem stA{w:W9}{base:Hz}{TH:Hp}{ps e:L9 Str}{r:L9 (Str×Nat×L9 Str)}{fb:Sg->R Fw}{a:FuncData}(G:L9 A->R A)(k:Nat)(N:L9 Str)(D:AllD K mg ((x,i,ps)::r))(h:cB P w K mg base TH (k+1) x ps G->AllD K mg r->FnOk P w K mg base (CXe P w) c b a e (x8 K TH))
  (S:FnScope N ps (aF (top i)):=by symm) (hG:autoParam (G=fnF N.length fb) z3) (hb:HBd P w K mg base TH k x (top i) N fb:=by symm):FnOk P w K mg base (CXe P w) c b a e (x8 K TH):=by
 cases D with
 | cons d r=>exact h (hG▸aTZ N d S hb) r
def dA:ClSt:=clS "one_way.<locals>.after" ((bB (top 23)).getD 1 (.Pass ⟨0,0,0,0⟩))
def f9:Pos:=aN1 ((bB (top 23)).getD 1 (.Pass ⟨0,0,0,0⟩))
def gA:ClSt:=clE "one_way.<locals>.<lambda>" (aV6 (aV5 ((bB (top 23)).getD 2 (.Pass ⟨0,0,0,0⟩))) 2)
def gH:Pos:=aZS (aV6 (aV5 ((bB (top 23)).getD 2 (.Pass ⟨0,0,0,0⟩))) 2)
def eJ:ClSt:=clS "least.<locals>.after" ((bB (top 48)).getD 1 (.Pass ⟨0,0,0,0⟩))
def iF:Pos:=aN1 ((bB (top 48)).getD 1 (.Pass ⟨0,0,0,0⟩))
def dB:ClSt:=clS "sayer.<locals>.word_of" ((bB (top 64)).getD 0 (.Pass ⟨0,0,0,0⟩))
def gC:Pos:=aN1 ((bB (top 64)).getD 0 (.Pass ⟨0,0,0,0⟩))
def qsT:L9 (Pos×Str):=[(f9,("one_way.<locals>.after":Str)),(gH,("one_way.<locals>.<lambda>":Str)),(iF,("least.<locals>.after":Str)),(gC,("sayer.<locals>.word_of":Str))]
structure Txt(w:World)(K:Frag)(mg:Str->Option V9):Prop where
 b_abs:mg "abs"=none
 b_bool:mg "bool"=none
 b_enumerate:mg "enumerate"=none
 b_int:mg "int"=none
 b_isinstance:mg "isinstance"=none
 b_len:mg "len"=none
 b_max:mg "max"=none
 b_min:mg "min"=none
 b_range:mg "range"=none
 b_str:mg "str"=none
 b_tuple:mg "tuple"=none
 b_zip:mg "zip"=none
 g_BEGIN:∃ a,mg "BEGIN"=some (.ref a)/\qH K a [.int 0,.int 0]
 g_MOST_BEGINNINGS:∃ t,mg "MOST_BEGINNINGS"=some (.int 200 t)
 g_MOST_ROOMS:∃ t,mg "MOST_ROOMS"=some (.int 60 t)
 g_SIGNS:∃ t,mg "SIGNS"=some (.str "abc" t)
 g_STOPS:∃ a,mg "STOPS"=some (.ref a)/\qH K a [.str "by",.str "out"]
section
variable{P:P9}{w:W9}{K:Frag}{mg:Str->O9 V9}{base:Hz}{TH:Hp}
theorem rW:FnScope ["self"] ["self"] (aF (a5 (top 57) 1)):=by constructor<;>first|rfl|decide +kernel
theorem aAT(T:Txt w K mg){fd:FuncData}(b:Fun K "says" "LetBy.says" (a5 (top 57) 1) f fd):FnOk P w K mg base (CXe P w) 1 f fd ["self"] (spF (gOf P w K mg base TH) K mg 1 dO):=
 @aAR P w K mg base TH "says" "LetBy.says" (a5 (top 57) 1) ["self"] ["self"] 0 f fd tS b rW (λa A outer s H F E hr=>by
  have nd:=rW.nd
  exact(_f.dQ (_f.iU (jI xW))))
theorem oU:FnScope ["self"] ["self"] (aF (a5 (top 58) 1)):=⟨rfl,rfl,rfl,by ext,rfl,by decide +kernel,by decide +kernel⟩
theorem xA(T:Txt w K mg){fd:FuncData}(b:Fun K "says" "ShutOut.says" (a5 (top 58) 1) f fd):FnOk P w K mg base (CXe P w) 1 f fd ["self"] (spF (gOf P w K mg base TH) K mg 1 cV):=
 @aAR P w K mg base TH "says" "ShutOut.says" (a5 (top 58) 1) ["self"] ["self"] 0 f fd qB b oU (λa A outer s H F E hr=>by
  have nd:=oU.nd
  exact(_f.dQ (_f.iU (jI xW))))
theorem oV:FnScope ["self"] ["self"] (aF (a5 (top 59) 1)):=⟨rfl,rfl,rfl,by ext,rfl,by decide +kernel,by decide +kernel⟩
theorem xB(T:Txt w K mg){fd:FuncData}(b:Fun K "says" "ForEver.says" (a5 (top 59) 1) f fd):FnOk P w K mg base (CXe P w) 1 f fd ["self"] (spF (gOf P w K mg base TH) K mg 1 cW):=
 @aAR P w K mg base TH "says" "ForEver.says" (a5 (top 59) 1) ["self"] ["self"] 0 f fd qC b oV (λa A outer s H F E hr=>by
  have nd:=oV.nd
  exact(_f.dQ (_f.iU (jI xW))))
end
section
variable{P:P9}{w:W9}{K:Frag}{mg:Str->O9 V9}{base:Hz}{TH:Hp}
end
section
variable{P:P9}{w:W9}{K:Frag}{mg:Str->O9 V9}{base:Hz}{TH:Hp}
theorem gI:CloScope ["begun","columns"] ["begun"] ["columns"] dA.scope:=⟨rfl,rfl,rfl,by decide +kernel,rfl,by decide +kernel,by decide +kernel,by decide +kernel,by decide +kernel⟩
theorem vE:∀ y∈dA.scope.names,y.2=.free->(aF (top 23)).names.lookup y.1=some .cell\/(aF (top 23)).names.lookup y.1=some .free:=by decide +kernel
theorem t4:(f9,("one_way.<locals>.after":Str))∈qsT:=(.head _)
theorem vF:∀ p∈qsT,p.1.line=f9.line->p.1.col=f9.col->p.2=("one_way.<locals>.after":Str):=by decide +kernel
theorem t5(T:Txt w K mg)(a:cB P w K mg base TH 3 "longer" ["begun","cells"] gE):CloOk P w K mg base TH dA ["columns"] 4 1 (eX 2 f8):=
 @aDM P w K mg base TH dA ["begun","columns"] ["begun"] ["columns"] 3 _ f8 rfl gI (λ_ _ _ _ _=>_e.bn1 λ_=>rfl) (λf b cl A outer s H F E c hr=>by
  have nd:=gI.nd
  symm)
theorem iG:CloScope ["found","at"] ["found","at"] [] gA.scope:=⟨rfl,rfl,rfl,by decide +kernel,rfl,by decide +kernel,by simp,by decide +kernel,by simp⟩
theorem xC:∀ y∈gA.scope.names,y.2=.free->(aF (top 23)).names.lookup y.1=some .cell\/(aF (top 23)).names.lookup y.1=some .free:=by decide +kernel
theorem vG:(gH,("one_way.<locals>.<lambda>":Str))∈qsT:=(.tail _ (.head _))
theorem xD:∀ p∈qsT,p.1.line=gH.line->p.1.col=gH.col->p.2=("one_way.<locals>.<lambda>":Str):=by decide +kernel
theorem vI(T:Txt w K mg):CloOk P w K mg base TH gA [] 1 2 (eX 2 jQ):=
 @aV3 P w K mg base TH gA ["found","at"] ["found","at"] [] 0 _ (e2 dGt (e1 dLen (rV 0)) (eC (.int 200))) rfl iG (λ_ _ _ _ _=>_e.bn2 λ_ _=>rfl) (λf b cl A outer s H F E a hr=>by
  have nd:=iG.nd
  symm)
theorem y3:FnScope ["machine","columns","after","search","found"] ["machine"] (aF (top 23)):=by constructor<;>first|rfl|decide +kernel
theorem aJC(T:Txt w K mg)(D:DefAtT K mg base TH qsT "one_way" (top 23) ["machine"])(e:cB P w K mg base TH 1 "signs_of" ["machine"] c7)(g:cB P w K mg base TH 1 "cells_of" ["machine","number"] hR)(c:cB P w K mg base TH 3 "longer" ["begun","cells"] gE)(a:cB P w K mg base TH 13 "reached" ["begin","after","done"] fF)(b:cB P w K mg base TH 1 "without_signs" ["machine"] fW)(d:cB P w K mg base TH 2 "word_behind" ["machine","begun"] dS):cB P w K mg base TH 14 "one_way" ["machine"] fJ:=
 @aF3 P w K mg base TH "one_way" (top 23) ["machine","columns","after","search","found"] ["machine"] 13 qsT (λq=>[(("one_way.<locals>.after":Str),dA)].lookup q) o4 D y3 (λf c0 P0 A outer s H F E l k hr=>by
  have nd:=y3.nd
  exact(_f.aX (by symm) (_f.aX (z7 (S:=dA) rfl rfl k (_a.aCP rfl l rfl t4 vF vE rfl rfl rfl nd rfl (Or.inl rfl))) (_f.aX (aPS 1 (_f.eZ (_a.eZ (i:=3) nd rfl (Or.inl rfl) (aK3 (js:=[1]) rfl rfl rfl rfl rfl rfl rfl (z8 ⟨_,rfl,rfl,rfl⟩ aK5) (_a.aKF a (hr.mono (by decide)) rfl (jH λ_ _ _ h=>h) (lN (aIE (by symm)) (lN (aF1 (S:=dA) rfl (t5 T c) (λy j=>gI.only (y,.free) j rfl) (λy j=>BH (gI.cap y j)) rfl (by decide) (pv 2)) (lN (aV4 (S:=gA) rfl k (vI T ) (λy j=>iG.only (y,.free) j rfl) (λy j=>BH (iG.cap y j)) rfl (by decide) (_a.aU7 rfl l rfl vG xD xC rfl)) aF2)))))))) (by symm)))))
end
section
variable{P:P9}{w:W9}{K:Frag}{mg:Str->O9 V9}{base:Hz}{TH:Hp}
end
section
variable{P:P9}{w:W9}{K:Frag}{mg:Str->O9 V9}{base:Hz}{TH:Hp}
end
section
variable{P:P9}{w:W9}{K:Frag}{mg:Str->O9 V9}{base:Hz}{TH:Hp}
end
section
variable{P:P9}{w:W9}{K:Frag}{mg:Str->O9 V9}{base:Hz}{TH:Hp}
theorem iT:CloScope ["room","likes","reader"] ["room"] ["likes","reader"] eJ.scope:=⟨rfl,rfl,rfl,by decide +kernel,rfl,by decide +kernel,by decide +kernel,by decide +kernel,by decide +kernel⟩
theorem y4:∀ y∈eJ.scope.names,y.2=.free->(aF (top 48)).names.lookup y.1=some .cell\/(aF (top 48)).names.lookup y.1=some .free:=by decide +kernel
theorem xE:(iF,("least.<locals>.after":Str))∈qsT:=(.tail _ (.tail _ (.head _)))
theorem y6:∀ p∈qsT,p.1.line=iF.line->p.1.col=iF.col->p.2=("least.<locals>.after":Str):=by decide +kernel
theorem xF(T:Txt w K mg)(a:cB P w K mg base TH 1 "behind_signs" ["likes","row"] cD):CloOk P w K mg base TH eJ ["likes","reader"] 2 1 (eX 3 eE):=
 @aDM P w K mg base TH eJ ["room","likes","reader"] ["room"] ["likes","reader"] 1 _ eE rfl iT (λ_ _ _ _ _=>_e.bn1 λ_=>rfl) (λf b cl A outer s H F E c hr=>by
  have nd:=iT.nd
  symm)
theorem aEU:FnScope ["reader","likes","after","search"] ["reader"] (aF (top 48)):=by constructor<;>first|rfl|decide +kernel
theorem aO6(T:Txt w K mg)(D:DefAtT K mg base TH qsT "least" (top 48) ["reader"])(d:cB P w K mg base TH 3 "alike_rooms" ["reader"] dU)(a:cB P w K mg base TH 1 "behind_signs" ["likes","row"] cD)(b:cB P w K mg base TH 13 "reached" ["begin","after","done"] fF)(c:cB P w K mg base TH 1 "never" ["found","at"] kN):cB P w K mg base TH 14 "least" ["reader"] m8:=
 @aF3 P w K mg base TH "least" (top 48) ["reader","likes","after","search"] ["reader"] 13 qsT (λq=>[(("least.<locals>.after":Str),eJ)].lookup q) aAB D aEU (λf c0 P0 A outer s H F E g e hr=>by
  have nd:=aEU.nd
  exact(_f.aX (by symm) (_f.aX (z7 (S:=eJ) rfl rfl e (_a.aCP rfl g rfl xE y6 y4 rfl rfl rfl nd rfl (Or.inl rfl))) (_f.aX (_f.eZ (_a.eZ (i:=3) nd rfl (Or.inl rfl) (aK3 (js:=[1,0]) rfl rfl rfl rfl rfl rfl rfl (z8 ⟨_,rfl,rfl,rfl⟩ (z8 ⟨_,rfl,rfl,rfl⟩ aK5)) (_a.aKF b (hr.mono (by decide)) rfl (jH λ_ _ _ h=>h) (lN (aIE (by symm)) (lN (aF1 (S:=eJ) rfl (xF T a) (λy j=>iT.only (y,.free) j rfl) (λy j=>BH (iT.cap y j)) rfl (by decide) (pv 2)) (lN (aIE (aR5 (k:=1) (x:="never") (ps:=["found","at"]) (G:=kN) rfl c rfl)) aF2))))))) (by symm)))))
end
section
variable{P:P9}{w:W9}{K:Frag}{mg:Str->O9 V9}{base:Hz}{TH:Hp}
theorem gJ:CloScope ["strip","machine"] ["strip"] ["machine"] dB.scope:=⟨rfl,rfl,rfl,by decide +kernel,rfl,by decide +kernel,by decide +kernel,by decide +kernel,by decide +kernel⟩
theorem vJ:∀ y∈dB.scope.names,y.2=.free->(aF (top 64)).names.lookup y.1=some .cell\/(aF (top 64)).names.lookup y.1=some .free:=by decide +kernel
theorem t6:(gC,("sayer.<locals>.word_of":Str))∈qsT:=(.tail _ (.tail _ (.tail _ (.head _))))
theorem vK:∀ p∈qsT,p.1.line=gC.line->p.1.col=gC.col->p.2=("sayer.<locals>.word_of":Str):=by decide +kernel
theorem t7(T:Txt w K mg)(a:cB P w K mg base TH 4 "walk" ["machine","strip"] gG)(mt_says:∀ p∈[(("LetBy":Str),dO),(("ShutOut":Str),cV),(("ForEver":Str),cW)],aEN P w K mg base TH 1 p.1 "says" p.2):CloOk P w K mg base TH dB ["machine"] 5 1 (eX 2 cN):=
 @aDM P w K mg base TH dB ["strip","machine"] ["strip"] ["machine"] 4 _ cN rfl gJ (λ_ _ _ _ _=>_e.bn1 λ_=>rfl) (λf b cl A outer s H F E c hr=>by
  have nd:=gJ.nd
  symm)
theorem aEV:FnScope ["machine","word_of"] ["machine"] (aF (top 64)):=by constructor<;>first|rfl|decide +kernel
theorem aO7(T:Txt w K mg)(D:DefAtT K mg base TH qsT "sayer" (top 64) ["machine"])(a:cB P w K mg base TH 4 "walk" ["machine","strip"] gG)(mt_says:∀ p∈[(("LetBy":Str),dO),(("ShutOut":Str),cV),(("ForEver":Str),cW)],aEN P w K mg base TH 1 p.1 "says" p.2):cB P w K mg base TH 1 "sayer" ["machine"] tZ:=
 @aTW P w K mg base TH "sayer" (top 64) _ _ _ ["machine","word_of"] ["machine"] 0 5 1 1 "sayer.<locals>.word_of" qsT (λq=>[(("sayer.<locals>.word_of":Str),dB)].lookup q) dB ["machine"] [0] (eX 2 cN) D aEV rfl rfl (t7 T a mt_says) (λy d=>gJ.only (y,.free) d rfl) (λy d=>BH (gJ.cap y d)) rfl (by decide) (by decide) (by decide) (by decide +kernel) (λf c0 P0 A outer s H F E b c hr=>by
  have nd:=aEV.nd
  exact⟨pv 1,(z7 (S:=dB) rfl rfl c (_a.aCP rfl b rfl t6 vK vJ rfl rfl rfl nd rfl (Or.inl rfl)))⟩)
end
section
variable{P:P9}{w:W9}{K:Frag}{mg:Str->O9 V9}{base:Hz}{TH:Hp}
end
section
variable{P:P9}{w:W9}{K:Frag}{mg:Str->O9 V9}{base:Hz}{TH:Hp}
end
section
variable{P:P9}{w:W9}{K:Frag}{mg:Str->O9 V9}{base:Hz}{TH:Hp}
end
end _e
namespace _e
section
variable{rs:L9 Rw}{sg:Nat}{x y z:L9 Nat}
theorem emb_x(M:Mach rs sg)(S:aH sg x)(s s':Int×Int)(V:bM rs x s)(h:lSt rs x s=some (.inl s')):lSt rs (x++y) (s.1+((0:Nat):Int),s.2)=some (.inl (s'.1+((0:Nat):Int),s'.2))/\bM rs x s':=
 aIU M S (by simp) (λk a=>by rw[GB,AK,BF a,<-List.getD_eq_getElem?_getD]) s s' V h
theorem emb_y(M:Mach rs sg)(S:aH sg y)(s s':Int×Int)(V:bM rs y s)(h:lSt rs y s=some (.inl s')):lSt rs (x++y) (s.1+(x.length:Int),s.2)=some (.inl (s'.1+(x.length:Int),s'.2))/\bM rs y s':=
 aIU M S (by simp) (λk a=>by simp_all) s s' V h
def gP(x:L9 Nat)(t:Int×Int):Int×Int:=if t.1=1 then(1+(x.length:Int),t.2)else((x.length:Int)+((0:Nat):Int),t.2)
theorem aT1(M:Mach rs sg)(Sx:aH sg x)(Sy:aH sg y)(S:aH sg (x++y)){t:Int×Int}(P:eK rs.length t){o:Int×Int}(h:Ex (lSt rs (x++y)) N (gP x t) o):∃ t',eK rs.length t'/\(if t.1=1 then(b9 rs y).at 1 t.2 else(b9 rs x).at (-1) t.2)=some t'/\((t'.1 = -t.1/\∃ N',N' < N/\Ex (lSt rs (x++y)) N' (gP x t') o)\/(t'.1=t.1/\o=t')):=by
 obtain⟨w,q⟩:=t
 have a:=P
 have n:((x++y).length)=x.length+(y.length:Int):=by simp
 rcases a.1 with rfl|rfl
 .have V:bM rs y _:=⟨by simp,by ext,a.2.1,a.2.2⟩
  obtain⟨k,s',t',N',l,j,g,m,b⟩:=aAH (emb_y M Sy) (λs d=>tG M Sy d) V h
  have f:(b9 rs y).at 1 q=some t':=by rw[nA 1 a.2.1 a.2.2];exact fZ l
  rw[AJ rfl,f]
  refine⟨t',?_⟩
  rcases l_cases M Sy g with ⟨i,e⟩|⟨i,e⟩|⟨_,_,e,_⟩<;>rw[e]at j<;>cases j
  .refine ⟨⟨.inr rfl,g.2.2⟩,rfl,.inl ⟨rfl,N',?_,?_⟩⟩
   .cases l with
    | out z=>
     rcases l_cases M Sy V with ⟨_,c⟩|⟨_,c⟩|⟨_,_,c,_⟩<;>simp_all
    | go=>ext
   .rw[i,GY]at b;exact b
  .refine ⟨⟨.inl rfl,g.2.2⟩,rfl,.inr ⟨rfl,?_⟩⟩
   have c:lSt rs (x++y) (s'.1+x.length,s'.2)=some (.inr (1,s'.2)):=by
    unfold lSt
    ext
   exact(b.det (.out c)).2
 .have V:bM rs x (x.length,q):=⟨by show(0:Int)<=x.length;ext,by show(x.length:Int)<=_;ext,a.2.1,a.2.2⟩
  obtain⟨k,s',t',N',l,j,g,m,b⟩:=aAH (emb_x (y:=y) M Sx) (λs d=>tG M Sx d) V h
  have f:(b9 rs x).at (-1) q=some t':=by rw[nA (-1) a.2.1 a.2.2];exact fZ l
  rw[AL (show ¬ (-1:Int)=1 by decide),f]
  refine⟨t',?_⟩
  rcases l_cases M Sx g with ⟨i,e⟩|⟨i,e⟩|⟨_,_,e,_⟩<;>rw[e]at j<;>cases j
  .refine ⟨⟨.inr rfl,g.2.2⟩,rfl,.inr ⟨rfl,?_⟩⟩
   have c:lSt rs (x++y) (s'.1+((0:Nat):Int),s'.2)=some (.inr (-1,s'.2)):=by
    unfold lSt
    rw[AJ (by show s'.1+((0:Nat):Int)<=0;ext)]
   exact(b.det (.out c)).2
  .refine ⟨⟨.inl rfl,g.2.2⟩,rfl,.inl ⟨rfl,N',?_,?_⟩⟩
   .cases l with
    | out z=>
     rcases l_cases M Sx V with ⟨_,c⟩|⟨c0,c⟩|⟨_,_,c,_⟩
     · rw [c]at z; cases z
     · exact absurd c0 (show ¬ (x.length : Int) = (x.length : Int) + 1 by ext)
     · rw [c]at z; cases z
    | go=>ext
   .rw[i,show(x.length:Int)+1+((0:Nat):Int)=1+(x.length:Int)by ext]at b;exact b
theorem side_out(M:Mach rs sg)(Sx:aH sg x)(Sy:aH sg y){t t':Int×Int}(P:eK rs.length t)(h:(if t.1=1 then(b9 rs y).at 1 t.2 else(b9 rs x).at (-1) t.2)=some t'):eK rs.length t'/\((t'.1 = -t.1/\∃ k,Rc (lSt rs (x++y)) k (gP x t) (gP x t'))\/(t'.1=t.1/\∃ k,Ex (lSt rs (x++y)) k (gP x t) t')):=by
 obtain⟨w,q⟩:=t
 obtain⟨b,p2⟩:=P
 have d:((x++y).length)=x.length+y.length:=by simp
 rcases b with rfl|rfl
 .rw[nA 1 p2.1 p2.2]at h
  obtain⟨k,h⟩:=cM h
  obtain⟨s',r,c,v⟩:=tF (emb_y (x:=x) M Sy) ((⟨by simp,by show 1<=_;ext,p2.1,p2.2⟩)) h
  rcases l_cases M Sy v with ⟨a,e⟩|⟨a,e⟩|⟨_,_,e,_⟩<;>rw[e]at c<;>cases c
  .rw[a,GY 0]at r
   exact⟨⟨.inr rfl,v.2.2⟩,.inl ⟨rfl,k,r⟩⟩
  .refine ⟨⟨.inl rfl,v.2.2⟩,.inr ⟨rfl,0+k,r.to (.out ?_)⟩⟩
   unfold lSt
   ext
 .rw[nA (-1) p2.1 p2.2]at h
  obtain⟨k,h⟩:=cM h
  obtain⟨s',r,c,v⟩:=tF (emb_x (y:=y) M Sx) (show bM rs x (x.length,q)from⟨by simp,by show(x.length:Int)<=_;ext,p2.1,p2.2⟩) h
  rcases l_cases M Sx v with ⟨a,e⟩|⟨a,e⟩|⟨_,_,e,_⟩<;>rw[e]at c<;>cases c
  .refine ⟨⟨.inr rfl,v.2.2⟩,.inr ⟨rfl,0+k,r.to (.out ?_)⟩⟩
   unfold lSt
   simp_all
  .rw[a,show x.length+1+((0:Nat))=1+(x.length:Int)by ext]at r
   exact⟨⟨.inl rfl,v.2.2⟩,.inl ⟨rfl,k,r⟩⟩
theorem aG7(M:Mach rs sg)(Sx:aH sg x)(Sy:aH sg y)(S:aH sg (x++y)){t:Int×Int}(P:eK rs.length t):aR (jT (b9 rs x) (b9 rs y)) t=aR (lSt rs (x++y)) (gP x t):=by
 refine vO λo=>⟨?_,?_⟩
 .rintro ⟨n,h⟩
  induction h with
  | @out t o h=>
   unfold jT at h
   cases e:(if t.1=1 then(b9 rs y).at 1 t.2 else(b9 rs x).at (-1) t.2)with
   | none=>rw[e]at h;cases h
   | some d=>
    rw[e]at h
    rcases(side_out M Sx Sy P e).2 with ⟨a,_⟩|⟨a,b⟩
    .obtain ⟨i,p⟩:=d
     rw[show i = -t.1 from a]at h
     simp at h
    .have i:=d
     simp only at h
     split at h
     .cases h
     .cases h;exact b
  | @go t t1 o n h _ ih=>
   unfold jT at h
   cases e:(if t.1=1 then(b9 rs y).at 1 t.2 else(b9 rs x).at (-1) t.2)with
   | none=>rw[e]at h;cases h
   | some d=>
    rw[e]at h
    simp only at h
    split at h
    .rename_i q
     cases h
     obtain⟨N,g⟩:=ih (side_out M Sx Sy P e).1
     rcases(side_out M Sx Sy P e).2 with ⟨_,k,r⟩|⟨a,_⟩
     .exact ⟨_,r.to g⟩
     .have:=P.1
      have a:d.1=t.1:=a
      ext
    .cases h
 .rintro ⟨N,h⟩
  induction N using Nat.strongRecOn generalizing t with
  | ind N ih=>
   obtain⟨d,f⟩:=aT1 M Sx Sy S P h
   have c:jT (b9 rs x) (b9 rs y) t=if d.1 = -t.1 then some (.inl d)else some (.inr d):=by unfold jT;rw[f.2.1]
   rcases f.2.2 with ⟨a,l,g,h'⟩|⟨a,rfl⟩
   .rw[AJ a]at c
    obtain⟨j,m⟩:=ih l g f.1 h'
    exact⟨_,.go c m⟩
   .rw[AL (by have:=P.1;ext)]at c
    exact⟨0,.out c⟩
end
section
variable{rs:L9 Rw}{sg:Nat}{x y z:L9 Nat}
theorem seg_res{T O P:Type}{st:S->O9 (S⊕O)}{st2:T->O9 (T⊕P)}{e:S->T}{Dom:S->Prop}(h:∀ s s',Dom s->st s=some (.inl s')->st2 (e s)=some (.inl (e s'))/\Dom s')(b:∀ s,Dom s->st s≠none){s:S}(d:Dom s):(aR st s=none/\aR st2 (e s)=none)\/∃ s' t,aR st s=some t/\st s'=some (.inr t)/\Dom s'/\aR st2 (e s)=aR st2 (e s'):=by
 cases q:aR st s with
 | none=>
  refine .inl ⟨rfl,?_⟩
  cases c:aR st2 _ with
  | none=>rfl
  | some o=>
   obtain⟨N,h2⟩:=cM c
   obtain⟨k,s',t,f,a⟩:=aAH h b d h2
   rw[fZ a.1]at q;ext
 | some t=>
  obtain⟨k,h2⟩:=cM q
  obtain⟨s',r⟩:=tF h d h2
  exact .inr ⟨s',t,rfl,r.2.1,r.2.2,wZ r.1⟩
theorem t8(a b:Tb)(d q w:Int):lZ a b (some (d,q)) w=if d=w then aR (jT a b) (d,q)else some (d,q):=rfl
def aJD(a b:Tb):Tb:=⟨a.f.map λth=>lZ a b th 1,b.a.map λth=>lZ a b th (-1)⟩
theorem aMJ(M:Mach rs sg)(Sx:aH sg x)(Sy:aH sg y)(S:aH sg (x++y)):aJD (b9 rs x) (b9 rs y)=b9 rs (x++y):=by
 have j:((x++y).length)=y.length+(x.length:Int):=by ext
 have f:∀ q:Nat,q < rs.length->lZ _ _ (aR (lSt rs x) _) 1=aR (lSt rs (x++y)) _:=λq i=>by
  rcases seg_res (emb_x M Sx) (λs d=>tG M Sx d) (s:=(1,q)) ⟨by simp,by ext,by simp,by simp_all⟩with ⟨a,b⟩|⟨s',t,a,c,v,b⟩
  .rw[a];exact b.symm
  .refine Eq.trans ?_ b.symm
   rw[a]
   rcases l_cases M Sx v with ⟨h,e⟩|⟨h,e⟩|⟨_,_,e,_⟩<;>rw[e]at c<;>cases c
   .rw[h,resOf_out rfl]
    rfl
   .rw[h,show x.length+1+((0:Nat))=1+(x.length:Int)by ext,t8]
    exact aG7 M Sx Sy S ⟨.inl rfl,v.2.2⟩
 have g:∀ q:Nat,q < rs.length->lZ _ _ (aR _ _) (-1)=aR _ (((x++y).length:Int),(q:Int)):=λq i=>by
  rw[j]
  rcases seg_res (emb_y M Sy) (λs d=>tG M Sy d) (s:=(y.length,q)) ⟨by simp,by ext,by simp,by ext⟩with ⟨a,b⟩|⟨s',t,a,c,v,b⟩
  .rw[a];exact b.symm
  .refine Eq.trans ?_ b.symm
   rw[a]
   rcases l_cases M Sy v with ⟨h,e⟩|⟨h,e⟩|⟨_,_,e,_⟩<;>rw[e]at c<;>cases c
   .rw[h,GY 0,t8]
    exact aG7 M Sx Sy S ⟨.inr rfl,v.2.2⟩
   .rw[resOf_out (by
     unfold lSt
     rw[AL (by ext),AJ (by ext)])]
    exact(t8 _ _ _ _ _).trans (AL (by decide))
 unfold aJD
 conv=>rhs;unfold b9
 simp only[b9,A6]
 congr 1
 .exact A9 λq i=>f q (BI.mp i)
 .exact A9 λq i=>g q (BI.mp i)
theorem aQD(M:Mach rs sg)(S:aH sg z)(s s':Int×Int)(V:bM rs z s)(h:lSt rs z s=some (.inl s')):bW rs z (id s)=some (.inl (id s'))/\bM rs z s':=by
 rcases l_cases M S V with ⟨_,e⟩|⟨_,e⟩|⟨h1,h2,e,v⟩<;>rw[e]at h<;>cases h
 refine⟨?_,v⟩
 show bW rs z s=some _
 unfold bW aL
 rw[AL (by ext),AL (by ext)]
 rfl
theorem aMK(M:Mach rs sg)(S:aH sg z){t:Int×Int}(V:bM rs z s)(h:lSt rs z s=some (.inr t)):s=plW z t/\eK rs.length t:=by
 rcases l_cases M S V with ⟨a,e⟩|⟨a,e⟩|⟨_,_,e,_⟩<;>rw[e]at h<;>cases h
 · exact⟨by show(s.1, s.2) = (if (-1) = -1 then 0 else _, s.2); simp_all, .inr rfl, V.2.2⟩
 · exact⟨by show(s.1, s.2) = (if 1 = -1 then 0 else _, s.2); simp_all, .inl rfl, V.2.2⟩
theorem aT2(M:Mach rs sg)(S:aH sg z)(P:eK rs.length s):aR (iJ rs (b9 rs z)) s=aR (bW rs z) (plW z s):=by
 have l:∀ s:Int×Int,eK rs.length s->bW rs z _=match fY _ s.1 with
   | .w x=>some _
   | .n q=>some (.inl ((if -s.1=1 then 1 else z.length),q)):=λs P=>by
  have:=aOA (z:=z) P.1
  unfold bW
  rw[aLP P.1]
  cases fY _ s.1 with
  | w x=>rfl
  | n q=>
   rw[show(plW z s).1 + -s.1=(plW z (s.1,0)).1 + -s.1 from rfl,this]
   rcases P.1 with h|h<;>rw[h]<;>rfl
 have c:∀ s:Int×Int,eK rs.length s->∀ q,fY _ s.1=.n q->(0<=q/\q < rs.length)/\bM rs z ((if -s.1=1 then 1 else z.length),q):=λs P q e=>by
  have g:=oO M P
  rw[e]at g
  refine⟨g,?_,?_,g⟩
  .show 0<=if -s.1=1 then 1 else(z.length:Int)
   split<;>ext
  .split<;>ext
 refine vO λo=>⟨?_,?_⟩
 .rintro ⟨n,h⟩
  induction h with
  | @out s o h=>
   refine⟨0,.out ?_⟩
   rw[l s P]
   unfold iJ at h
   cases e:fY _ s.1 with
   | w x=>rw[e]at h;ext
   | n q=>rw[e]at h;simp at h;split at h<;>cases h
  | @go s s1 o n h _ ih=>
   unfold iJ at h
   have b:=l s P
   cases e:fY _ s.1 with
   | w x=>rw[e]at h;cases h
   | n q=>
    rw[e]at h b
    have g:=c s P q e
    simp at h
    rw[nA _ g.1.1 g.1.2]at h
    cases a:aR _ _ with
    | none=>rw[a]at h;cases h
    | some t=>
     rw[a]at h;cases h
     obtain⟨k,i⟩:=cM a
     obtain⟨s',r⟩:=tF (aQD M S) g.2 i
     obtain⟨rfl,f⟩:=aMK M S r.2.2 r.2.1
     obtain⟨N,B⟩:=ih f
     exact⟨_,.go b (r.1.to B)⟩
 .rintro ⟨N,h⟩
  induction N using Nat.strongRecOn generalizing s with
  | ind N ih=>
   have b:=l s P
   cases e:fY _ s.1 with
   | w x=>
    rw[e]at b
    obtain⟨_,rfl⟩:=h.det (.out b)
    exact⟨0,.out (by unfold iJ;rw[e])⟩
   | n q=>
    rw[e]at b
    cases h with
    | out h=>rw[b]at h;cases h
    | go h y=>
     rw[b]at h;cases h
     obtain⟨k,s',t,m,i,p,u,C,A⟩:=aAH (aQD M S) (λs d=>tG M S d) (c s P q e).2 y
     obtain⟨rfl,f⟩:=aMK M S u p
     obtain⟨j,v⟩:=ih m (by ext) f A
     refine⟨_,.go ?_ v⟩
     unfold iJ
     rw[e]
     simp only
     rw[nA _ (c s P q e).1.1 (c s P q e).1.2,fZ i]
end
end _e
variable{z:Str}
namespace _e
open _f
variable{rs:L9 Rw}
theorem aJE{a b:Tb}(i:a.good m)(hb:b.good m)(o:m<=1000):∀ (n:Nat) (ps:L9 (Int×Int)) (s:Int×Int),Und2 (jT a b) j ps s->(∀ p∈ps,eK m p)->eK m s->2 * m+1<=ps.length+n->
  aC (aW gT gB) (aM (vV 2)) (gρ a b (some s) s.1 ps)=.ok (.rt (.d (thD (aR (jT a b) j)))):=by
 intro n
 induction n with
 | zero=>
  intro ps s U e V k
  have:=qK U.nd e
  ext
 | succ n ih=>
  intro ps s U e V k
  rw[aN]
  by_cases c:s∈ps
  .rw[fG (by rw[uZ,A2 rfl]) (aWH c),U.met c];rfl
  .have r:ps.length<=2 * m:=qK U.nd e
   rw[dE (by rw[uZ,A2 rfl]) (aYG i hb c V (by ext))]
   have g:nH m (if s.1=1 then b.at 1 s.2 else a.at (-1) s.2):=by
    split
    .exact (hb.at V.2.1 V.2.2).2
    .exact (i.at V.2.1 V.2.2).2
   have st:jT a b s=match (if s.1=1 then b.at 1 s.2 else a.at (-1) s.2)with
    | none=>none
    | some (w,q)=>if w = -s.1 then some (.inl (w,q))else some (.inr (w,q)):=rfl
   cases h:(if s.1=1 then b.at 1 s.2 else a.at (-1) s.2)with
   | none=>
    rw[h]at st
    rw[bR (aGI _ _ _ _),U.sticks st]
    simp[gρ]
   | some x=>
    obtain⟨w,q⟩:=x
    rw[h]at st g
    simp only at st
    by_cases f:w = -s.1
    .rw[AJ f]at st
     have:=ih (ps++[s]) (w,q) (U.next c st) (λp l=>by
      rcases BO.mp l with z|z
      · exact e p z
      · rw [AZ.mp z]; exact V) g (by rw [A7, CS]; ext)
     simp_all
    .rw[AL f]at st
     rw[U.outs st,bR (by rw[uZ,BA f])]
     simp[gρ]
theorem aG8{a b:Tb}(g:a.good m)(hb:b.good m)(f:m<=1000){th:Th}{w:Int}(e:nH m th)(hw:w=1\/w = -1):hU [.d (tbD a),.d (tbD b),.d (thD th),.d (.int w)]=.ok (.d (thD (lZ a b th w))):=by
 have c:hU [.d (tbD a),.d (tbD b),.d (thD th),.d (.int w)]=(aC (aW gT gB) (aM (vV 2)) (gρ a b th w [])).bind λw=>match w with | .rt (.l _)=>.bad | .rt a=>.ok a | .nx _=>.ok (.d .none)|_=>.bad:=by
  rfl
 rw[c]
 cases th with
 | none=>
  rw[aN,bR (aGI _ _ _ _)]
  rfl
 | some s=>
  by_cases q:s.1=w
  .subst q
   rw[aJE g hb f (2 * m+1) [] s .start (λp h=>by simp_all) e (by simp)]
   simp[lZ]
  .rw[aN,bR (by rw[uZ,BA q])]
   simp[gρ,lZ,(q)]
theorem aML{a b:Tb}(e:a.good m)(hb:b.good m)(h:m<=1000):lO [.d (tbD a),.d (tbD b)]=.ok (.d (tbD (aJD a b))):=by
 have h1:=bA (fs:=stN 0) (fe:=eA (aE 4 hU (aA (vV 1) (aA (vV 2) (aA (vV 0) (aA (vD (eC (.int 1))) aB)))))) (Y0:=[none,some (.d (tbD a)),some (.d (tbD b))]) (d:=thD) (g:=λth=>thD (lZ a b th 1)) (xs:=a.f) λth c=>⟨_,rfl,by simp[aG8 e hb h (e.gf th c) (.inl rfl)]⟩
 have h2:=bA (fs:=stN 0) (fe:=eA (aE 4 hU (aA (vV 1) (aA (vV 2) (aA (vV 0) (aA (vD (e1 dNeg (eC (.int 1)))) aB)))))) (Y0:=[none,some (.d (tbD a)),some (.d (tbD b))]) (d:=thD) (g:=λth=>thD (lZ a b th (-1))) (xs:=b.a) λth c=>⟨_,rfl,by simp[aG8 e hb h (hb.ga th c) (.inr rfl)]⟩
 have i:(a.f.map thD).length<=16777216:=by rw[AC,e.lf];ext
 have j:(b.a.map thD).length<=16777216:=by rw[AC,hb.la];ext
 simp[lO,aDV,aIO,aIP,c9 i,c9 j,cK,h1,h2]
 unfold tbD aHW aJD
 rw[A6,A6]
 rfl
theorem aO8(rs:L9 Rw):b9 rs []=pD rs.length:=by
 unfold b9 pD
 congr 1
 all_goals exact A9 λq _=>resOf_out rfl
theorem aO9(M:Mach rs sg)(e:bD sg c=true):b9 rs [c]=jW (c - 97) rs:=by
 have a:∀ q:Nat,q < rs.length->aR (lSt rs [c]) (1,q)=some ((ck _ _).2,(ck _ _).1):=λq d=>by
  obtain⟨_,_,_,b⟩:=m9 M (AD (bQ (rs:=rs) (q:=q) (by simp) (by ext))) (show c - 97 < sg by have:=BC e;ext)
  have b:(ck _ _).2=1\/(ck _ _).2 = -1:=b
  rw[iW (s':=(1+(ck (c - 97) _).2,(ck (c - 97) _).1)) rfl]
  rcases b with g|g<;>rw[g]<;>exact resOf_out rfl
 unfold b9 jW
 rw[aED rs]
 congr 1
 all_goals exact A9 λq d=>a q (BI.mp d)
theorem aMM{z:L9 Nat}(M:Mach rs sg)(S:aH sg z):yO rs (b9 rs z)=a7 rs z:=by
 unfold yO a7
 rw[aT2 M S (yP M)];rfl
theorem aXP(M:Mach rs sg)(E:EndW rs sg 200 N)(p:N<=200)(h:¬ 200 < (bfW rs sg N).length):fJ [.d (aK rs)]=.ok (.d (aI4 rs sg N)):=by
 have e:=aW2 (aTE M E p)
 obtain⟨r,t,f,hr⟩:=M.cons
 have c:c7 [.d (aK rs)]=.ok (.d (.int sg)):=by rw[f,uY,hr]
 have j:=aWV M [some _,none,none,none,none] rfl
 rw[show cK _ _=[none,some _]from rfl]at j
 have Zq:=lC M N (by ext)
 have a:=bA (fs:=stN 0) (fe:=eA (aE 2 dS (aA (vV 1) (aA (vV 0) aB)))) (Y0:=[none,some (.d (aK rs))]) (d:=aI rs) (g:=λz=>.str (a7 rs z)) λz m=>by
  refine⟨_,rfl,?_⟩
  have:=aW5 M (Zq.ok z m).1
  simp[this]
 rw[Zq.map]at a
 have e:fF [.d (aI rs []),.g 4 1 _,.g 1 2 _]=.ok (.d (.tuple [.list (bfW rs sg N),.list (cI (afW rs sg) (bfW rs sg N) N)])):=e
 generalize b:cI _ _ N=i at e
 have o:dIx (.tuple [.list _,.list i]) (.int 0)=.ok (.list (bfW rs sg N)):=rfl
 have k:dIx (.tuple [.list (bfW rs sg N),.list i]) (.int 1)=.ok _:=rfl
 have q:(zsW rs sg N).length<=16777216:=by
  have:((zsW rs sg N).map (aI rs)).length<=16777216:=by rw[Zq.map];ext
  ext
 have l:¬ (200:Int) < ((bfW rs sg N).length:Int):=by ext
 change fF [_,.g 4 1 (eX 2 f8 _),.g 1 2 (eX 2 jQ _)]=_ at e
 unfold fJ o4 aI4
 rw[b]
 simp[c,(fH (n:=sg) (by have:=M.sg3;ext)),j,(aYJ M),uR,pO,uS,aDO,eR,yA,e,dOf,o,k,k9,l,(eF (xs:=bfW rs sg N) (by ext)),cK,a]
theorem aY8(W:Wy rs sg N)(E:EndW rs sg 200 N):fJ [.d (aK rs)]=.ok (.d (rdW (bZ rs sg N) (c5 rs sg N))):=by
 have h:=aXP W.m E W.n (by have:=W.len;have:=W.n;ext)
 rw[aXE W]at h
 exact h
theorem aBN(h1:1<=n)(a:n<=3){D:D4}:∀ (cs:L9 Nat) (k:Nat) (u3 u4:O9 A),(∀ c∈cs,bD n c=true)->∃ u3' u4',
  jO (stT [stN 3,stN 4]) (sIf (e1 asB (e2 dNin (rV 4) (rV 2))) wM sNx) (nO k (cs.map λu=>.str ⟨#[u]⟩)) [some (.d (.int n)),some (.d D),some (.d (.str (Txt.slice "abc" none (some (n:Int))))),u3,u4]=.ok (.nx [some (.d (.int n)),some (.d D),some (.d (.str (Txt.slice "abc" none (some (n:Int))))),u3',u4'])
 | [],k,u3,u4,_=>⟨u3,u4,rfl⟩
 | c::t,k,u3,u4,h=>by
  have hin:dNin (.str ⟨#[c]⟩) (.str (Txt.slice "abc" none (some n)))=.ok (.bool (!bD n c)):=by
   show R.ok _=_
   rw[aM8 h1 a]
  rw[h c A4]at hin
  obtain⟨u3',u4',q⟩:=aBN h1 a (D:=D) t (k+1) (some (.d (.int k))) (some (.d (.str ⟨#[c]⟩))) λx b=>h x (AU _ b)
  refine⟨u3',u4',?_⟩
  rw[AW,nO]
  unfold jO
  simp[hin,q]
theorem aMN(s1:1<=sg)(c:sg<=3)(S:aH sg z.cps.toList):gY [.d (.int sg),.d (.str z)]=.ok (.d (.str z)):=by
 have a:dSl _ none _=.ok (.str (Txt.slice "abc" none (some sg))):=aB6 (by decide)
 have b:yX (.str z)=.ok (nO 0 (z.cps.toList.map λu=>.str ⟨#[u]⟩)):=AJ (by have:=S.1;ext)
 obtain⟨e,f,q⟩:=aBN s1 c (D:=.str z) z.cps.toList 0 none none S.2
 simp only[gY,qD,cZ,aN,cY,dY,sR,dH,sS,pU,c8,fC,pT,dM,kZ,a,b,q,jJ,R.bind_ok,AW,BE,A8,BD,AT,A5,replicate,AS,AN,A0,AX]
theorem aEW(M:Mach rs sg)(S:aH sg z.cps.toList):iM [.d (aK rs),.d (.str z)]=.ok (.d (.str z)):=by
 obtain⟨r,t,a⟩:=M.cons
 have b:c7 [.d (aK rs)]=.ok (.d (.int sg)):=by rw[a.1,uY,a.2]
 unfold iM vY
 simp[b,aMN M.sg1 M.sg3 S]
theorem aXQ(M:Mach rs sg)(a:bD sg c=true):gZ [.d (aK rs),.d (.str ⟨#[c]⟩)]=.ok (.d (tbD (jW (c - 97) rs))):=by
 have e:c - 97 < sg:=by have:=BC a;ext
 have b:(rs.map λr:Rw=>cellD (ck (c - 97) r)).length<=16777216:=by have:=M.len2;ext
 rw[aN8]
 simp[gZ,qE,aEW M (sX a),pX (nV M.sg3 a),aGH M e,eF b,cK,(bA (fs:=stN 0) (fe:=bH (aA (e2 dIx (rV 0) (eC (.int 1))) (aA (e2 dIx (rV 0) (eC (.int 0))) aB))) (Y0:=[none]) (d:=λr:Rw=>cellD _) (g:=λr:Rw=>nF _ (ck (c - 97) r).1) (xs:=rs) λr _=>⟨_,rfl,by rfl⟩)]
 rfl
theorem aEX(M:Mach rs sg)(S:aH sg z.cps.toList):eU [.d (aK rs),.d (.str z)]=.ok (.d (tbD (b9 rs z.cps.toList))):=by
 obtain⟨r,t,s,hr⟩:=M.cons
 have p:c7 [.d (aK rs)]=.ok (.d (.int sg)):=by rw[s,uY,hr]
 have b:=uG M.sg1 M.sg3
 have A:dSl (.str "abc") none (some sg)=.ok (.str (Txt.slice "abc" none (some sg))):=by
  rfl
 have h1:=bA (fs:=stN 0) (fe:=eA (aE 2 gZ (aA (vV 1) (aA (vV 0) aB)))) (Y0:=[none,some (.d (aK rs))]) (d:=λu:Nat=>.str ⟨#[u]⟩) (g:=λu:Nat=>tbD (jW (u - 97) rs)) (xs:=(Txt.slice "abc" none _).cps.toList) λu c=>⟨_,rfl,by
  have h:bD sg u=true:=by
   rw[b]at c
   refine A2 ?_
   have h1:=M.sg1
   obtain⟨i,hi⟩:=List.mem_iff_getElem?.mp c
   rw[ED]at hi
   split at hi
   .match i,hi with
    | 0,hi=>simp_all
    | 1,hi=>simp at hi;ext
    | 2,hi=>simp at hi;ext
   ext
  simp[aXQ M h]⟩
 have v:(rs.map aY).length=rs.length:=AC ..
 have m:aP (.str z)=.ok (z.cps.toList.map λu=>.str ⟨#[u]⟩):=rA (by have:=S.1;ext)
 obtain⟨E,w,y⟩:=i6 (fs:=stN 4) (fb:=aS 3 (aE 2 lO (aA (vV 3) (aA (vD (e2 dIx (rV 2) (e2 iZ (eC (.str "abc")) (rV 4)))) aB)))) (d:=λu:Nat=>.str ⟨#[u]⟩) (xs:=z.cps.toList)
  (Y:=[some (.d (aK rs)),some (.d (.str z)),some (.l ((Txt.slice "abc" none (some (sg:Int))).cps.toList.map λu:Nat=>tbD (jW (u - 97) rs))),some (.d (tbD (b9 rs (z.cps.toList.take 0)))),none])
  (λi Y=>∃ q,Y=[some (.d (aK rs)),some (.d (.str z)),some (.l ((Txt.slice "abc" none (some (sg:Int))).cps.toList.map λu:Nat=>tbD (jW (u - 97) rs))),some (.d (tbD (b9 rs (z.cps.toList.take i)))),q]) ⟨none,rfl⟩
  (λi u Y c k=>by
   obtain⟨q,rfl⟩:=k
   have a:bD sg u=true:=S.2 u (AD c)
   have f:([97,98,99]:L9 Nat)[u - 97]? = some u:=by
    have:=BC a
    have D:=M.sg3
    obtain rfl|rfl|rfl:u=97\/u=98\/u=99:=by ext
    all_goals rfl
   have o:dIx (.list ((Txt.slice "abc" none (some (sg:Int))).cps.toList.map λu:Nat=>tbD (jW (u - 97) rs))) (.int ((u - 97:Nat):Int))=.ok (tbD (jW (u - 97) rs)):=by
    refine lA (cP (j:=u - 97) ?_)
    rw[AE,b,ED,AJ (by have:=BC a;ext),f];rfl
   have x:=aML (mM M (S.take i)) (mM M (sX a)) (by have:=M.len2;ext)
   have e:z.cps.toList.take i++[u]=z.cps.toList.take (i+1):=by
    have C:=AG.mp c
    rw[List.take_succ,c];rfl
   rw[aMJ M (S.take i) (sX a) (by rw[e];exact S.take (i+1)),e,aO9 M a]at x
   refine⟨_,_,rfl,.inl ?_,some (.d (.str ⟨#[u]⟩)),rfl⟩
   simp[pX (nV M.sg3 a),o,x])
 obtain⟨q,rfl⟩:=y
 have B:b9 rs (z.cps.toList.take 0)=pD rs.length:=aO8 rs
 rw[B,List.take_length]at w
 unfold eU tW
 simp only[cZ,AW,BE,A8,BD,AT,A5,replicate,aN,aDX,cL,bY,b6,fC,AS,AN,R.bind_ok]
 rw[AJ (by decide),aEW M S]
 simp only[R.bind_ok,kB,nT,dM,sR,dH,sS,pU,k7,cL,bY,b6,fC,AS,AT,A5,BR,p,jX,A,rA (by rw[b];simp;ext),cK,AW,BE,GC,EO,Option.join_some,h1,A0,AX,cY,dY,c8,aN]
 simp[aK,yH,aYF (n:=rs.length) (by have:=M.len2;ext),m]
 rw[show PyData.tuple (List.map aY rs)=aK rs from rfl]
 rw[w]
 rfl
section
variable{rs:L9 Rw}{sg:Nat}{z:Str}
theorem aPA(M:Mach rs sg)(S:aH sg z.cps.toList):rP [.d (aK rs),.d (.str z)]=.ok (.d (.list ((fN rs z.cps.toList).map prD))):=by
 have h:=aTU M S (iP rs z.cps.toList) [] (0,0) none (Way.start M)
 have h:aC (aW ptT ptB) (sFz 3 (aM (vV 3))) [some (.d (aK rs)),some (.d (.str z)),some (.d (.tuple [.int 0,.int 0])),some (.l [.tuple [.int 0,.int 0]]),some (.m []),none]=.ok (.rt (.d (.list ((fN rs z.cps.toList).map prD)))):=h
 unfold rP
 rw[aES]
 rw[aN]at h
 simp only[cZ,aN,aDX,cL,fC,(aEW M S),nU,kB,kO,bY,uX,dH,kZ,b6,R.bind_ok,AT,A5,Nat.reduceAdd,Nat.reduceSub,Nat.reduceLeDiff,BR,AW,BE,A8,BD,replicate,AX,A0,AS,AN,cY,dY,h]
theorem aPB(M:Mach rs sg)(S:aH sg z.cps.toList)(x:fN rs z.cps.toList=ps++[s])(P:PathOk rs z.cps.toList ps s)(W:EndP rs z.cps.toList ps s):gG [.d (aK rs),.d (.str z)]=.ok (.o (lD rs z.cps.toList ps s)):=by
 have l:=aPA M S
 rw[x]at l
 have v:=aO3 M S P
 have g:=aI8 M S (P.val s (by simp))
 have u:=aXJ S.1 (by simp) (by simp;ext) (P.adj M S)
 have p:dIx (prD s) (.int 0)=.ok _:=rfl
 have r:dIx (prD s) (.int 1)=.ok _:=rfl
 have f:replicate 3 (none:O9 A)=[none,none,none]:=rfl
 have t0:∀ a i,dIx (.tuple [a,.int i]) (.int 0)=.ok a:=λa i=>rfl
 unfold gG aET
 cases W with
 | b h n e c=>
  rw[c]at g
  have k:dEq (Tn.w "by").d _=.ok _:=tK (.inl rfl) (.inl rfl)
  have j:lD rs z.cps.toList ps s=⟨"LetBy",[("place",.int s.1),("room",.int s.2),("borders",n8 (bdL (ps++[s]) (replicate (z.cps.toList.length+1) [])))]⟩:=by unfold lD;rw[AJ h]
  simp only[cZ,aN,cY,cL,bY,b6,fC,R.bind_ok,AW,BE,AT,A5,Nat.reduceAdd,Nat.reduceSub,f,A8,BD,AS,AN,BR,l,AX,A0,dY,eM,dM,c8,dH,sU,(tU ps s),k7,g,jX,t0,iI,k,i5,jJ,aAS,p,r,u,j]
  rfl
 | o h n e c=>
  rw[c]at g
  have k:dEq (Tn.w "out").d (.str "by")=.ok (.bool false):=tK (.inr (.inl rfl)) (.inl rfl)
  have t:dEq (Tn.w "out").d (.str "out")=.ok (.bool true):=tK (.inr (.inl rfl)) (.inr (.inl rfl))
  have j:lD rs z.cps.toList ps s=⟨"ShutOut",[("place",.int s.1),("room",.int s.2),("borders",n8 (bdL (ps++[s]) (replicate (z.cps.toList.length+1) [])))]⟩:=by unfold lD;rw[AL (by rw[h];decide),AJ h]
  simp only[cZ,aN,cY,cL,bY,b6,fC,R.bind_ok,AW,BE,AT,A5,Nat.reduceAdd,Nat.reduceSub,f,A8,BD,AS,AN,BR,l,AX,A0,dY,eM,dM,c8,dH,sU,(tU ps s),k7,g,jX,t0,iI,k,t,BZ,C8,mL,i5,jJ,aAS,p,r,u,j]
  rfl
 | e h n q c=>
  rw[c]at g
  have k:dEq (Tn.n q).d (.str "by")=.ok (.bool false):=by show dEq (.int q) (.str "by")=_;rw[yJ (yK q) (lS (.inl rfl))];rfl
  have t:dEq (Tn.n q).d (.str "out")=.ok (.bool false):=by show dEq (.int q) (.str "out")=_;rw[yJ (yK q) (lS (.inr (.inl rfl)))];rfl
  have j:lD rs z.cps.toList ps s=⟨"ForEver",[("place",.int s.1),("room",.int s.2),("first",.int (ps.idxOf s)),("again",.int ps.length)]⟩:=by unfold lD;rw[AL (by rw[h];decide),AL (by rw[h];decide)]
  have y:aEL (.list ((ps++[s]).map prD)) (prD s)=.ok (.int (ps.idxOf s)):=by
   unfold aEL
   dsimp only
   rw[AJ ⟨vR s,aI9,by rw[AC,A7];simp;ext⟩,aG5 s ps [s] n]
  have m:((ps.length+1:Nat):Int) - 1=ps.length:=by ext
  simp only[cZ,aN,cY,cL,bY,b6,fC,R.bind_ok,AW,BE,AT,A5,Nat.reduceAdd,Nat.reduceSub,f,A8,BD,AS,AN,BR,l,AX,A0,dY,eM,dM,c8,dH,sU,(tU ps s),k7,g,jX,t0,iI,k,t,i5,BZ,C8,mL,jJ,aAS,p,r,aTR,aYX,y,k9,AC,A7,aLH,m,j]
  rfl
end
section
variable{ad:L9 (L9 Nat)}{ws:L9 Str}{rs:L9 Rw}{sg N:Nat}{L:L9 Nat}
theorem aT3(M:Rdw ad ws sg)(e:fJ [.d (aK rs)]=.ok (.d (rdW ad ws)))(K:Lk ad (ws.map cA) sg L)(eL:dU [.d (rdW ad (ws.map cA))]=.ok (.d (.list (L.map λr:Nat=>.int (r:Int)))))(T:Lst ad (ws.map cA) L N)(x:N<=60) :
  lF [.d (aK rs)]=.ok (.d (aK (f7 (bG ad L N) (bT ad (ws.map cA) L N)))):=by
 have n2:=M.r.n2
 have wl:=M.wl
 have j:Rdw ad (ws.map cA) sg:=⟨M.r,by simp_all,λw i=>by
  obtain⟨v,p,rfl⟩:=A1.mp i
  rcases stopW_is (M.ww v p)with h|h
  · exact .inl h
  · exact .inr (.inl h)⟩
 have t:=aP7 j K eL T
 have u:dIx (rdW ad ws) (.int 0)=.ok _:=rfl
 have l:dIx (rdW ad ws) (.int 1)=.ok _:=rfl
 have k:aP _=.ok (ws.map PyData.str):=c9 (by ext)
 have c:PyData.tuple [.tuple (ad.map cT),.tuple (ws.map λw=>PyData.str (cA w))]=rdW ad (ws.map cA):=by
  unfold rdW rdD
  rw[A6];rfl
 have o:dIx (rdW _ (bT ad (ws.map cA) L N)) (.int 0)=.ok (.tuple ((bG ad L N).map cT)):=rfl
 have f:=bA (fs:=stN 0) (fe:=eA (aE 2 gR (aA (vV 1) (aA (vV 0) aB)))) (Y0:=[none,some _]) (g:=λq=>aY (jN (bG ad L N) (bT ad (ws.map cA) L N) q)) λq s=>⟨[some (.d (.int q)),some (.d (rdW (bG ad L N) (bT ad (ws.map cA) L N)))],rfl,by
  have:=aTL (aOR j K T) (by rw[(tP T)];exact BI.mp s)
  simp[this]⟩
 have m:aK (f7 (bG ad L N) (bT ad (ws.map cA) L N))=.tuple ((range N).map λq=>aY (jN (bG ad L N) (bT ad (ws.map cA) L N) q)):=by
  unfold aK f7
  rw[(tP T),A6];rfl
 rw[m]
 have b:dLen (.tuple ((bG ad L N).map cT))=.ok (.int N):=by rw[yH,AC,(tP T)]
 generalize rdW (bG ad L N) (bT ad (ws.map cA) L N)=X at *
 generalize ((range N).map λq=>aY (jN (bG ad L N) (bT ad (ws.map cA) L N) q))=Yq at *
 generalize (bG ad L N).map cT=Zq at *
 have a:¬ (60:Int) < (N:Int):=by ext
 unfold lF tY
 simp only[cZ,aN,cY,cL,bY,b6,fC,AW,BE,A8,BD,AT,A5,Nat.reduceAdd,Nat.reduceSub,replicate,AS,AN,R.bind_ok,BR,e,AX,A0,dY,dM,eM,yG,nT,c8,dH,l,u,k,cK,GC,(bA (fs:=stN 0) (fe:=eA (aE 1 fX (aA (vV 0) aB))) (Y0:=[none]) (g:=λw=>PyData.str (cA w)) (xs:=ws) λw i=>⟨[some (.d (.str w))],rfl,by simp[aYS (M.ww w i)]⟩),yI,uX,kZ,Nat.reduceLeDiff,c,t,o,b]
 simp[a,(fH (n:=N) (by ext)),cK,f]
end
theorem aXR{xs:L9 D4}(h:xs.length<=60):l9 [.d (.list xs)]=.ok (.d (.tuple xs)):=by
 have h1:¬ 60 < (xs.length:Int):=by ext
 simp[l9,v4,h1]
theorem aPC(M:Mach rs sg)(f:rs.length<=59):iE [.d (aK rs)]=.ok (.d (aK (cX sg rs))):=by
 have n:=aWI M
 have m:=aW0 (aD5 M) 1
 have g:c7 [.d (aK rs)]=.ok (.d (.int sg)):=by
  cases rs with
  | nil=>exact absurd M.len (by simp)
  | cons r t=>rw[uY,(M.row r A4).2]
 have k:=aLY (x:=.tuple [.int 0,.int 1]) M.sg1 (by have:=M.sg3;ext)
 have a:∃ r t,rs=r::t:=by
  cases rs with
  | nil=>exact absurd M.len (by simp)
  | cons r t=>exact⟨r,t,rfl⟩
 have b:((iN rs).map λr=>aY (jB 1 r)).length<=59:=by simpa[iN] using f
 have e:nP (.list [.tuple [.int 0,.tuple (replicate sg (.tuple [.int 0,.int 1])),(jP 1 (aJ rs 0).l).d]]) (.list ((iN rs).map λr=>aY (jB 1 r)))=.ok (.tuple [.int 0,.tuple (replicate sg (.tuple [.int 0,.int 1])),(jP 1 (aJ rs 0).l).d]::(iN rs).map λr=>aY (jB 1 r)):=by
  unfold nP
  simp only
  rw[AJ (by rw[fQ,AT,A5];ext)];rfl
 have j:=aXR (xs:=.tuple [.int 0,.tuple (replicate sg (.tuple [.int 0,.int 1])),(jP 1 (aJ rs 0).l).d]::(iN rs).map λr=>aY (jB 1 r)) (by ext)
 have h:dIx (.list ((iN rs).map λr=>aY (jB 1 r))) (.int 0)=.ok (aY (jB 1 (rB (aJ rs 0)))):=by
  obtain⟨r,t,rfl⟩:=a
  exact aLI _ _
 have c:PyData.tuple (.tuple [.int 0,.tuple (replicate sg (.tuple [.int 0,.int 1])),(jP 1 (aJ rs 0).l).d]::(iN rs).map λr=>aY (jB 1 r))=aK (cX sg rs):=by
  unfold aK cX
  rw[AW,A6]
  congr 2
  unfold aY
  rw[List.map_replicate];rfl
 have i:dIx (aY (jB 1 (rB (aJ rs 0)))) (.int 2)=.ok (jP 1 (aJ rs 0).l).d:=aWE _ _ _ _
 unfold iE n9
 simp_all
end _e
variable{j:V9}
namespace _f
@[simp] theorem aPD(m:Nat)(f:Sg->R A)(g:Sg->R (L9 D4))(Y:Sg):aJA m f g Y=(f Y).bind λa=>match a with
 | .g k n G=>(g Y).bind λds=>if k<=m/\ds.length=n then G ds else .bad
 | _=>.bad:=id rfl
@[simp] theorem aY9(f:Sg->R A)(g:Sg->R (L9 D4))(Y:Sg):vH f g Y=(f Y).bind λa=>match a with
 | .g k n G=>(g Y).bind λds=>if ds.length<=1000 then .ok (.h k n G ds)else .bad
 | _=>.bad:=id rfl
@[simp] theorem aMO(i:Nat)(Y:Sg):vHV i Y=match Y[i]? with
 | some (some (.h k n G ds))=>.ok (.h k n G ds)
 | _=>.bad:=id rfl
@[simp] theorem aXS(i:Nat)(Y:Sg):vH0 i Y=match Y[i]? with
 | some (some (.h k n G _))=>.ok (.g k n G)
 | _=>.bad:=id rfl
@[simp] theorem aT4(i j:Nat)(Y:Sg):w9 i j Y=match Y[i]? with
 | some (some (.h _ _ _ ds))=>(match ds[j]? with|some d=>.ok d|none=>.bad)
 | _=>.bad:=id rfl
end _f
namespace _e
open _f
section
variable{r1:L9 (L9 Nat)}{w1:L9 Str}{sg:Nat}
theorem aT5{M:Rdw r1 w1 sg}(a:q < r1.length):dLen (cT (r1.getD q []))=.ok (.int (sg:Int)):=by
 unfold cT
 rw[yH,AC,(M.r.at a).2.1]
theorem aZA(M1:Rdw r1 w1 sg):mW [.d (rdW r1 w1)]=.ok (.d (.int (sg:Int))):=by
 have c:dIx (rdW r1 w1) (.int 0)=.ok _:=rfl
 have b:=aAP (ws:=w1.map .str) M1.r M1.r.n1
 have a:=aT5 (M:=M1) M1.r.n1
 unfold mW yE
 simp_all
theorem aQE(R:Rdw r1 w1 sg)(s1:1<=sg)(S:aH sg z.cps.toList):eP [.d (rdW r1 w1),.d (.str z)]=.ok (.d (.str (w1.getD (runN r1 0 z.cps.toList) ""))):=by
 have f:=aZA R
 have g:=aMN s1 R.r.s3 S
 have b:=aY5 R.r (wd:=w1.map .str) R.r.n1 S.2 S.1
 have e:stD z.cps.toList=.str z:=rfl
 have c:dIx (rdW r1 w1) (.int 1)=.ok _:=rfl
 change jU [.d (rdW r1 w1),_,_]=_ at b
 have a:l8 [.d (rdW r1 w1),.d (.str z)]=.ok (.d (.int (runN r1 0 z.cps.toList))):=by
  unfold l8 vZ
  simp_all
 unfold eP v3
 simp[-List.getD_eq_getElem?_getD,c,a,((R.w (jM R.r z.cps.toList S.2 R.r.n1)).2)]
end
section
variable{rs st:L9 Rw}{sg:Nat}{z:Str}
theorem aG9(M:Mach rs sg)(S:aH sg z.cps.toList){f:Sg->R A}{Y:Sg}(h:f Y=gG [.d (aK rs),.d (.str z)]):vMt f "says" [("LetBy",dO),("ShutOut",cV),("ForEver",cW)] Y=.ok (.d (.str (a7 rs z.cps.toList))):=by
 obtain⟨ps,s,a⟩:=aYY M S
 exact mt_says a.2.2 (h.trans (aPB M S a.1 a.2.1 a.2.2))
theorem aT6(M:Mach rs sg):∃ G,tZ [.d (aK rs)]=.ok (.g 5 1 G)/\∀ z:Str,aH sg z.cps.toList->G [.str z]=.ok (.str (a7 rs z.cps.toList)):=by
 refine⟨eX 2 cN _,rfl,λz S=>?_⟩
 unfold eX
 have e:fnF 2 cN ([.str z].map A.d++[.d (aK rs)])=.ok (.d (.str (a7 rs z.cps.toList))):=by
  unfold cN
  rw[cZ,jJ,aG9 M S rfl]
  rfl
 rw[e];rfl
theorem aXT(a b:L9 D4)(h:a.length+b.length<=16777216):nP (.list a) (.list b)=.ok (a++b):=AJ (by assumption)
theorem aZB{w:Str}(h:w8 w):((dEq (.str w) (.str "by")).bind λx=>(dInt x).bind λy=>dIx (.list [.str "out",.str "by"]) y)=.ok (.str (cA w)):=by
 have a:=tK h (.inl rfl)
 rcases h with rfl|rfl|rfl
 all_goals rw[a];rfl
theorem aT7(M:Mach rs sg)(Ms:Mach st sg)(r5:rs.length<=5){G:L9 D4->R D4}(hG:∀ z:Str,aH sg z.cps.toList->G [.str z]=.ok (.str (a7 rs z.cps.toList)))
  {d1 d2:D4} (h1:∀ z:Str,aH sg z.cps.toList->eP [.d d1,.d (.str z)]=.ok (.d (.str (a7 rs z.cps.toList)))) (h2:∀ z:Str,aH sg z.cps.toList->eP [.d d2,.d (.str z)]=.ok (.d (.str (a7 rs z.cps.toList))))
  (J:∀ z,aH sg z->a7 st z=cA (a7 rs z)) (S:aH sg z.cps.toList) (c:Int) :
  eW [.d (aK rs),.h 5 1 G [d1,d2,aK st,aK (cX sg rs)],.d (.str z),.d (.int c)]=.ok (.d (.bool true)):=by
 have O:=yN M S
 have M1:=aIW M (by ext)
 have B:=by
  have:=pV (z:=z) (by rw[gW];have:=S.1;ext)
  rw[gW]at this;ext
 obtain⟨i,hi,l⟩:∃ i:Nat,c % (z.cps.toList.length+1)=i/\i<=z.cps.toList.length:=by
  have h9:=B3 c (show 0 < (z.cps.toList.length:Int)+1 by simp)
  exact⟨_,(DG (B2 c (show((z.cps.toList.length:Int)+1)≠0 by ext))).symm,by ext⟩
 have K:dMod (.int c) (.int (z.cps.toList.length+1))=.ok (.int i):=by rw[cC (by simp),hi]
 have m:z.length<=16777216:=by rw[gW];have:=S.1;ext
 have T:dSl (.str z) none (some (i:Int))=.ok (.str ⟨(z.cps.toList.take i).toArray⟩):=by rw[aB6 m,aIJ l]
 have W:dSl (.str z) (some (i:Int)) none=.ok (.str ⟨(z.cps.toList.drop i).toArray⟩):=by rw[aB6 m,aIK l]
 have o:aH sg (z.cps.toList.drop i):=⟨by rw[EM];have:=S.1;ext,λx b=>S.2 x (List.mem_of_mem_drop b)⟩
 have H:eU [.d (aK rs),.d (.str ⟨(z.cps.toList.take i).toArray⟩)]=.ok (.d (tbD (b9 rs (z.cps.toList.take i)))):=aEX M (z:=⟨(z.cps.toList.take i).toArray⟩) (S.take i)
 have N:eU [.d (aK rs),.d (.str ⟨(z.cps.toList.drop i).toArray⟩)]=.ok (.d (tbD (b9 rs (z.cps.toList.drop i)))):=aEX M (z:=⟨(z.cps.toList.drop i).toArray⟩) o
 have s:=aML (mM M (S.take i)) (mM M o) (by ext)
 rw[aMJ M (S.take i) o (by rw[ES];exact S),ES]at s
 have Q:=aEX M S
 have k:=aZT M (mM M S)
 rw[aMM M S]at k
 have j:aDB (.str z)=.ok (.str ⟨z.cps.toList.reverse.toArray⟩):=by
  unfold aDB
  exact AJ m
 have t:eO [.d (aK (cX sg rs)),.d (.str ⟨z.cps.toList.reverse.toArray⟩)]=.ok (.d (.str (a7 (cX sg rs) z.cps.toList.reverse))):=yN M1 (z:=⟨z.cps.toList.reverse.toArray⟩) (⟨by rw[CW];exact S.1,λc X=>S.2 c (by simpa using X)⟩)
 rw[aIY M S]at t
 have r:=yN Ms S
 rw[J _ S]at r
 have F:=hG z S
 have v:=h1 z S
 have I:=h2 z S
 have p:=aEE M S
 have C:∀ {f:Sg->R A} {Y:Sg},f Y=gG [.d (aK rs),.d (.str z)]->vMt f "says" [("LetBy",dO),("ShutOut",cV),("ForEver",cW)] Y=.ok (.d (.str (a7 rs z.cps.toList))):=λh=>aG9 M S h
 have a:=aZB p
 generalize a7 rs z.cps.toList=w at *
 generalize PyData.str z=Zq at *
 generalize aK rs=V at *
 generalize aK st=E at *
 generalize aK (cX sg rs)=U at *
 generalize tbD (b9 rs (z.cps.toList.take i))=T1 at *
 generalize tbD (b9 rs (z.cps.toList.drop i))=Z at *
 generalize tbD (b9 rs z.cps.toList)=u at *
 have D:Cp (.list [.str w,.str w,.str w,.str w,.str w,.str w,.str w]):=aO5 (L:=[w,w,w,w,w,w,w]) λx b=>by
  simp at b;rw[b];exact p
 have g:yY [.str w] (.int 7)=.ok [.str w,.str w,.str w,.str w,.str w,.str w,.str w]:=by
  unfold yY
  exact AJ ⟨by simp,by decide,by decide,by simp⟩
 obtain⟨x,b,a⟩:∃ x,dEq (.str w) (.str "by")=.ok x/\((dInt x).bind λy=>dIx (.list [.str "out",.str "by"]) y)=.ok (.str (cA w)):=by
  cases q:dEq (.str w) (.str "by")with
  | ok x=>rw[q]at a;exact⟨x,rfl,a⟩
  | bad=>rw[q]at a;cases a
  | ex e=>rw[q]at a;cases a
 obtain⟨y,P,a⟩:∃ y,dInt x=.ok y/\dIx (.list [.str "out",.str "by"]) y=.ok (.str (cA w)):=by
  cases q:dInt x with
  | ok y=>rw[q]at a;exact⟨y,rfl,a⟩
  | bad=>rw[q]at a;cases a
  | ex e=>rw[q]at a;cases a
 have n:dEq (.str (cA w)) (.str (cA w))=.ok (.bool true):=aYL (by rcases stopW_is p with q|q<;>simp[q])
 unfold eW oR
 simp only[cZ,aN,cY,cL,bY,b6,fC,dY,dM,eM,dH,c8,kZ,k7,sR,sS,pU,jX,R.bind_ok,AW,BE,A8,BD,AT,A5,Nat.reduceAdd,Nat.reduceSub,Nat.reduceLeDiff,replicate,AS,AN,AX,A0,BR,O,B,sT,K,T,W,H,N,s]
 simp only[aN,kB,kO,bY,b6,k7,(C (f:=aE 2 gG (aA (vV 0) (aA (vV 2) aB))) (Y:=[some (.d V),some (.h 5 1 G [d1,d2,E,U]),some (.d Zq),some (.d (.int c)),some (.d (.str w)),some (.d (.int (i:Int))),some (.d u),none]) (by simp)),jX,R.bind_ok,aPD,aXS,kZ,cL,fC,AS,AN,AT,A5,Nat.reduceAdd,Nat.reduceLeDiff,and_self,BR,F,k,Q,AX,A0]
 simp only[eM,c8,yG,kO,bY,b6,k7,cL,dY,aT4,fC,aSG,pU,dM,dH,sU,jX,R.bind_ok,AS,AN,AT,A5,Nat.reduceAdd,Nat.reduceLeDiff,BR,v,I,j,t,(aXT [.str w,.str w,.str w,.str w] [.str w,.str w,.str w] (by simp)),A8,BD,AX,A0,aN,iI,aOY,kZ,g,(aW3 D.sh),i5,BZ,C8,mL,jJ,r,b,P,a,n]
end
theorem aPE:∀ ns:L9 Int,ns.length<=63->aQB [.d (.list (ns.map .int))]=.ok (.d (.bool true)):=by
 intro ns af
 rw[show PyData.list _=dW ns from rfl]
 obtain⟨rs,sg,N,es,S⟩:=aTJ ns 0
 have es:i8 [.d _,.d (.int 0)]=_:=es
 have W:=S.wy
 have hN:=S.n
 have M:=S.m
 have r5:=S.r5
 have f1:=aY8 W (S.e.up S.few (by simp))
 have Mw:=W.rdw
 have ae:=W.rows_len
 have l:Rdw _ ((c5 rs sg N).map cA) sg:=⟨Mw.r,by rw[AC];exact Mw.wl,λw y=>by
  obtain⟨v,F,rfl⟩:=A1.mp y
  rcases stopW_is (Mw.ww v F)with h|h
  .exact .inl h
  .exact .inr (.inl h)⟩
 obtain⟨L,P,K⟩:=aMA l
 obtain⟨g,T⟩:=aMB l.r K
 have fs:=aT3 Mw f1 K P T (by have:=T.le;ext)
 have M2:=aOR l K T
 have sp:Stp (bT (bZ rs sg N) ((c5 rs sg N).map cA) L g):=λw y=>by
  unfold bT at y
  obtain⟨q,hq,rfl⟩:=A1.mp y
  rw[AK,AE,AI (by rw[Mw.wl];exact(mO l.r K q hq))]
  exact stopW_is (Mw.ww _ (CY (by rw[Mw.wl];exact(mO l.r K q hq))))
 have says:=yW l K T
 have Ms:=tQ M2 sp
 have b:∀ z,aH sg z->a7 (f7 (bG (bZ rs sg N) L g) (bT (bZ rs sg N) ((c5 rs sg N).map cA) L g)) z=cA (a7 rs z):=λz Sz=>by
  rw[aMC M2 sp Sz,says z Sz.2,<-W.says Sz]
  rw[AK,AE,AK,AI (by rw[Mw.wl];exact(jM Mw.r z (q:=0) Sz.2 Mw.r.n1))];rfl
 obtain⟨L1,e1,x⟩:=aMA Mw
 obtain⟨N1,T1⟩:=aMB Mw.r x
 have u:=aP7 Mw x e1 T1
 have fl:lE [.d (aK rs)]=.ok (.d (rdW (bG (bZ rs sg N) L1 N1) (bT (bZ rs sg N) (c5 rs sg N) L1 N1))):=by
  generalize rdW (bG (bZ rs sg N) L1 N1) (bT (bZ rs sg N) (c5 rs sg N) L1 N1)=X at *
  unfold lE tX
  simp[f1,u]
 have b1:∀ z:Str,aH sg z.cps.toList->eP [.d (rdW (bZ rs sg N) (c5 rs sg N)),.d (.str z)]=.ok (.d (.str (a7 rs z.cps.toList))):=λz Sz=>by
  rw[<-W.says Sz]
  exact aQE Mw M.sg1 Sz
 have b2:∀ z:Str,aH sg z.cps.toList->eP [.d (rdW (bG (bZ rs sg N) L1 N1) (bT (bZ rs sg N) (c5 rs sg N) L1 N1)),.d (.str z)]=.ok (.d (.str (a7 rs z.cps.toList))):=λz Sz=>by
  rw[<-W.says Sz,<-yW Mw x T1 _ Sz.2]
  exact aQE (aOR Mw x T1) M.sg1 Sz
 obtain⟨G,fy,hG⟩:=aT6 M
 have fa:=aPC M (by ext)
 have f:∀ (z:Str) (c:Int),aH sg z.cps.toList->eW [.d (aK rs),.h 5 1 G [rdW (bZ rs sg N) (c5 rs sg N),rdW (bG (bZ rs sg N) L1 N1) (bT (bZ rs sg N) (c5 rs sg N) L1 N1),aK (f7 (bG (bZ rs sg N) L g) (bT (bZ rs sg N) ((c5 rs sg N).map cA) L g)),aK (cX sg rs)],.d (.str z),.d (.int c)]=.ok (.d (.bool true)):=λz c Sz=>aT7 M Ms r5 hG b1 b2 b Sz c
 obtain⟨r,t,s⟩:=M.cons
 have i1:dIx (aK rs) (.int 0)=.ok (aY r):=by rw[s.1];exact pW _ _
 have i2:dIx (aY r) (.int 1)=.ok (.tuple (r.c.map cellD)):=rfl
 have i3:dLen (.tuple (r.c.map cellD))=.ok (.int (sg:Int)):=by rw[yH,AC,s.2]
 clear b says sp Ms M2 u b1 b2 hG
 generalize aK rs=J at *
 generalize rdW (bZ rs sg N) (c5 rs sg N)=D1 at *
 generalize rdW (bG (bZ rs sg N) L1 N1) (bT (bZ rs sg N) (c5 rs sg N) L1 N1)=V at *
 generalize aK (f7 (bG (bZ rs sg N) L g) (bT (bZ rs sg N) ((c5 rs sg N).map cA) L g))=B at *
 generalize aK (cX sg rs)=E at *
 generalize m3 rs sg N=O at *
 generalize PyData.tuple (r.c.map cellD)=rc at *
 generalize aY r=rd at *
 have o:dLen (dW ns)=.ok (.int ns.length):=by show dLen (.list _)=_;rw[k9,AC]
 obtain⟨m,Q,m2⟩:∃ m:Nat,zX 20 (i4 48 (ns.length:Int))=11+(m:Int)/\m<=37:=by
  unfold zX i4
  refine⟨((if (if (ns.length:Int) < 48 then(ns.length:Int)else 48) > 20 then(if (ns.length:Int) < 48 then(ns.length:Int)else 48)else 20) - 11).toNat,?_,?_⟩<;>split<;>split<;>ext
 have Z:fK 11 (11+(m:Int))=.ok ((range m).map λi:Nat=>.int (11+(i:Int))):=by
  unfold fK
  rw[AJ ⟨by ext,by ext,by ext,by ext,by ext⟩]
  have e1:(11+(m:Int) - 11).toNat=m:=by ext
  rw[e1];rfl
 obtain⟨Y',q1,I,H,u7,rfl⟩:=i6 (fs:=stN 5) (fb:=lwL) (d:=λi:Nat=>PyData.int (11+(i:Int))) (xs:=range m) (Y:=[some (.d (dW ns)),some (.d J),some (.d O),some (.d (.int (sg:Int))),some (.h 5 1 G [D1,V,B,E]),none,none,none])
  (λi Y=>∃ I H u7:O9 A,Y=[some (.d (dW ns)),some (.d J),some (.d O),some (.d (.int (sg:Int))),some (.h 5 1 G [D1,V,B,E]),I,H,u7]) ⟨none,none,none,rfl⟩
  (λi k Y hk U=>by
   obtain⟨I,H,u7,rfl⟩:=U
   obtain⟨v,F⟩:=pZ ns (11+(k:Int))
   have ab:d1 aDD (.int v)=.ok (.int (aDD v)):=rfl
   generalize aDD v=a at *
   have k8:dDiv (.int a) (.int 8)=.ok (.int (a / 8)):=gU (by decide) (by decide)
   have k5:dDiv (.int a) (.int 512)=.ok (.int (a / 512)):=gU (by decide) (by decide)
   have k6:dMod (.int (a / 8)) (.int 6)=.ok (.int (a / 8 % 6)):=cC (by decide)
   have C:dMod (.int (a / 8)) (.int 31)=.ok (.int (a / 8 % 31)):=cC (by decide)
   have ac:dMod (.int a) (.int 8)=.ok (.int (a % 8)):=cC (by decide)
   obtain⟨n,hn,n3⟩:∃ n:Nat,dIx (.list [.int (a / 8 % 6),.int (a / 8 % 31)]) (.int (if decide (a % 8=0)=true then 1 else 0))=.ok (.int (n:Int))/\n<=31:=by
    by_cases h:a % 8=0
    · exact⟨(a / 8 % 31).toNat, by rw [A2 h, AJ rfl, aWF, DG (B2 _ (by decide))], by ext⟩
    · exact⟨(a / 8 % 6).toNat, by rw [BA h, AL (by decide), aLI, DG (B2 _ (by decide))], by ext⟩
   obtain⟨z,e4⟩:=aSL (ns:=ns) (at':=11+(k:Int)) (m:=n) (sg:=sg) (by ext) (by ext) M.sg1 M.sg3
   refine⟨_,[some (.d (dW ns)),some (.d J),some (.d O),some (.d (.int (sg:Int))),some (.h 5 1 G [D1,V,B,E]),some (.d (.int (11+(k:Int)))),some (.d (.int a)),some (.d (.int (n:Int)))],rfl,.inl ?_,_,_,_,rfl⟩
   simp only[lwL,aN,cY,dY,dM,eM,dH,k7,yG,kO,c8,cL,bY,b6,fC,aMO,AS,AN,R.bind_ok,AT,A5,Nat.reduceAdd,Nat.reduceLeDiff,BR,F,jX,ab,AX,A0,k8,k5,k6,C,ac,bV,aWD,hn,e4.1,(f z (a / 512) e4.2.1),iI,aSF,i5,Bool.not_true,BZ,C8,mL])
 have te:=f "" 0 ⟨by decide,λc hc=>(nomatch (show c∈([]:L9 Nat)from hc))⟩
 unfold aQB
 rw[aJB]
 have aa:∀ i j:Int,d2 zX (.int i) (.int j)=.ok (.int (zX i j)):=λi j=>rfl
 have D:∀ i j:Int,d2 i4 (.int i) (.int j)=.ok (.int (i4 i j)):=λi j=>rfl
 have p:replicate 7 (none:O9 A)=[none,none,none,none,none,none,none]:=rfl
 simp only[cZ,aN,aSE,cY,dY,eM,dM,dH,k7,cL,bY,b6,fC,AW,BE,AT,A5,Nat.reduceAdd,Nat.reduceSub,p,A8,BD,AS,AN,R.bind_ok,BR,es,jX,aLG,aDZ,aGE,aDY,EO,kJ,AX,A0,c8,i1,i2,i3,aY9,fy,f1,fl,fs,fa,Nat.reduceLeDiff,pT,aIL,o,aa,D,Q,Z,q1,jJ,aMO,te]
end _e
namespace _a
theorem aEY(a:nsIn K cStatics "thirdparty.any"=some none)(b:typeIn K (.ref C)=some (.type "type"))(c:findIn K (.type "type") "__getattribute__"=some (some (.builtin "type.__getattribute__")))(d:subIn K (.type "type") (.type "type")=some true):readsIn K C (.type "type")=true:=by
 unfold readsIn
 rw[a,b,c,d]
 rfl
theorem aQF(a:findIn K (.type "type") "__init__"=some (some (.builtin "type.__init__")))(b:specialIn K (.builtin "type.__init__") "__get__"=some (some g))(c:takesIn K (.builtin "type.__init__")=some false)
  (d:findIn K (.ref C) "__init__"=some (some (.ref f))) (e:typeIn K (.ref f)=some (.type "function")):findCls K (.ref C) (.type "type") "__init__"=some (.val (.ref f)):=by
 unfold findCls
 simp only[EO,d]
 rw[e]
 rfl
end _a
variable{k:Array (O9 V9)}{n:V9}
namespace _e
open _f
section
variable{P:P9}{w:W9}{K:Frag}{mg:Str->O9 V9}{base:Hz}{TH:Hp}
theorem aAU:FnScope ["self","place","room"] ["self","place","room"] (aF (a5 (top 56) 0)):=by constructor<;>first|rfl|decide +kernel
theorem lX{fd:FuncData}(F:Fun K "__init__" "Ending.__init__" (a5 (top 56) 0) f fd):FnOk P w K mg base CX0 1 f fd ["self","place","room"] (_a.spB K ["place","room"]):=by
 refine F.ok aAU (λvs H Q E h=>?_) (λe A outer s H vs Q E hr h=>?_)
 .obtain ⟨x,C,dx,us,rfl,c,_⟩:=h
  rw[AT,c];rfl
 .obtain ⟨x,C,dx,us,rfl,c,g,cl,d,q⟩:=h
  obtain⟨a,b,rfl⟩:∃ a b,us=[a,b]:=match us,c with|[a,b],_=>⟨a,b,rfl⟩
  refine⟨_,_a.aX (o9 (pv 0) (pv 1) rfl) (_a.dQ (o9 (pv 0) (pv 2) rfl)),?_⟩
  refine⟨_,rfl,_,rfl,x,C,dx,_,rfl,g,cl,d _ (by decide),(show(0:Nat) < 1000 by decide),?_⟩
  refine⟨_,rfl,_,rfl,x,C,dx,_,rfl,aO,cl,d _ (by decide),(show(1:Nat) < 1000 by decide),?_⟩
  rw[_a.kE];exact q
theorem aBQ:FnScope ["self","place","room","borders"] ["self","place","room","borders"] (aF (a5 (top 57) 0)):=by constructor<;>first|rfl|decide +kernel
theorem aBR{CE g:Az}{fd a:FuncData}(F:Fun K "__init__" "LetBy.__init__" (a5 (top 57) 0) f fd)(l:FnOk P w K mg base CX0 1 g a ["self","place","room"] (_a.spB K ["place","room"]))(n:cO K a ["self","place","room"] [])(cm:ClsM K CE "__init__" g)(m:mg "Ending"=some (.ref CE))(cl:Cls K C)(j:∀ f∈(["place","room","borders"]:L9 Str),jS K C f):FnOk P w K mg base CX0 2 f fd ["self","place","room","borders"] (spO C ["place","room","borders"]):=by
 refine F.ok aBQ (λvs H Q E h=>?_) (λk A outer s H vs Q E hr h=>?_)
 .obtain ⟨x,dx,us,rfl,e,_⟩:=h
  rw[AT,e];rfl
 .obtain ⟨x,dx,us,rfl,e,o,q⟩:=h
  obtain⟨b,c,d,rfl⟩:∃ b c d,us=[b,c,d]:=match us,e with|[b,c,d],_=>⟨b,c,d,rfl⟩
  refine⟨_,_a.aX (_a.jF (aAQ (jE (v:=.ref CE) rfl m rfl) cm l hr n .nil aBX (aT (pv 0) (aT (pv 1) (aT (pv 2) bI))))) (_a.dQ (o9 (pv 0) (pv 3) rfl)),?_⟩
  refine⟨rfl,_,rfl,_,rfl,_,rfl,x,C,dx,[b,c],rfl,rfl,o,cl,λf i=>j f (by simp only[AV,B8,DE]at i ⊢;rcases i with h|h<;>simp[h]),?_⟩
  refine⟨_,rfl,_,rfl,x,C,dx,_,rfl,aO,cl,j _ (by decide),(show(2:Nat) < 1000 by decide),?_⟩
  rw[_a.kE];exact q
def aPF(cn qn:Str)(st:Stmt)(K:Frag)(mg:Str->O9 V9):Prop:=∃ CE fE fdE C fI fdI,mg "Ending"=some (.ref CE)/\ClsM K CE "__init__" fE/\Fun K "__init__" "Ending.__init__" (a5 (top 56) 0) fE fdE/\cO K fdE ["self","place","room"] []/\mg cn=some (.ref C)/\Cls K C/\(∀ f∈(["place","room","borders"]:L9 Str),jS K C f)/\Mk K C fI/\Fun K "__init__" qn st fI fdI/\cO K fdI ["self","place","room","borders"] []
abbrev t9:=aPF "LetBy" "LetBy.__init__" (a5 (top 57) 0)
theorem aE6(h:t9 K mg):∃ C,MkAt P w K mg base 2 "LetBy" ["place","room","borders"] C:=by
 obtain⟨CE,e,d,C,c,b,a⟩:=h
 exact⟨C,a.2.2.2.2.1,c,b,a.2.2.2.2.2.2.2.1,aBR a.2.2.2.2.2.2.2.2.1 (lX a.2.2.1) a.2.2.2.1 a.2.1 a.1 a.2.2.2.2.2.1 a.2.2.2.2.2.2.1,a.2.2.2.2.2.2.2.2.2⟩
theorem y7:FnScope ["self","place","room","borders"] ["self","place","room","borders"] (aF (a5 (top 58) 0)):=by constructor<;>first|rfl|decide +kernel
theorem y8{CE g:Az}{fd a:FuncData}(F:Fun K "__init__" "ShutOut.__init__" (a5 (top 58) 0) f fd)(l:FnOk P w K mg base CX0 1 g a ["self","place","room"] (_a.spB K ["place","room"]))(n:cO K a ["self","place","room"] [])(cm:ClsM K CE "__init__" g)(m:mg "Ending"=some (.ref CE))(cl:Cls K C)(j:∀ f∈(["place","room","borders"]:L9 Str),jS K C f):FnOk P w K mg base CX0 2 f fd ["self","place","room","borders"] (spO C ["place","room","borders"]):=by
 refine F.ok y7 (λvs H Q E h=>?_) (λk A outer s H vs Q E hr h=>?_)
 .obtain ⟨x,dx,us,rfl,e,_⟩:=h
  rw[AT,e];rfl
 .obtain ⟨x,dx,us,rfl,e,o,q⟩:=h
  obtain⟨b,c,d,rfl⟩:∃ b c d,us=[b,c,d]:=match us,e with|[b,c,d],_=>⟨b,c,d,rfl⟩
  refine⟨_,_a.aX (_a.jF (aAQ (jE (v:=.ref CE) rfl m rfl) cm l hr n .nil aBX (aT (pv 0) (aT (pv 1) (aT (pv 2) bI))))) (_a.dQ (o9 (pv 0) (pv 3) rfl)),?_⟩
  refine⟨rfl,_,rfl,_,rfl,_,rfl,x,C,dx,[b,c],rfl,rfl,o,cl,λf i=>j f (by simp only[AV,B8,DE]at i ⊢;rcases i with h|h<;>simp[h]),?_⟩
  refine⟨_,rfl,_,rfl,x,C,dx,_,rfl,aO,cl,j _ (by decide),(show(2:Nat) < 1000 by decide),?_⟩
  rw[_a.kE];exact q
abbrev o5:=aPF "ShutOut" "ShutOut.__init__" (a5 (top 58) 0)
theorem aBS(h:o5 K mg):∃ C,MkAt P w K mg base 2 "ShutOut" ["place","room","borders"] C:=by
 obtain⟨CE,e,d,C,c,b,a⟩:=h
 exact⟨C,a.2.2.2.2.1,c,b,a.2.2.2.2.2.2.2.1,y8 a.2.2.2.2.2.2.2.2.1 (lX a.2.2.1) a.2.2.2.1 a.2.1 a.1 a.2.2.2.2.2.1 a.2.2.2.2.2.2.1,a.2.2.2.2.2.2.2.2.2⟩
theorem y9:FnScope ["self","place","room","first","again"] ["self","place","room","first","again"] (aF (a5 (top 59) 0)):=by constructor<;>first|rfl|decide +kernel
theorem zA{CE j:Az}{fd a:FuncData}(F:Fun K "__init__" "ForEver.__init__" (a5 (top 59) 0) f fd)(m:FnOk P w K mg base CX0 1 j a ["self","place","room"] (_a.spB K ["place","room"]))(o:cO K a ["self","place","room"] [])(cm:ClsM K CE "__init__" j)(n:mg "Ending"=some (.ref CE))(cl:Cls K C)(i:∀ f∈(["place","room","first","again"]:L9 Str),jS K C f):FnOk P w K mg base CX0 2 f fd ["self","place","room","first","again"] (spO C ["place","room","first","again"]):=by
 refine F.ok y9 (λvs H Q E h=>?_) (λl A outer s H vs Q E hr h=>?_)
 .obtain ⟨x,dx,us,rfl,g,_⟩:=h
  rw[AT,g];rfl
 .obtain ⟨x,dx,us,rfl,g,p,q⟩:=h
  obtain⟨b,c,e,d,rfl⟩:∃ b c e d,us=[b,c,e,d]:=match us,g with|[b,c,e,d],_=>⟨b,c,e,d,rfl⟩
  refine⟨_,_a.aX (_a.jF (aAQ (jE (v:=.ref CE) rfl n rfl) cm m hr o .nil aBX (aT (pv 0) (aT (pv 1) (aT (pv 2) bI))))) (_a.aX (o9 (pv 0) (pv 3) rfl) (_a.dQ (o9 (pv 0) (pv 4) rfl))),?_⟩
  refine⟨rfl,_,rfl,_,rfl,_,rfl,x,C,dx,[b,c],rfl,rfl,p,cl,λf k=>i f (by simp only[AV,B8,DE]at k ⊢;rcases k with h|h<;>simp[h]),?_⟩
  refine⟨_,rfl,_,rfl,x,C,dx,_,rfl,aO,cl,i _ (by decide),(show(2:Nat) < 1000 by decide),?_⟩
  refine⟨_,rfl,_,rfl,x,C,dx,_,rfl,aO,cl,i _ (by decide),(show(3:Nat) < 1000 by decide),?_⟩
  rw[_a.kE,_a.kE];exact q
def mB(K:Frag)(mg:Str->O9 V9):Prop:=∃ CE fE fdE C fI fdI,mg "Ending"=some (.ref CE)/\ClsM K CE "__init__" fE/\Fun K "__init__" "Ending.__init__" (a5 (top 56) 0) fE fdE/\cO K fdE ["self","place","room"] []/\mg "ForEver"=some (.ref C)/\Cls K C/\(∀ f∈(["place","room","first","again"]:L9 Str),jS K C f)/\Mk K C fI/\Fun K "__init__" "ForEver.__init__" (a5 (top 59) 0) fI fdI/\cO K fdI ["self","place","room","first","again"] []
theorem aBT(h:mB K mg):∃ C,MkAt P w K mg base 2 "ForEver" ["place","room","first","again"] C:=by
 obtain⟨CE,e,d,C,c,b,a⟩:=h
 exact⟨C,a.2.2.2.2.1,c,b,a.2.2.2.2.2.2.2.1,zA a.2.2.2.2.2.2.2.2.1 (lX a.2.2.1) a.2.2.2.1 a.2.1 a.1 a.2.2.2.2.2.1 a.2.2.2.2.2.2.1,a.2.2.2.2.2.2.2.2.2⟩
def MtK(K:Frag)(mg:Str->O9 V9)(c m q:Str)(st:Stmt):Prop:=∃ C f fd,mg c=some (.ref C)/\Cls K C/\Meth K C m f/\Fun K m q st f fd/\cO K fd ["self"] []
set_option maxHeartbeats 0 in
theorem aT8(T:Txt w K mg)(D:AllD K mg (("signs_of",9,["machine"])::("cells_of",10,["machine","number"])::("checked_by",11,["signs","strip"])::("checked",12,["machine","strip"])::("reached",14,["begin","after","done"])::("never",15,["found","at"])::("is_word",18,["part"])::("without_signs",19,["machine"])::("gone_on",20,["backs","cells","room"])::("longer",21,["begun","cells"])::("word_behind",22,["machine","begun"])::("signs_by",24,["reader"])::("room_from",25,["reader","room","strip"])::("room_by",26,["reader","strip"])::("word_by",27,["reader","strip"])::("still",29,["rooms"])::("sign_table",30,["machine","sign"])::("gone_out",31,["one","other","thing","inward"])::("behind",32,["one","other"])::("table_of",33,["machine","strip"])::("said",34,["machine","table"])::("mirrored_row",35,["row"])::("mirrored",36,["machine"])::("moved_turn",38,["turn","rooms"])::("moved_row",39,["row","rooms"])::("moved",40,["machine","rooms"])::("bounded",41,["rows"])::("turned_about",42,["machine"])::("firsts",44,["keys"])::("behind_signs",45,["likes","row"])::("finer",46,["rows","likes"])::("alike_rooms",47,["reader"])::("least_of",49,["machine"])::("stopping_word",51,["word"])::("stopping_row",52,["reader","room"])::("stopping",53,["machine"])::("cell_at",60,["machine","strip","stand"])::("path",61,["machine","strip"])::("borders_of",62,["stands","strip"])::("walk",63,["machine","strip"])::("_law_cell",66,["_law_script","_law_k"])::("_law_end",67,["_law_number","_law_rooms"])::("_law_digit_row",68,["_law_number","_law_rooms","_law_signs"])::("_law_mixed_row",69,["_law_number","_law_rooms","_law_signs"])::("_law_machine",70,["_law_script","_law_at","_law_rooms","_law_signs"])::("_law_strip",71,["_law_script","_law_at","_law_size","_law_signs"])::("_law_step",72,["_law_machine_here","_law_strip_here","_law_stand"])::("_law_stands",73,["_law_machine_here","_law_strip_here"])::("_law_says",74,["_law_machine_here","_law_strip_here"])::("_law_beyond",76,["_law_machine_here","_law_strip_here","_law_place","_law_room"])::("_law_beginning",77,["_law_machine_here","_law_strip_here"])::("_law_ways",78,["_law_machine_here","_law_signs","_law_most"])::("_law_small",79,["_law_script","_law_at"])::("_law_told",80,["_law_machine_here","_law_roads","_law_strip_here","_law_cell_here"])::[]))(Ob_LetBy:t9 K mg)(Ob_ShutOut:o5 K mg)(Ob_ForEver:mB K mg)(Mt_LetBy_says:MtK K mg "LetBy" "says" "LetBy.says" (a5 (top 57) 1))(Mt_ShutOut_says:MtK K mg "ShutOut" "says" "ShutOut.says" (a5 (top 58) 1))(Mt_ForEver_says:MtK K mg "ForEver" "says" "ForEver.says" (a5 (top 59) 1))(S:DefAtT K mg base TH qsT "one_way" (top 23) ["machine"])(U:DefAtT K mg base TH qsT "least" (top 48) ["reader"])(R:DefAtT K mg base TH qsT "sayer" (top 64) ["machine"]){W:Az}{L:FuncData}(Z:Fun K "law" "law" (top 81) W L):FnOk P w K mg base (CXe P w) 16 W L ["_law_script"] (x8 K TH):=by
 obtain⟨Co_LetBy,B⟩:=aE6 (P:=P) (w:=w) (base:=base) Ob_LetBy
 obtain⟨Co_ShutOut,v⟩:=aBS (P:=P) (w:=w) (base:=base) Ob_ShutOut
 obtain⟨Co_ForEver,y⟩:=aBT (P:=P) (w:=w) (base:=base) Ob_ForEver
 have mt_says:∀ p∈[(("LetBy":Str),dO),(("ShutOut":Str),cV),(("ForEver":Str),cW)],aEN P w K mg base TH 1 p.1 "says" p.2:=by
  intro p V
  simp only[AV,B8,DE]at V
  rcases V with rfl|rfl|rfl
  .obtain ⟨C,f,fd,h1,h2,I,O,M⟩:=Mt_LetBy_says
   exact⟨C,f,fd,h1,h2,I,aAT T O ,M⟩
  .obtain ⟨C,f,fd,h1,h2,I,O,M⟩:=Mt_ShutOut_says
   exact⟨C,f,fd,h1,h2,I,xA T O ,M⟩
  .obtain ⟨C,f,fd,h1,h2,I,O,M⟩:=Mt_ForEver_says
   exact⟨C,f,fd,h1,h2,I,xB T O ,M⟩
 refine stA c7 0 ["machine"] D (λo D=>?_)
 refine stA hR 0 ["machine","number"] D (λn D=>?_)
 refine stA gY 0 ["signs","strip","known","at","sign"] D (λ_ D=>?_) (hb:=λf t A outer s H F E hr nd=>by exact(_f.aX (by symm) (_f.aX (_f.jR (by symm) (_a.jR (lJ ⟨rfl,rfl⟩) rfl (aTM (aM7 rfl T.b_enumerate (aT (by symm) bI))) (by symm) (by symm))) (by symm))))
 refine stA iM 1 ["machine","strip"] D (λ_ D=>?_)
 refine stA fF 12 ["begin","after","done","found","numbers","rows","row","thing"] D (λg D=>?_) (hb:=λf t A outer s H F E hr nd=>by delta aBG rhT rhB rhF;exact(_f.aX (by symm) (_f.aX (by symm) (_f.aX (by symm) (_f.aX (_f.nC (_a.nC (lJ ⟨rfl,rfl⟩) (PW.pt (_f.xG (by symm) (_f.uC (_f.rZ (_f.rY (aR0 (m:=12) rfl rfl rfl (hr.mono (by decide)) (aDI (pv 2) (jH λ_ _ _ h=>h) (aDJ (by symm) (aDJ (by symm) aRZ))))))))) (_f.aX (by symm) (_f.aX (_f.jR (m7 7) (_a.jR (lJ ⟨rfl,rfl⟩) rfl (aVJ rfl (aV1 (m:=12) rfl rfl rfl (hr.mono (by decide)) (aDI (pv 1) (jH λ_ _ _ h=>h) (by symm)))) (by symm) (by symm))) (by symm))))) (by symm))))))
 refine stA kN 0 ["found","at"] D (λr D=>?_)
 refine stA kK 0 ["part"] D (λ_ D=>?_)
 refine stA fW 0 ["machine","lefts"] D (λc D=>?_)
 refine stA kM 1 ["backs","cells","room","been","cell"] D (λ_ D=>?_) (hb:=by delta aBH oT oB;symm)
 refine stA gE 2 ["begun","cells","first","backs"] D (λq D=>?_)
 refine stA dS 1 ["machine","begun","room","been","turn"] D (λe D=>?_) (hb:=by delta rQ wT wB;symm)
 have z:=@aJC P w K mg base TH T S o n q g c e
 refine stA mW 0 ["reader"] D (λ_ D=>?_)
 refine stA jU 0 ["reader","room","strip","sign"] D (λ_ D=>?_)
 refine stA l8 1 ["reader","strip"] D (λ_ D=>?_)
 refine stA eP 2 ["reader","strip"] D (λk D=>?_)
 refine stA uV 0 ["rooms","fore","aft"] D (λ_ D=>?_)
 refine stA gZ 2 ["machine","sign","things"] D (λ_ D=>?_)
 refine stA hU 0 ["one","other","thing","inward","been"] D (λ_ D=>?_) (hb:=by delta aIH gT gB;symm)
 refine stA lO 1 ["one","other","fore","aft"] D (λ_ D=>?_)
 refine stA eU 3 ["machine","strip","tables","table","sign"] D (λ_ D=>?_)
 refine stA sQ 0 ["machine","table","thing","been","row","turn"] D (λ_ D=>?_) (hb:=by delta aLE sdT sdB;symm)
 refine stA gQ 0 ["row"] D (λ_ D=>?_)
 refine stA mV 1 ["machine"] D (λ_ D=>?_)
 refine stA gS 0 ["turn","rooms"] D (λ_ D=>?_)
 refine stA jV 1 ["row","rooms","cells"] D (λ_ D=>?_)
 refine stA uW 2 ["machine","rooms"] D (λ_ D=>?_)
 refine stA l9 0 ["rows"] D (λ_ D=>?_)
 refine stA iE 3 ["machine","rows","onward"] D (λ_ D=>?_)
 refine stA kA 0 ["keys","first","room","key"] D (λ_ D=>?_)
 refine stA cD 0 ["likes","row"] D (λd D=>?_)
 refine stA pR 1 ["rows","likes"] D (λ_ D=>?_)
 refine stA dU 2 ["reader","likes","again"] D (λl D=>?_) (hb:=by delta rR arT arB;symm)
 have J:=@aO6 P w K mg base TH T U l d g r
 refine stA lE 14 ["machine"] D (λ_ D=>?_)
 refine stA fX 0 ["word"] D (λ_ D=>?_)
 refine stA gR 0 ["reader","room","left"] D (λ_ D=>?_)
 refine stA lF 14 ["machine","reader","words","smallest","rooms"] D (λ_ D=>?_)
 refine stA mK 0 ["machine","strip","stand","place","row"] D (λ_ D=>?_)
 refine stA rP 2 ["machine","strip","stand","stands","been","cell"] D (λ_ D=>?_) (hb:=by delta aES ptT ptB;symm)
 refine stA jD 0 ["stands","strip","crossings","here","there"] D (λ_ D=>?_) (hb:=λf t A outer s H F E hr nd=>by exact(aOX (is:=[3,4]) (_a.xR (i:=2) nd rfl (Or.inl rfl) (by rfl) (N:=["border"]) (js:=[none]) rfl (.own .nil) (by rfl) (aPT (aFR (aAW rfl T.b_range (aT (fV (nK (aFJ rfl) aA8 (fV (aKS rfl (j5 aCE rfl T.b_len PySem.boot_len (aT (mH (pv 1)) bI)))) (fV pM))) bI))))) rfl (λcl C s0 H0 X=>⟨o8 (i:=0) (show(["border"]:L9 Str).Nodup by decide +kernel) rfl (Or.inl rfl),aCF bI⟩) (aKV rfl (wJ (m7 3) (wJ (m7 4) aFN)) rfl) (by decide)
   (_a.jR (lJ ⟨rfl,rfl⟩) rfl (aF9 rfl (_a.aDS rfl T.b_zip (aT (aKJ (pv 0)) (aT (aC8 rfl (mH (pv 0)) (aPV (fV pM)) aPU) bI)))) (aJJ rfl (v7 (o8 (i:=3) nd rfl (Or.inl rfl)) (v7 (o8 (i:=4) nd rfl (Or.inl rfl)) aE7))) (_a.dQ (_a.jF (xN EG GD GE aA3 (aBW aUZ (pv 2) (fV (aDE (G:=i4) (j5 (aAY rfl) rfl T.b_min GW (aT (fV (aB0 (aB1 rfl) qR (mH (pv 3)) (fV pM))) (aT (fV (aB0 (aB1 rfl) qR (mH (pv 4)) (fV pM))) bI))))) (λ_ _=>rfl)) (aT (aB0 (aB1 rfl) qR (mH (pv 4)) (fV pM)) bI)))))
   (_f.dQ (_f.iU (jI (wI rfl (oA mP rfl T.b_tuple EF (aT (fV (xX (aFT (aFB (N:=["rooms"]) (js:=[none]) rfl (.own .nil) (by rfl) (aVK rfl (mH (pv 2)))) (by decide) (by decide) (is:=[0]) (λcl C s0 H0 X=>⟨_,(o8 (i:=0) (show(["rooms"]:L9 Str).Nodup by decide +kernel) rfl (Or.inl rfl)),(m7 0),_f.pA,(wI rfl (oA mP rfl T.b_tuple EF (aT (mH (pv 0)) bI)))⟩)))) bI))))))))
 refine stA gG 3 ["machine","strip","stands","last","word"] D (λu D=>?_)
 have Q:=@aO7 P w K mg base TH T R u mt_says
 refine stA bP 0 ["_law_script","_law_k","_law_cell_here","_law_mixed"] D (λ_ D=>?_)
 refine stA hZ 0 ["_law_number","_law_rooms"] D (λ_ D=>?_)
 refine stA h8 0 ["_law_number","_law_rooms","_law_signs","_law_left","_law_cells","_law_k","_law_ends"] D (λ_ D=>?_)
 refine stA iA 1 ["_law_number","_law_rooms","_law_signs","_law_pieces","_law_k","_law_cells"] D (λ_ D=>?_) (hb:=by delta nX mxB mxE;symm)
 refine stA eH 2 ["_law_script","_law_at","_law_rooms","_law_signs","_law_rows","_law_room","_law_row"] D (λ_ D=>?_) (hb:=by delta pY mcB mcT mcU;symm)
 refine stA gV 1 ["_law_script","_law_at","_law_size","_law_signs","_law_number","_law_strip_here","_law_k"] D (λ_ D=>?_) (hb:=λf t A outer s H F E hr nd=>by exact(_f.aX (by symm) (_f.dQ (_f.iU (jI (aRI rfl (xN GT PySem.F.slot_str_join PySem.F.type_str_join aQW (by symm) (aT (by symm) bI)) (by intro Y x h;cases h;exact⟨_,rfl⟩)))))))
 refine stA iK 0 ["_law_machine_here","_law_strip_here","_law_stand","_law_place","_law_room","_law_left","_law_cells","_law_right","_law_there","_law_step_here"] D (λ_ D=>?_)
 refine stA j2 1 ["_law_machine_here","_law_strip_here","_law_stands_here","_law_met","_law_after"] D (λ_ D=>?_) (hb:=by delta rS wW wX;symm)
 refine stA eO 2 ["_law_machine_here","_law_strip_here","_law_place","_law_room"] D (λb D=>?_)
 refine stA fR 1 ["_law_machine_here","_law_strip_here","_law_place","_law_room","_law_met"] D (λ_ D=>?_) (hb:=by delta rT byT byB;symm)
 refine stA eI 2 ["_law_machine_here","_law_strip_here","_law_backs"] D (λ_ D=>?_)
 refine stA cE 3 ["_law_machine_here","_law_signs","_law_most","_law_strips","_law_known","_law_rows","_law_row","_law_sign","_law_strip_here","_law_begun"] D (λ_ D=>?_) (hb:=by delta vU wyT wyB wyF wyE;symm)
 refine stA i8 4 ["_law_script","_law_at","_law_signs","_law_rooms","_law_machine_here","_law_ways_here"] D (λ_ D=>?_)
 refine stA eW 12 ["_law_machine_here","_law_roads","_law_strip_here","_law_cell_here","_law_word","_law_at","_law_put","_law_told_here"] D (λa D=>?_) (hb:=λf t A outer s H F E hr nd=>by exact(_f.aX (by symm) (_f.aX (by symm) (_f.aX (by symm) (_f.aX (uN (_a.eZ (i:=7) nd rfl (Or.inl rfl) (aC4 (lM (by symm) (lM (aTX (m:=12) rfl rfl rfl (hr.mono (by decide)) (aO4 (aY4 (pv 1) o6) (jH λ_ _ _ h=>h) (by symm))) (by symm)))))) (_f.aX (uN (_a.eZ (i:=7) nd rfl (Or.inl rfl) (aK1 rfl (by symm) (fV (xX (aC4 (lM (uM (qT rfl rfl rfl (qG k (hr.mono (by decide)) rfl (jH λ_ _ _ h=>h) (gD (jI (yZ (j:=0) (pv 1) o6)) (by symm))))) (lM (uM (qT rfl rfl rfl (qG k (hr.mono (by decide)) rfl (jH λ_ _ _ h=>h) (gD (jI (yZ (j:=1) (pv 1) o6)) (by symm))))) (lM (uM (qT rfl rfl rfl (qG b (hr.mono (by decide)) rfl (jH λ_ _ _ h=>h) (gD (jI (yZ (j:=3) (pv 1) o6)) (gD (jI (aVR (aVQ (by symm) (by symm)))) aFM))))) aFL))))))))) (_f.aX (_f.xI (_f.iH (aC3 rfl hr.units) wG (by symm) (fV (xX (aTP (by symm) (by symm)))) (fS _)) (by symm) _f.o7) (_f.dQ (_f.iU (jI (nL (aC2 rfl hr.units) wF (fV (uM (qT rfl rfl rfl (qG b (hr.mono (by decide)) rfl (jH λ_ _ _ h=>h) (gD (jI (yZ (j:=2) (pv 1) o6)) (by symm)))))) (by symm) (fS _))))))))))))
 exact aVT (aT0 (fb:=aJB) ["_law_script","_law_machine_here","_law_ways_here","_law_signs","_law_roads","_law_k","_law_cell_here","_law_size"] Z (by symm) (λ_ t A outer s H F E hr nd=>by delta aJB lwL;exact(_f.aX (by symm) (_f.aX (by symm) (_f.aX (_f.eZ (_a.eZ (i:=4) nd rfl (Or.inl rfl) (aTY (by symm) (by symm)))) (_f.aX (_f.jR (m7 5) (_a.jR (lJ ⟨rfl,rfl⟩) rfl (aFS (aAX rfl T.b_range (aT (by symm) (aT (fV (aDE (G:=zX) (j5 (aJP rfl) rfl T.b_max boot_max (aT (by symm) (aT (fV (aDE (G:=i4) (j5 (aAY rfl) rfl T.b_min GW (aT (by symm) (aT (by symm) bI))))) bI))))) bI)))) (by symm) (_f.aX (_f.eZ (_a.eZ (i:=6) nd rfl (Or.inl rfl) (jI (aRQ (G:=aDD) (j5 aMW rfl T.b_abs boot_abs (aT (by symm) bI)))))) (_f.aX (by symm) (_f.dQ (_f.xI (_f.rZ (_f.rY (uM (qT rfl rfl rfl (qG a (hr.mono (by decide)) rfl (jH λ_ _ _ h=>h) (gD (by symm) (gD (aG6 (pv 4)) (by symm)))))))) (by symm) _f.o7)))))) (_f.dQ (_f.iU (qT rfl rfl rfl (qG a (hr.mono (by decide)) rfl (jH λ_ _ _ h=>h) (gD (by symm) (gD (aG6 (pv 4)) (by symm))))))))))))) aPE
end
section
variable{w:W9}{K:Frag}{h:Hz}{mg:Str->O9 V9}
theorem aXU(X:K.In h)(G:h.Ns mainGlobals mg){d:Az}{a:Nat}{b:Nat}{e:Nat}{c:Az}(z_abs:nsIn K mainGlobals "abs"=some none)(z_bool:nsIn K mainGlobals "bool"=some none)(z_enumerate:nsIn K mainGlobals "enumerate"=some none)(z_int:nsIn K mainGlobals "int"=some none)(z_isinstance:nsIn K mainGlobals "isinstance"=some none)(z_len:nsIn K mainGlobals "len"=some none)(z_max:nsIn K mainGlobals "max"=some none)(z_min:nsIn K mainGlobals "min"=some none)(z_range:nsIn K mainGlobals "range"=some none)(z_str:nsIn K mainGlobals "str"=some none)(z_tuple:nsIn K mainGlobals "tuple"=some none)(z_zip:nsIn K mainGlobals "zip"=some none)(s_BEGIN:nsIn K mainGlobals "BEGIN"=some (some (.ref d)))(m_BEGIN:qH K d [.int 0,.int 0])(s_MOST_BEGINNINGS:nsIn K mainGlobals "MOST_BEGINNINGS"=some (some (.int 200 a)))(s_MOST_ROOMS:nsIn K mainGlobals "MOST_ROOMS"=some (some (.int 60 b)))(s_SIGNS:nsIn K mainGlobals "SIGNS"=some (some (.str "abc" e)))(s_STOPS:nsIn K mainGlobals "STOPS"=some (some (.ref c)))(m_STOPS:qH K c [.str "by",.str "out"]):Txt w K mg:=⟨BU X G z_abs,BU X G z_bool,BU X G z_enumerate,BU X G z_int,BU X G z_isinstance,BU X G z_len,BU X G z_max,BU X G z_min,BU X G z_range,BU X G z_str,BU X G z_tuple,BU X G z_zip,⟨d,CF X G s_BEGIN,m_BEGIN⟩,⟨a,CF X G s_MOST_BEGINNINGS⟩,⟨b,CF X G s_MOST_ROOMS⟩,⟨e,CF X G s_SIGNS⟩,⟨c,CF X G s_STOPS,m_STOPS⟩⟩
theorem v5(X:K.In h)(G:h.Ns mainGlobals mg){CE:Az}{d:Az}{w:V9}{t q:O9 Az}{o b:V9}{p s:O9 Az}{l i m c r:V9}(m1:nsIn K mainGlobals "Ending"=some (some (.ref CE)))(s1:specialIn K (.ref CE) "__getattribute__"=some (some (.builtin "type.__getattribute__")))
  (r1:nsIn K cStatics "thirdparty.any"=some none) (r2:typeIn K (.ref CE)=some (.type "type")) (r3:findIn K (.type "type") "__getattribute__"=some (some (.builtin "type.__getattribute__"))) (r4:subIn K (.type "type") (.type "type")=some true)
  (q1:findIn K (.type "type") "__init__"=some (some (.builtin "type.__init__"))) (q2:specialIn K (.builtin "type.__init__") "__get__"=some (some g)) (q3:takesIn K (.builtin "type.__init__")=some false) (q4:findIn K (.ref CE) "__init__"=some (some (.ref d))) (q5:typeIn K (.ref d)=some (.type "function"))
  (e_l:K.lookup d=some ⟨w,t,.func (fnOf "__init__" "Ending.__init__" (dC (a5 (top 56) 0)) (bB (a5 (top 56) 0)) (aF (a5 (top 56) 0)) .none o j n q b v),e⟩) (e_c:codeIn K b "Ending.__init__"=true) (e_k:keepIn K (.ref d)=true)
  (m2:nsIn K mainGlobals cn=some (some (.ref C))) (p1:plainGet K C Str.empty=true) (p2:hasDictIn K C=true) (p3:plainOver K C=true) (p4:findIn K (.ref C) "__setattr__"=some (some (.builtin "object.__setattr__")))
  (n0:findIn K (.ref C) "place"=some none) (n1:findIn K (.ref C) "room"=some none) (n2:findIn K (.ref C) "borders"=some none) (k1:makesIn K C=true) (k2:findIn K (.ref C) "__init__"=some (some (.ref a))) (k3:isFn K (.ref a)=true) (k4:keepIn K (.ref C)=true)
  (i_l:K.lookup a=some ⟨u,p,.func (fnOf "__init__" x (dC st) (bB st) (aF st) .none l i m s c r),k⟩) (i_c:codeIn K c x=true) (i_k:keepIn K (.ref a)=true) (hB:∀ {f:Az} {fd:FuncData},Fun K "__init__" x st f fd->cO K fd ["self","place","room","borders"] []):aPF cn x st K mg:=by
 have z:=mD (st:=(a5 (top 56) 0)) e_l e_c e_k
 have y:=mD (st:=st) i_l i_c i_k
 exact⟨CE,d,_,C,a,_,CF X G m1,⟨s1,aEY r1 r2 r3 r4,aQF q1 q2 q3 q4 q5,e_k⟩,z,z.binds (ps:=["self","place","room"]) (λ_ _ _ _ _ _=>_e.bn3 λ_ _ _=>rfl),CF X G m2,⟨p1,p2,p3,p4⟩,λf A=>by
  simp only[AV,B8,DE]at A
  rcases A with rfl|rfl|rfl
  · exact n0
  · exact n1
  · exact n2, ⟨k1, k2, k3, k4⟩, y, hB y⟩
theorem aBU(X:K.In h)(G:h.Ns mainGlobals mg){CE:Az}{d:Az}{w:V9}{t q:O9 Az}{o b:V9}{p s:O9 Az}{l i m c r:V9}(m1:nsIn K mainGlobals "Ending"=some (some (.ref CE)))(s1:specialIn K (.ref CE) "__getattribute__"=some (some (.builtin "type.__getattribute__")))
  (r1:nsIn K cStatics "thirdparty.any"=some none) (r2:typeIn K (.ref CE)=some (.type "type")) (r3:findIn K (.type "type") "__getattribute__"=some (some (.builtin "type.__getattribute__"))) (r4:subIn K (.type "type") (.type "type")=some true)
  (q1:findIn K (.type "type") "__init__"=some (some (.builtin "type.__init__"))) (q2:specialIn K (.builtin "type.__init__") "__get__"=some (some g)) (q3:takesIn K (.builtin "type.__init__")=some false) (q4:findIn K (.ref CE) "__init__"=some (some (.ref d))) (q5:typeIn K (.ref d)=some (.type "function"))
  (e_l:K.lookup d=some ⟨w,t,.func (fnOf "__init__" "Ending.__init__" (dC (a5 (top 56) 0)) (bB (a5 (top 56) 0)) (aF (a5 (top 56) 0)) .none o j n q b v),e⟩) (e_c:codeIn K b "Ending.__init__"=true) (e_k:keepIn K (.ref d)=true)
  (m2:nsIn K mainGlobals "ForEver"=some (some (.ref C))) (p1:plainGet K C Str.empty=true) (p2:hasDictIn K C=true) (p3:plainOver K C=true) (p4:findIn K (.ref C) "__setattr__"=some (some (.builtin "object.__setattr__")))
  (n0:findIn K (.ref C) "place"=some none) (n1:findIn K (.ref C) "room"=some none) (n2:findIn K (.ref C) "first"=some none) (n3:findIn K (.ref C) "again"=some none) (k1:makesIn K C=true) (k2:findIn K (.ref C) "__init__"=some (some (.ref a))) (k3:isFn K (.ref a)=true) (k4:keepIn K (.ref C)=true)
  (i_l:K.lookup a=some ⟨u,p,.func (fnOf "__init__" "ForEver.__init__" (dC (a5 (top 59) 0)) (bB (a5 (top 59) 0)) (aF (a5 (top 59) 0)) .none l i m s c r),k⟩) (i_c:codeIn K c "ForEver.__init__"=true) (i_k:keepIn K (.ref a)=true):mB K mg:=by
 have y:=mD (st:=(a5 (top 56) 0)) e_l e_c e_k
 have x:=mD (st:=(a5 (top 59) 0)) i_l i_c i_k
 exact⟨CE,d,_,C,a,_,CF X G m1,⟨s1,aEY r1 r2 r3 r4,aQF q1 q2 q3 q4 q5,e_k⟩,y,y.binds (ps:=["self","place","room"]) (λ_ _ _ _ _ _=>_e.bn3 λ_ _ _=>rfl),CF X G m2,⟨p1,p2,p3,p4⟩,λf z=>by
  simp only[AV,B8,DE]at z
  rcases z with rfl|rfl|rfl|rfl
  · exact n0
  · exact n1
  · exact n2
  · exact n3, ⟨k1, k2, k3, k4⟩, x, x.binds (ps := ["self", "place", "room", "first", "again"]) (λ_ _ _ _ _ _ => _e.bn5 λ_ _ _ _ _ => rfl)⟩
theorem aJF{c m q:Str}(X:K.In h)(G:h.Ns mainGlobals mg){k j:O9 Az}{f:Array (O9 V9)}{l e i d:V9}(m2:nsIn K mainGlobals c=some (some (.ref C)))(p1:plainGet K C Str.empty=true)(p2:hasDictIn K C=true)(p3:plainOver K C=true)(p4:findIn K (.ref C) "__setattr__"=some (some (.builtin "object.__setattr__")))
  (k2:findIn K (.ref C) m=some (some (.ref a))) (k3:isFn K (.ref a)=true) (m_l:K.lookup a=some ⟨n,k,.func (fnOf m q (dC st) (bB st) (aF st) .none l e i j d g),f⟩) (m_c:codeIn K d q=true) (m_k:keepIn K (.ref a)=true)
  (b:∀ (kV doc pm:V9) (an:O9 Az) (cdv ct:V9) (us:L9 V9),us.length=1->bindArgs (fnOf m q (dC st) (bB st) (aF st) .none kV doc pm an cdv ct) ⟨us,[]⟩=pure ((["self"]:L9 Str).zip us)):MtK K mg c m q st:=by
 have o:=mD (st:=st) m_l m_c m_k
 exact⟨C,a,_,CF X G m2,⟨p1,p2,p3,p4⟩,⟨k2,k3,m_k⟩,o,o.binds (ps:=["self"]) b⟩
theorem rec_in{q:P9}(h:((recsOf q).any λd=>d.name == x)=true):∃ d∈recsOf q,d.name=x:=by
 obtain⟨d,a,e⟩:=List.any_eq_true.mp h
 exact⟨d,a,eq_of_beq e⟩
theorem aXV{i:Az}{m:O9 Az}{d:Array (O9 V9)}{kV b:V9}(X:K.In h)(G:h.Ns mainGlobals mg)(g:mg "law"=some (.ref i))(a:nsIn K mainGlobals "law"=some (some (.ref f)))(l:K.lookup f=some ⟨j,od,.func (fnOf "law" "law" (dC (top 81)) (bB (top 81)) (aF (top 81)) .none kV doc pm m b ct),d⟩)
  (c:codeIn K b "law"=true) (k:keepIn K (.ref f)=true):∃ fd,Fun K "law" "law" (top 81) i fd/\∀ (s:S9) (u:V9),BindsTo s fd ⟨[u],[]⟩ [("_law_script",u)]:=by
 have e:=g.symm.trans (CF X G a)
 cases e
 exact⟨_,mD (st:=top 81) l c k,λs u=>.of_eq rfl⟩
end
end _e
open PySem.W
set_option hygiene false
local macro_rules|`(tactic|trivial)=>`(tactic|(dsimp only[_a.KOf];refine' _e.qI KX G ?a ?l ?c ?k ?b;(case a=>k_is);(case l=>k_is);(case c=>k_is);(case k=>k_is);first|(case b=>exact λ_ _ _ _ _ _=>_e.bn1 λ_=>rfl)))
set_option hygiene true
set_option maxRecDepth 100000 in
set_option maxHeartbeats 0 in
theorem PySem.Challenge.cw_striproam_k43_whole_all_roads_holds : PySem.Challenge.rw_striproam_k43_whole_all_roads.Holds := by
 w_on;o_law;k_head;(case hw=>w_witness2)
 k_fill
 refine _f.aRP (l:=PySem.Challenge.rw_striproam_k43_whole_all_roads) (k:=16) (x:="_law_script") (qs:=_e.qsT) (xs:=["one_way","least","sayer"]) ?hx ?hNT rfl rfl ⟨rfl,by decide,by decide⟩ (λw h Yq=>PySem.W.km_in_of Yq) ?F
 case hx=>
  intro x hx
  simp only[AV,B8,DE]at hx
  rcases hx with rfl|rfl|rfl<;>exact _e.rec_in (by decide +kernel)
 case hNT=>
  intro w
  kernel_rfl
 case F=>
  intro w mg m h KX G d
  have i:_a.DefAt (_a.KOf KX) mg "one_way" (_e.top 23) ["machine"]:=by trivial
  have e:_a.DefAt (_a.KOf KX) mg "least" (_e.top 48) ["reader"]:=by trivial
  have f:_a.DefAt (_a.KOf KX) mg "sayer" (_e.top 64) ["machine"]:=by trivial
  have T:_e.Txt w (_a.KOf KX) mg:=by
   dsimp only[_a.KOf]
   refine' _e.aXU KX G ?z_abs ?z_bool ?z_enumerate ?z_int ?z_isinstance ?z_len ?z_max ?z_min ?z_range ?z_str ?z_tuple ?z_zip ?s_BEGIN (_e.aU5 ?m_BEGIN) ?s_MOST_BEGINNINGS ?s_MOST_ROOMS ?s_SIGNS ?s_STOPS (_e.aU4 ?m_STOPS)
   (case z_abs=>k_is);(case z_bool=>k_is);(case z_enumerate=>k_is);(case z_int=>k_is);(case z_isinstance=>k_is);(case z_len=>k_is);(case z_max=>k_is);(case z_min=>k_is);(case z_range=>k_is);(case z_str=>k_is);(case z_tuple=>k_is);(case z_zip=>k_is);(case s_BEGIN=>k_is);(case m_BEGIN=>k_is);(case s_MOST_BEGINNINGS=>k_is);(case s_MOST_ROOMS=>k_is);(case s_SIGNS=>k_is);(case s_STOPS=>k_is);(case m_STOPS=>k_is)
  have Ob_LetBy:_e.t9 (_a.KOf KX) mg:=by
   dsimp only[_a.KOf]
   refine' _e.v5 KX G ?m1 ?s1 ?r1 ?r2 ?r3 ?r4 ?q1 ?q2 ?q3 ?q4 ?q5 ?e_l ?e_c ?e_k ?m2 ?p1 ?p2 ?p3 ?p4 ?n0 ?n1 ?n2 ?k1 ?k2 ?k3 ?k4 ?i_l ?i_c ?i_k ?hB
   (case m1=>k_is);(case m2=>k_is);(case q4=>k_is);(case k2=>k_is);(case e_l=>k_is);(case i_l=>k_is);(case s1=>k_is);(case r1=>k_is);(case r2=>k_is);(case r3=>k_is);(case r4=>k_is);(case q1=>k_is);(case q2=>k_is);(case q3=>k_is);(case q5=>k_is);(case e_c=>k_is);(case e_k=>k_is);(case p1=>k_is);(case p2=>k_is);(case p3=>k_is);(case p4=>k_is);(case n0=>k_is);(case n1=>k_is);(case n2=>k_is);(case k1=>k_is);(case k3=>k_is);(case k4=>k_is);(case i_c=>k_is);(case i_k=>k_is)
   (case hB=>exact λF=>F.binds (ps:=["self","place","room","borders"]) (λ_ _ _ _ _ _=>_e.bn4 λ_ _ _ _=>rfl))
  have Ob_ShutOut:_e.o5 (_a.KOf KX) mg:=by
   dsimp only[_a.KOf]
   refine' _e.v5 KX G ?m1 ?s1 ?r1 ?r2 ?r3 ?r4 ?q1 ?q2 ?q3 ?q4 ?q5 ?e_l ?e_c ?e_k ?m2 ?p1 ?p2 ?p3 ?p4 ?n0 ?n1 ?n2 ?k1 ?k2 ?k3 ?k4 ?i_l ?i_c ?i_k ?hB
   (case m1=>k_is);(case m2=>k_is);(case q4=>k_is);(case k2=>k_is);(case e_l=>k_is);(case i_l=>k_is);(case s1=>k_is);(case r1=>k_is);(case r2=>k_is);(case r3=>k_is);(case r4=>k_is);(case q1=>k_is);(case q2=>k_is);(case q3=>k_is);(case q5=>k_is);(case e_c=>k_is);(case e_k=>k_is);(case p1=>k_is);(case p2=>k_is);(case p3=>k_is);(case p4=>k_is);(case n0=>k_is);(case n1=>k_is);(case n2=>k_is);(case k1=>k_is);(case k3=>k_is);(case k4=>k_is);(case i_c=>k_is);(case i_k=>k_is)
   (case hB=>exact λF=>F.binds (ps:=["self","place","room","borders"]) (λ_ _ _ _ _ _=>_e.bn4 λ_ _ _ _=>rfl))
  have Ob_ForEver:_e.mB (_a.KOf KX) mg:=by
   dsimp only[_a.KOf]
   refine' _e.aBU KX G ?m1 ?s1 ?r1 ?r2 ?r3 ?r4 ?q1 ?q2 ?q3 ?q4 ?q5 ?e_l ?e_c ?e_k ?m2 ?p1 ?p2 ?p3 ?p4 ?n0 ?n1 ?n2 ?n3 ?k1 ?k2 ?k3 ?k4 ?i_l ?i_c ?i_k
   (case m1=>k_is);(case m2=>k_is);(case q4=>k_is);(case k2=>k_is);(case e_l=>k_is);(case i_l=>k_is);(case s1=>k_is);(case r1=>k_is);(case r2=>k_is);(case r3=>k_is);(case r4=>k_is);(case q1=>k_is);(case q2=>k_is);(case q3=>k_is);(case q5=>k_is);(case e_c=>k_is);(case e_k=>k_is);(case p1=>k_is);(case p2=>k_is);(case p3=>k_is);(case p4=>k_is);(case n0=>k_is);(case n1=>k_is);(case n2=>k_is);(case n3=>k_is);(case k1=>k_is);(case k3=>k_is);(case k4=>k_is);(case i_c=>k_is);(case i_k=>k_is)
  have Mt_LetBy_says:_e.MtK (_a.KOf KX) mg "LetBy" "says" "LetBy.says" (_a.a5 (_e.top 57) 1):=by
   dsimp only[_a.KOf]
   refine' _e.aJF KX G ?m2 ?p1 ?p2 ?p3 ?p4 ?k2 ?k3 ?m_l ?m_c ?m_k ?b
   (case m2=>k_is);(case k2=>k_is);(case m_l=>k_is);(case p1=>k_is);(case p2=>k_is);(case p3=>k_is);(case p4=>k_is);(case k3=>k_is);(case m_c=>k_is);(case m_k=>k_is);(case b=>exact λ_ _ _ _ _ _=>_e.bn1 λ_=>rfl)
  have Mt_ShutOut_says:_e.MtK (_a.KOf KX) mg "ShutOut" "says" "ShutOut.says" (_a.a5 (_e.top 58) 1):=by
   dsimp only[_a.KOf]
   refine' _e.aJF KX G ?m2 ?p1 ?p2 ?p3 ?p4 ?k2 ?k3 ?m_l ?m_c ?m_k ?b
   (case m2=>k_is);(case k2=>k_is);(case m_l=>k_is);(case p1=>k_is);(case p2=>k_is);(case p3=>k_is);(case p4=>k_is);(case k3=>k_is);(case m_c=>k_is);(case m_k=>k_is);(case b=>exact λ_ _ _ _ _ _=>_e.bn1 λ_=>rfl)
  have Mt_ForEver_says:_e.MtK (_a.KOf KX) mg "ForEver" "says" "ForEver.says" (_a.a5 (_e.top 59) 1):=by
   dsimp only[_a.KOf]
   refine' _e.aJF KX G ?m2 ?p1 ?p2 ?p3 ?p4 ?k2 ?k3 ?m_l ?m_c ?m_k ?b
   (case m2=>k_is);(case k2=>k_is);(case m_l=>k_is);(case p1=>k_is);(case p2=>k_is);(case p3=>k_is);(case p4=>k_is);(case k3=>k_is);(case m_c=>k_is);(case m_k=>k_is);(case b=>exact λ_ _ _ _ _ _=>_e.bn1 λ_=>rfl)
  have j:∃ fd,_a.Fun (_a.KOf KX) "law" "law" (_e.top 81) m fd/\∀ (s:S9) (u:V9),BindsTo s fd ⟨[u],[]⟩ [("_law_script",u)]:=by
   dsimp only[_a.KOf]
   refine' _e.aXV KX G d ?a4 ?l4 ?c4 ?k4
   (case a4=>k_is);(case l4=>k_is);(case c4=>k_is);(case k4=>k_is)
  obtain⟨fd,o,n⟩:=j
  exact⟨fd,n,λbase TH _ _ g=>_e.aT8 T (by repeat (first|exact .nil|refine .cons (by(try dsimp only[_a.KOf]);refine' _e.qI KX G ?a ?l ?c ?k ?b;(case a=>k_is);(case l=>k_is);(case c=>k_is);(case k=>k_is);first|(case b=>exact λ_ _ _ _ _ _=>_e.bn1 λ_=>rfl)|(case b=>exact λ_ _ _ _ _ _=>_e.bn2 λ_ _=>rfl)|(case b=>exact λ_ _ _ _ _ _=>_e.bn3 λ_ _ _=>rfl)|(case b=>exact λ_ _ _ _ _ _=>_e.bn4 λ_ _ _ _=>rfl)) ?_)) Ob_LetBy Ob_ShutOut Ob_ForEver Mt_LetBy_says Mt_ShutOut_says Mt_ForEver_says (_f.aN0 i KX g (by decide)) (_f.aN0 e KX g (by decide)) (_f.aN0 f KX g (by decide)) o⟩
end
