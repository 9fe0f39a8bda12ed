import PyProof.Rows.All
import Wide.All
import OpenK.AllK
import Wide.FinOn
import Lean
import PyProof.EqAt
import PyProof.EqKinds
import PyProof.TupleCall
import PyProof.ExcInit
import PyProof.InstStoreFacts
import PyProof.StrLawsFirst
import PyProof.StrLawsIn
import KE.KLam
import PyProof.ListMulRoad
import PyProof.Rows.ListMul
import PyProof.ZipIter
import PyProof.Draws
import PyProof.ListStr
import PyProof.DictWalks
import PyProof.DictTruth
import PyProof.ListRange
import PyProof.StrLaws
import PyProof.StrLawsIdx
import PyProof.AttrMissHeap
import PyProof.StrBlock2
import PyProof.SumWalkG
import PyProof.CallStr
import PyProof.CallRoads3
import PyProof.MeetsStr2
import PyProof.Rows.StrItems
import PyProof.Conv_int
import PyProof.P3In
import PySem.Challenge.RW_striproam_k44_whole_same_least
set_option linter.all false
set_option maxRecDepth 100000
set_option maxHeartbeats 4000000
set_option Elab.async false
set_option genSizeOf false
open PySem.W (methodObj keepIn fnOf codeIn nsIn CodeHd tabObj noTabs OpenLaw WalkO pyHash_slot kitOne)
open List (range replicate length Nodup foldl Lex)
open PySem.SeqAt (shaped readOf)
open PyProof.Rows (boot_zip boot_int boot_str boot_all)
set_option hygiene false
local macro_rules
|`(tactic|ext)=>`(tactic|first
 |(with_reducible first
  |assumption
  |exact Nat.zero_le _
  |exact Nat.le_refl _
  |exact Int.natCast_nonneg _
  |exact Nat.le_of_lt (by assumption)
  |exact Nat.le_trans (by assumption) (by decide)
  |exact Nat.lt_of_le_of_lt (by assumption) (by decide)
  |exact Nat.lt_of_lt_of_le (by assumption) (by decide)
  |exact Nat.lt_of_lt_of_le (by assumption) (by assumption)
  |exact Nat.lt_of_le_of_lt (by assumption) (by assumption)
  |exact Nat.le_trans (by assumption) (by assumption)
  |exact Nat.le_trans (Nat.le_of_lt (by assumption)) (by assumption)
  |exact Int.ofNat_lt.mpr (by assumption)
  |exact Int.ofNat_le.mpr (by assumption))
 |omega|grind)
set_option hygiene true
abbrev Dz:=PySem.PyData
abbrev V9:=PySem.Value
abbrev S9:=PySem.Shared
abbrev Az:=PySem.Addr
abbrev P9:=PySem.Program
abbrev W9:=PySem.World
abbrev Hz:=PySem.Heap
abbrev E2:=PySem.Expr
abbrev U9:=PySem.Around
abbrev O9(α:Type):=Option α
abbrev L9(α:Type):=List α
namespace PySem.W.Fast
def tw14456660790453519815:=0
def tw6889133754195285362:=0
def tw16691653159280489143:=0
def tw14809805053277750696:=0
def tw1986203561612482678:=0
def tw17823225427015682747:=0
def tw13935119736310395369:=0
def tw7704276854342448224:=0
def tw10660768120699825345:=0
def tw3669221030224506237:=0
def tw12219185844183513766:=0
def tw13457254426334174895:=0
def tw16832229916504774603:=0
def tw9277695844817701401:=0
def tw6073822441645384157:=0
def tw4769852952791244290:=0
def tw15018059218640084882:=0
def tw6517497977991596115:=0
def tw8423167044659443727:=0
def tw14526189696058852287:=0
def tw9521578142548313467:=0
def tw15487965217704933255:=0
def tw630497714732565209:=0
def tw16447277548651769050:=0
def tw17390062771932472158:=0
def tw14046558874455598431:=0
def tw10907735521242092539:=0
def tw3973223377022422479:=0
def tw8983313092147903513:=0
def tw18282723260781154334:=0
def tw17939080386168596015:=0
def tw13607782518668578327:=0
def tw16824158159353343853:=0
def tw13401708119989105174:=0
def tw12120054905229398060:=0
def tw7151670339111315228:=0
def tw16106784397665545223:=0
def tw12289603387943284754:=0
def tw15734668715309589208:=0
def tw9621918595991744918:=0
def tw6431585972245591937:=0
def tw782916082880666547:=0
def tw11282921244366771655:=0
def tw9737898901986725942:=0
def tw4407511172452927943:=0
def tw648977135824740909:=0
def tw5060664816361625116:=0
def tw10279262750068243397:=0
def tw8093534468103299552:=0
def tw7734183743643748993:=0
def tw15864400728751515712:=0
def tw16966277240079755645:=0
def tw5036661139459500245:=0
def tw16753078995977520948:=0
def tw8753739388249802366:=0
def tw4051571499909354099:=0
def tw8311377092606934280:=0
def tw10440225617330212763:=0
def tw4518048530690684049:=0
def tw798519053509567566:=0
def tw10423288305057968010:=0
def tw2891117673589847995:=0
def tw17932108013252671833:=0
def tw15999872794933905592:=0
def tw4569332082834805812:=0
def tw5870962760563303709:=0
def tw5555910768311576589:=0
def tw12971155925426165259:=0
def tw3861439393078267596:=0
def tw15867692609746249190:=0
def tw2633989486580171334:=0
def tw16908570398814442922:=0
def tw2913852391089382104:=0
def tw6641177617694593697:=0
def tw7980737583540623327:=0
def tw15161649946254822601:=0
def tw15805873177987441398:=0
def tw6103195463246016612:=0
def tw13342146535766410292:=0
def tw15619790437925764138:=0
def tw7016193697731487643:=0
def tw2935600366874383750:=0
def tw5395674153643657154:=0
def tw6112480086495857726:=0
def tw15879198158255270416:=0
def tw4735865627962023489:=0
def tw10740618557988091601:=0
def tw1068484495537974507:=0
def tw8585441320797429479:=0
def tw1938740556412200598:=0
def tw18369860992985583787:=0
def tw11599440872800124058:=0
def tw13289531352051190966:=0
def tw6213491456623654226:=0
def tw17386512668749848696:=0
def tw9092302698517296471:=0
def tw17018760745235124355:=0
def tw1697688899144967839:=0
def tw223974177503097837:=0
def tw8903314488265644480:=0
def tw12664502147539902022:=0
def tw7395168148128856294:=0
def tw12207547357062147073:=0
def tw407084710635676493:=0
def tw11923781966128687060:=0
def tw18395155823525897649:=0
def tw16998664353759061242:=0
def tw15540566657639898022:=0
def tw8419547709310870450:=0
def tw9106841291102101348:=0
def tw10886071956748567758:=0
def tw1638877728980436165:=0
def tw1074702015179750035:=0
def tw5895730344401804189:=0
def tw13814127639575265011:=0
def tw14978510906902355840:=0
def tw8469918152990860321:=0
def tw13758561416711909553:=0
def tw3805123038142989381:=0
def tw3257265302105333726:=0
def tw12185475714583773572:=0
def tw16299100574437939151:=0
def tw2804199971752291196:=0
def tw3162107582634557339:=0
def tw11440146020294478562:=0
def tw4605781649241167647:=0
def tw11939940085743545158:=0
def tw488529765223428162:=0
def tw14562205935724338398:=0
def tw10518305661428652177:=0
def tw5405357359345922524:=0
def tw1745871496032053023:=0
def tw18040457121536428207:=0
def tw13613017961926239501:=0
def tw13028712744296873089:=0
def tw3094792807473086062:=0
def tw9043886065745192197:=0
def tw7489441916759899721:=0
def tw13819365588388599535:=0
def tw4258874690961860082:=0
def tw9474500124643732190:=0
def tw5547180690240890073:=0
def tw13851717202736191548:=0
def tw9569178718084437319:=0
def tw698049080777008582:=0
def tw15477811620904579084:=0
def tw13431429934974454630:=0
def tw10157115749914724439:=0
def tw17709284524865823857:=0
def tw3283676224789435050:=0
def tw6200898021320467790:=0
def tw9063302379932066907:=0
def tw17428695454583426753:=0
def tw5096773914679862288:=0
def tw14858486205248953564:=0
def tw4126591381932984874:=0
def tw11673429771359982830:=0
def tw18314899748170727867:=0
def tw12479700544668332071:=0
def tw9957945118452609732:=0
def tw12480479418411830226:=0
def tw16108526859394130086:=0
def tw15439292148640459207:=0
def tw4071955018966165935:=0
def tw11224884524447202778:=0
def tw16186204443211221640:=0
def tw14668490115401716919:=0
def tw11576606713765049308:=0
def tw3003077204509804145:=0
def tw10426515747551506849:=0
def tw17943199819740160244:=0
def tw10647411142904635288:=0
def tw17852098261562122855:=0
def tw3623909557912925365:=0
def tw10399243824309612335:=0
def tw10656405865163766998:=0
def tw4467201906878703184:=0
def tw10144739572709436909:=0
def tw8399894917272267094:=0
def tw15641848111388249074:=0
def tw7570592627136483763:=0
def tw8757311954957844097:=0
def tw5662718576986921140:=0
def tw1824816208522486152:=0
def tw14173228450109853920:=0
def tw223138162656183468:=0
def tw14966969249258539271:=0
def tw17820334799386861839:=0
def tw16146958153499848729:=0
def tw7523839831932187189:=0
def tw4152503289818351260:=0
def tw2030574269270127813:=0
def tw11669652712534128176:=0
def tw18108904821674924220:=0
def tw2096062891142902165:=0
def tw11610668748962503340:=0
def tw8004190847773619480:=0
def tw4432365241681810625:=0
def tw18413220044087536939:=0
def tw6412327588357975423:=0
def tw15207804018637152250:=0
def tw17671843341254488248:=0
def tw10003032603240477595:=0
def tw12662515152056266858:=0
def tw8370343535409364419:=0
def tw11207528166449199293:=0
def tw11011331561114301860:=0
def tw7854391527277975807:=0
def tw13674419485718331783:=0
def tw11479444708472816231:=0
def tw15667733742859703013:=0
def tw15924581426267534695:=0
def tw9728975589541028965:=0
def tw5705786415250113925:=0
end PySem.W.Fast
def AA:=@PySem.wpAny_bind
def AB:=@List.length_map
def AC:=@List.getElem?_map
def AD:=@PySem.Heap.get?_push_of_some
def AE:=@PySem.wpAny_pure
def AG:=@List.getD_eq_getElem?_getD
def AH:=@List.mem_of_getElem?
def AI:=@List.getElem?_eq_getElem
def AJ:=@List.getElem?_eq_some_iff
def AK:=@Nat.le_refl
def AL:=@if_neg
def AM:=@List.mem_singleton
def AN:=@if_pos
def AQ:=@List.mem_cons_of_mem
def AS:=@PySem.Heap.lt_size
def AT:=@List.mem_map
def AU:=@List.map_cons
def AV:=@PySem.Heap.get?_push_size
def AW:=@List.mem_cons
def AX:=@List.mem_cons_self
def AY:=@List.length_append
def AZ:=@List.map_map
def A0:=@Nat.lt_of_lt_of_le
def A1:=@decide_eq_true
def A2:=@Nat.le_trans
def A3:=@Nat.ne_of_lt
def A4:=@Bool.and_eq_true
def A5:=@of_decide_eq_true
def A6:=@List.size_toArray
def A7:=@List.length_cons
def A8:=@PySem.mem_of_lookup
def A9:=@List.map_congr_left
def BA:=@decide_eq_false
def BB:=@List.length_range
def BC:=@List.mem_range
def BD:=@List.mem_append
def BE:=@List.map_append
def BF:=@Ne.symm
def BG:=@List.getElem?_cons_succ
def BH:=@List.getElem?_cons_zero
def BI:=@List.mem_append_right
def BJ:=@List.length_singleton
def BK:=@PySem.Heap.get?_update_self
def BL:=@Option.some.inj
def BM:=@PySem.Heap.size_push
def BN:=@List.getElem?_append_left
def BO:=@List.all_eq_true
def BP:=@Nat.le_add_right
def BQ:=@List.getElem?_of_mem
def BR:=@Bool.false_ne_true
def BS:=@List.map_nil
def BU:=@PySem.Heap.SameBut.update
def BV:=@Int.le_refl
def BW:=@Nat.lt_irrefl
def BX:=@List.getElem?_append_right
def BY:=@Nat.ne_of_gt
def BZ:=@PySem.wpAny_mono
def B0:=@PySem.wpAny_field
def B1:=@PySem.W.mg_none_of
def B2:=@List.length_take
def B3:=@PyProof.Rows.callWith_type1
def B4:=@PySem.wpAny_newObj_type
def B5:=@Nat.le_of_lt
def B6:=@List.set_cons_zero
def B7:=@PySem.Heap.get?_update_other
def B8:=@Nat.zero_le
def B9:=@Classical.byContradiction
def CA:=@Array.length_toList
def CB:=@List.getElem?_range
def CC:=@List.nil_append
def CD:=@Nat.lt_of_le_of_lt
def CF:=@Int.emod_lt_of_pos
def CG:=@Bool.false_eq_true
def CH:=@List.getElem?_set_ne
def CI:=@List.lookup_cons
def CJ:=@PySem.wpAny_holding
def CK:=@List.replicate_succ
def CL:=@List.pairwise_iff_getElem
def CM:=@List.set_cons_succ
def CN:=@List.mem_append_left
def CO:=@PySem.F.slot_dict_keyiterator_next
def CP:=@PySem.wpAny_callSpecial?_slot
def CQ:=@congrArg
def CS:=@List.length_nil
def CT:=@Int.emod_nonneg
def CU:=@Bool.or_eq_true
def CV:=@Nat.lt_trans
def CW:=@PySem.wpAny_call_entry
def CY:=@List.cons_append
def CZ:=@PySem.wpAny_Call_Name_kw
def C0:=@PySem.Obj.data_mapFields
def C3:=@PySem.wpAny_seqItems
def C4:=@PySem.F.slot_dict_get
def C5:=@PySem.wpAny_setField_rec
def C6:=@List.length_zipIdx
def C7:=@List.getElem?_eq_none
def C8:=@List.append_nil
def C9:=@List.nodup_cons
def DA:=@Option.map_some
def DB:=@PySem.wpAny_truthy_bool
def DC:=@Int.toNat_natCast
def DD:=@List.flatten_cons
def DE:=@List.nodup_append
def DF:=@PySem.wpAny_typeNameOfWhole_keyiter
def DG:=@PySem.F.plainAttrs_dict
def DH:=@List.mem_map_of_mem
def DI:=@if_false
def DJ:=@if_true
def DK:=@List.not_mem_nil
def DL:=@PySem.F.slot_dict_setdefault
def DM:=@List.getElem?_set_self
def DN:=@List.mem_filterMap
def DO:=@List.idxOf_lt_length_of_mem
def DP:=@PySem.wpAny_passesOwn
def DQ:=@List.length_replicate
def DR:=@beq_false_of_ne
def DS:=@List.foldl_cons
def DT:=@List.find?_cons
def DU:=@Array.getElem?_toList
def DV:=@PySem.F.slot_tuple_iterator_next
def DW:=@List.append_assoc
def DX:=@PySem.eqIsQuiet_byValue
def DY:=@Nat.lt_trichotomy
def DZ:=@PySem.wpAny_setField
def D0:=@List.nodup_nil
def D3:=@Nat.lt_succ_self
def D4:=@List.getElem_mem
def D5:=@PySem.wpAny_typeNameOf_keyiter
def D6:=@List.prefix_refl
def D7:=@PyProof.Rows.slot_tuple_getitem
def D8:=@List.length_eq_zero_iff
def D9:=@PyProof.Rows.boot_tuple
def EA:=@PySem.F.plainAttrs_list
def EB:=@List.forIn_cons
def EC:=@List.length_zip
def ED:=@PySem.W.kia_one
def EE:=@List.take_of_length_le
def EF:=@PySem.F.plainAttrs_str
def EG:=@List.reverse_cons
def EH:=@List.ext_getElem?
def EI:=@PySem.Obj.isFreed_of_fields
def EJ:=@beq_self_eq_true
def EK:=@List.mem_iff_getElem
def EL:=@PySem.wpAny_rule
def EM:=@PySem.Obj.data_mapDictKeys
def EN:=@List.getElem?_zipIdx
def EO:=@PySem.Around.under_plainId
def EQ:=@beq_eq_false_iff_ne
def ER:=@List.filterMap_cons
def ES:=@PySem.F.plain_extend_loop
def ET:=@List.of_mem_zip
def EU:=@Nat.min_le_left
def EV:=@List.length_set
def EW:=@Array.size_push
def EX:=@List.getElem?_take_of_lt
def EY:=@Nat.add_comm
def EZ:=@Nat.le_of_eq
def E3:=@PySem.F.slot_list_getattribute
def E4:=@PySem.call_meets
def E5:=@List.getElem?_replicate
def E6:=@PySem.F.args_dict_get_3
def E7:=@PySem.wpAny_pyIter_list
def E8:=@PySem.wpAny_pyIter_enum
def E9:=@PySem.wpAny_dictEntries
def FA:=@Option.some.injEq
def FB:=@List.foldl_append
def FC:=@List.take_add_one
def FD:=@Nat.le_succ_of_le
def FE:=@PySem.Calls.callWith_builtin
def FF:=@PySem.F.entry_dict_get
def FG:=@PyProof.Rows.boot_list
def FH:=@PySem.Paired.length
def FI:=@PySem.W.mg_of
def FJ:=@Nat.mod_eq_of_lt
def FK:=@PySem.Heap.size_update
def FM:=@List.getElem_map
def FN:=@PySem.wpAny_notOrdered_dict
def FP:=@PySem.builtinLookup_eq_fast
def FQ:=@List.take_append_drop
def FR:=@PySem.F.type_dict_get
def FS:=@PySem.wpAny_execs_nil
def FT:=@PySem.codeAny_mono
def FU:=@PySem.wpAny_specialOf
def FV:=@List.cons.injEq
def FW:=@PySem.call_meetsIn
def FX:=@Nat.lt_or_ge
def FY:=@PySem.F.args_dict_setdefault_3
def FZ:=@PySem.F.args_dict_keyiterator_next_1
def F6:=@PySem.codeAny_builtin
def F7:=@PySem.wpAny_updateSeq
def F8:=@Classical.not_forall
def F9:=@List.find?_eq_some_iff_getElem
def GA:=@PySem.F.entry_dict_setdefault
def GB:=@PySem.F.entry_dict_keyiterator_next
def GC:=@Nat.add_lt_add_left
def GD:=@Array.getElem?_push
def GE:=@List.forIn_nil
def GF:=@PySem.F.args_tuple_iterator_next_1
def GG:=@or_false
def GH:=@PySem.F.type_dict_setdefault
def GI:=@Nat.le_succ
def GJ:=@Nat.le.dest
def GK:=@PySem.W.callWith_K
def GL:=@PyProof.Rows.boot_enumerate
def GM:=@PySem.F.entry_tuple_iterator_next
def GN:=@List.find?_eq_none
def GO:=@List.map_singleton
def GP:=@List.mem_replicate
def GQ:=@List.map_replicate
def GR:=@Int.natCast_nonneg
def GS:=@List.map_inj_right
def GT:=@PySem.Calls.Name_function_global
def GU:=@PySem.wpAny_standAt
def GV:=@Array.getElem?_eq_some_iff
def GW:=@PySem.wpAny_letOwnedTupleGo_enum
def GX:=@PySem.plainId_quiet
def GY:=@Nat.add_mul_mod_self_right
def GZ:=@Nat.lt_succ_of_lt
def G0:=@PySem.StrLaws.subAt_one
def G1:=@List.pairwise_map
def G2:=@Option.isSome_map
def G3:=@Nat.not_lt
def G4:=@List.drop_eq_getElem_cons
def G5:=@List.mem_of_find?_eq_some
def G6:=@List.getElem?_zip_eq_some
def G7:=@Option.isSome_iff_exists
def G8:=@PySem.F.args_tuple_add_2
def G9:=@List.length_drop
def HA:=@PySem.wpAny_typeOf
def HB:=@Option.getD_none
def HC:=@PySem.wpAny_comprehension_free
def HD:=@List.Pairwise.imp_of_mem
def HE:=@PySem.wpAny_isInstance
def HF:=@Nat.zero_add
def HG:=@PySem.F.slot_list_append
def HH:=@PySem.F.type_list_append
def HI:=@Int.ofNat_lt
def HJ:=@PySem.F.entry_tuple_add
def HK:=@PySem.wpAny_pyNext_enum_itemD
def HL:=@Nat.lt_add_of_pos_right
def HM:=@PySem.F.slot_list_index
def HN:=@Nat.add_sub_cancel_left
def HP:=@LawfulBEq.eq_of_beq
def HQ:=@PySem.F.slot_zip_next
def HR:=@PySem.wpAny_dictEpoch
def HS:=@PySem.typeLookup_type
def HU:=@Nat.min_eq_left
def HV:=@PySem.W.cellsFrom_some
def HW:=@PySem.F.slot_tuple_add
def HX:=@PySem.wpAny_Call_method_late
def HY:=@PySem.wpAny_pyNext_enum_endD
def HZ:=@Option.map_eq_some_iff
def H9:=@PySem.meets_dict_get_default
def IA:=@Array.getElem?_eq_none
def IB:=@PySem.F.slot_str_index
def IC:=@PySem.F.type_str_index
def ID:=@boot_zip
def IE:=@Nat.mul_le_mul
def IF:=@List.countP_le_length
def IG:=@List.eq_nil_or_concat
def IH:=@PySem.F.slot_str_join
def II:=@PySem.F.type_str_join
def IJ:=@Bool.true_and
def IK:=@PySem.wpAny_attempt
def IL:=@Int.ofNat.inj
def IM:=@List.map_id'
theorem Mc.bn1{α:Type}{P:L9 α->Prop}(h:∀ a,P [a]):∀ us:L9 α,us.length=1->P us
 | [a],_=>h a
theorem Mc.bn2{α:Type}{P:L9 α->Prop}(h:∀ a b,P [a,b]):∀ us:L9 α,us.length=2->P us
 | [a,b],_=>h a b
theorem Mc.bn3{α:Type}{P:L9 α->Prop}(h:∀ a b c,P [a,b,c]):∀ us:L9 α,us.length=3->P us
 | [a,b,c],_=>h a b c
theorem Mc.bn4{α:Type}{P:L9 α->Prop}(h:∀ a b c d,P [a,b,c,d]):∀ us:L9 α,us.length=4->P us
 | [a,b,c,d],_=>h a b c d
open PySem.W (Frag)
open PySem PyProof.Rows PySem.Spec
noncomputable section
variable{a:Str->O9 NameKind}{b it f:Az}{α β:Type}{P:P9}{o:Obj}{t' i j k n:Nat}{N:L9 Str}{x qual name:Str}{E Q:V9->S9->Prop}{u cd doc pm ct:V9}{s' s:S9}{e c tg:E2}{ap:L9 (Az×Obj)}{K:Frag}{es:L9 E2}{body:L9 Stmt}{vs:Array V9}{fp:L9 Az}{C:Int->Int->Prop}{g:Int->Int->Int}{us:L9 V9}{mg:Str->O9 V9}{scope:Scope}{od:O9 Az}
namespace L2
variable{H:Hp}{M:Model}{Z:St}{op:CmpOp}{r:R2}{base:Hz}{CX:CXT}
abbrev Key:=Sum Int Str
noncomputable def sI:Key->V9->Bool
 | .inl k,v=>Value.isInt k v
 | .inr x,v=>Value.isStrOf x v
noncomputable def aXS(w:W9):Key->Int
 | .inl k=>hashInt k
 | .inr x=>hashStr w x
theorem keyIs_shape:∀ {k:Key} {v:V9},sI k v=true->(∃ i t,k=Sum.inl i/\v=Value.int i t)\/(∃ x t,k=Sum.inr x/\v=Value.str x t)
 | .inl i,v,h=>by
  obtain⟨t,e⟩:=Value.isInt_shape (k:=i) (v:=v) h
  exact .inl ⟨i,t,rfl,e⟩
 | .inr x,v,h=>by
  obtain⟨t,e⟩:=Value.isStrOf_shape (x:=x) (v:=v) h
  exact .inr ⟨x,t,rfl,e⟩
theorem aHP(i:Int)(t:Tok):sI (.inl i) (.int i t)=true:=by simp[sI,Value.isInt]
theorem aHQ(x:Str)(t:Tok):sI (.inr x) (.str x t)=true:=by simp[sI,Value.isStrOf]
theorem aSD(a b:Int):decide ((Sum.inl a:Key)=Sum.inl b)=(a == b):=by
 by_cases e:a=b
 .subst e;simp
 .have h:¬ (Sum.inl a:Key)=Sum.inl b:=λq=>e (Sum.inl.inj q)
  rw[BA h]
  exact(EQ.mpr e).symm
theorem aSE(a b:Str):decide ((Sum.inr a:Key)=Sum.inr b)=decide (a=b):=by
 by_cases e:a=b
 .subst e;simp
 .have h:¬ (Sum.inr a:Key)=Sum.inr b:=λq=>e (Sum.inr.inj q)
  rw[BA h,BA e]
theorem aSF(a:Int)(b:Str):decide ((Sum.inl a:Key)=Sum.inr b)=false:=BA (λq=>nomatch q)
theorem aSG(a:Str)(b:Int):decide ((Sum.inr a:Key)=Sum.inl b)=false:=BA (λq=>nomatch q)
noncomputable def cD(prog:P9)(w:W9):PySem.KeyKind prog w Key where
 is:=sI
 hash:=aXS w
 inj:=λv a b ha hb=>by
  rcases keyIs_shape ha with ⟨i,t,rfl,rfl⟩|⟨x,t,rfl,rfl⟩
  .rcases keyIs_shape hb with ⟨j,u,rfl,e⟩|⟨y,u,rfl,e⟩
   · injection e with e1 _; rw [e1]
   · exact nomatch e
  .rcases keyIs_shape hb with ⟨j,u,rfl,e⟩|⟨y,u,rfl,e⟩
   · exact nomatch e
   · injection e with e1 _; rw [e1]
 byValue:=λk v h=>by
  rcases keyIs_shape h with ⟨i,t,rfl,rfl⟩|⟨x,t,rfl,rfl⟩<;>rfl
 pyHash:=λhv h=>by
  rcases keyIs_shape hv with ⟨i,t,rfl,rfl⟩|⟨x,t,rfl,rfl⟩
  .exact wpAny_pyHash_int h
  .exact wpAny_pyHash_str h
 eqBool:=λhu hv h=>by
  rcases keyIs_shape hu with ⟨i,t,rfl,rfl⟩|⟨x,t,rfl,rfl⟩
  .rcases keyIs_shape hv with ⟨j,u,rfl,rfl⟩|⟨y,u,rfl,rfl⟩
   · rw [aSD]at h; exact wpAny_eqBool_int h
   · rw [aSF]at h; exact SeqAt.EqAt.int_str i t y u _ _ _ _ h
  .rcases keyIs_shape hv with ⟨j,u,rfl,rfl⟩|⟨y,u,rfl,rfl⟩
   · rw [aSG]at h; exact SeqAt.EqAt.str_int x t j u _ _ _ _ h
   · rw [aSE]at h; exact wpAny_eqBool_str h
 «strs»:=λk x t v h=>by
  rcases keyIs_shape h with ⟨i,u,rfl,e⟩|⟨y,u,rfl,e⟩
  .exact nomatch e
  .injection e with e1 _
   subst e1
   cases v<;>rfl
theorem aDX(prog:P9)(w:W9)(i:Int)(t:Tok):(cD prog w).is (.inl i) (.int i t)=true:=aHP i t
theorem aDY(prog:P9)(w:W9)(x:Str)(t:Tok):(cD prog w).is (.inr x) (.str x t)=true:=aHQ x t
inductive V where
 | non|bl (b:Bool)|int (i:Int)|str (x:Str)|byt (b:Array UInt8)|flt (b:UInt64)|ref (a:Az)|ty (n:String)
 deriving DecidableEq
def aR:V->V9->Prop
 | .non,u=>u=Value.none
 | .bl b,u=>u=Value.bool b
 | .int i,u=>∃ t,u=Value.int i t
 | .str x,u=>∃ t,u=Value.str x t
 | .byt b,u=>∃ t,u=Value.bytes b t
 | .flt b,u=>∃ t,u=Value.float b t
 | .ref a,u=>u=Value.ref a
 | .ty n,u=>u=Value.type n
abbrev aZ:L9 V->L9 V9->Prop:=Paired aR
theorem aZ.length{xs:L9 V}{us:L9 V9}(r:aZ xs us):xs.length=us.length:=FH r
theorem aZ.get:∀ {xs:L9 V} {us:L9 V9} {i:Nat} {x:V},aZ xs us->xs[i]? = some x->∃ u,us[i]? = some u/\aR x u
 | _,_,_,_,.nil,e=>by simp at e
 | _,_,0,_,.cons r _,e=>by simp at e;subst e;exact⟨_,rfl,r⟩
 | _,_,i+1,x,.cons _ t,e=>by
  obtain⟨u,h1,h2⟩:=aZ.get (i:=i) (x:=x) t (by simpa using e)
  exact⟨u,by simpa using h1,h2⟩
theorem aZ.append:∀ {xs ys:L9 V} {us ws:L9 V9},aZ xs us->aZ ys ws->aZ (xs++ys) (us++ws)
 | _,_,_,_,.nil,s=>s
 | _,_,_,_,.cons r t,s=>.cons r (aZ.append t s)
theorem aZ.take:∀ {xs:L9 V} {us:L9 V9} (n:Nat),aZ xs us->aZ (xs.take n) (us.take n)
 | _,_,0,_=>.nil
 | _,_,_+1,.nil=>.nil
 | _,_,n+1,.cons r t=>.cons r (aZ.take n t)
theorem aZ.drop:∀ {xs:L9 V} {us:L9 V9} (n:Nat),aZ xs us->aZ (xs.drop n) (us.drop n)
 | _,_,0,r=>r
 | _,_,_+1,.nil=>.nil
 | _,_,n+1,.cons _ t=>aZ.drop n t
def iE:O9 V->O9 V9->Prop
 | some v,some u=>aR v u
 | none,none=>True
 | _,_=>False
def KV{κ:Type}:L9 (κ×V)->L9 (κ×V9)->Prop:=Paired λ(p:κ×V) (q:κ×V9)=>p.1=q.1/\aR p.2 q.2
noncomputable def kV:Key->V
 | .inl i=>.int i
 | .inr x=>.str x
inductive HO where
 | lst (xs:List V)
 | tup (xs:List V)
 | dK (a0:List (Key×V))|dT (a0:List (List Key×V))
 | set (S:Int->Bool) (n:Nat)
 | ins (C dx:Az) (fs:List (Str×V))
 | own (x:Az)
 | xd (fs:List (Str×V))
 | met (f x:Az)
 | rng (lo hi:Int)
 | frz (o:Obj) (u:HO)
 | tbl (qs:List (Pos×Str))
 | cod (q:Str)
 | ext (φ:Heap->Prop)
abbrev Hp:=Az->O9 HO
noncomputable def upd(H:Hp)(a:Az)(o:HO):Hp:=λb=>if b=a then some o else H b
theorem aL{a:Az}{o:HO}:upd H a o a=some o:=by unfold upd;rw[AN rfl]
theorem aE{a:Az}{o:HO}(h:b≠a):upd H a o b=H b:=by unfold upd;rw[AL h]
theorem sJ{a:Az}{o u:HO}:upd (upd H a o) a u=upd H a u:=by
 funext b;unfold upd;split<;>rfl
theorem a6{a:Az}{o:HO}(h:H a=some o)(h':H b=none):a≠b:=by
 intro e;subst e;rw[h]at h';cases h'
def lB(h:Hz)(a:Az)(its:Array V9):Prop:=∃ o,h.get? a=some o/\(o.cls=.type "tuple"/\o.dict=none)/\∃ n,o.data=.seq its n
theorem lB.t{h:Hz}{a:Az}{b:Array V9}:lB h a b->IsTup h a b:=λ⟨o,e,c,n,d⟩=>⟨o,e,c.1,n,d⟩
theorem lB.new(h:Hz)(a:Array V9):lB (h.push {cls:=.type "tuple",data:=.seq a}) h.objs.size a:=⟨_,AV h rfl,⟨rfl,rfl⟩,_,rfl⟩
section
variable(P:P9)(w:W9)
def bS(H:Hp)(h:Hz)(a:Az):HO->Prop
 | .lst xs=>xs.length<=sizeLine/\∃ (its:L9 V9) (n:Nat),aZ xs its/\h.get? a=some {cls:=.type "list",data:=.seq its.toArray n}
 | .tup xs=>xs.length<=sizeLine/\∃ its:L9 V9,aZ xs its/\lB h a its.toArray
 | .dK a0=>a0.length<=sizeLine/\(a == sysModules)=false/\∃ vs,KV a0 vs/\h.DictOf (cD P w) a vs
 | .dT a0=>a0.length<=sizeLine/\(a == sysModules)=false/\∃ xs:L9 (L9 Key×Az×V9),
  Paired (λ(p:L9 Key×V) (q:L9 Key×Az×V9)=>p.1=q.1/\H q.2.1=some (.tup (p.1.map kV))/\aR p.2 q.2.2) a0 xs /\
  ∃ o es ep,h.get? a=some o/\o.ExactDict/\o.data=.dict es ep/\es.toList=xs.map (entryOfKey (tupleKind (cD P w)))/\(xs.map (·.1)).Nodup
 | .set S n=>h.SetOf (intKind P w) a S n
 | .ins C dx fs=>H dx=some (.own a)/\fs.length<=1000/\dx≠a/\h.get? a=some (PySem.W.instObj C dx) /\
  ∃ mA,h.Ns1 dx mA/\(∀ f,iE (fs.lookup f) (mA f))/\PySem.Within mA (fs.map (·.1))
 | .own _=>∃ o,h.get? a=some o
 | .xd fs=>∃ mA,h.Ns1 a mA/\∀ f,iE (fs.lookup f) (mA f)
 | .rng lo hi=>∃ t u v,h.get? a=some {cls:=.type "range",data:=.fields #[.int lo t,.int hi u,.int 1 v]}
 | .frz o u=>h.get? a=some o/\bS H h a u
 | .tbl qs=>∃ ps:Array V9,h.get? a=some {cls:=.none,data:=.fields ps}/\TriplesOk ps.toList/\∀ p∈qs,codeAmong p.1 ps.toList=none\/∃ c,codeAmong p.1 ps.toList=some (.ref c)/\H c=some (.cod p.2)
 | .cod q=>h.CodeRec (.ref a) q
 | .met f x=>h.get? a=some (methodObj (.ref f) (.ref x))
 | .ext φ=>φ h/\(∃ o,h.get? a=some o)/\∀ h1 h2:Hz,φ h1->(∀ o,h1.get? a=some o->h2.get? a=some o)->φ h2
def HOk(H:Hp)(h:Hz):Prop:=∀ a o,H a=some o->bS P w H h a o
end
section
variable{P:P9}{w:W9}{H H':Hp}{h h':Hz}{a:Az}{o:HO}
theorem bS.lt(x:bS P w H h a o):a < h.objs.size:=by
 cases o with
 | lst xs=>obtain⟨_,_,_,_,e⟩:=x;exact AS e
 | tup xs=>obtain⟨_,_,_,p⟩:=x;exact p.t.lt
 | dK a0=>obtain⟨_,_,_,_,o,_,_,e,_⟩:=x;exact AS e
 | dT a0=>obtain⟨_,_,_,_,o,_,_,e,_⟩:=x;exact AS e
 | set S n=>obtain⟨o,_,_,_,e,_⟩:=x;exact AS e
 | ins C dx fs=>obtain⟨_,_,_,e,_⟩:=x;exact AS e
 | own y=>obtain⟨_,e⟩:=x;exact AS e
 | xd fs=>obtain⟨_,⟨_,_,_,e,_⟩,_⟩:=x;exact AS e
 | rng lo hi=>obtain⟨_,_,_,e⟩:=x;exact AS e
 | frz ob u=>obtain⟨e,_⟩:=x;exact AS e
 | tbl qs=>obtain⟨ps,e,_⟩:=x;exact AS e
 | cod q=>obtain⟨c,o,vs,t,e,b,_⟩:=x;cases e;exact AS b
 | met f y=>exact AS (show h.get? a=some _ from x)
 | ext φ=>obtain⟨_,⟨_,e⟩,_⟩:=x;exact AS e
theorem Paired.mapP{F G:α->β->Prop}:∀ {l₁:L9 α} {l₂:L9 β},Paired F l₁ l₂->(∀ a b,F a b->G a b)->Paired G l₁ l₂
 | _,_,.nil,_=>.nil
 | _,_,.cons r t,f=>.cons (f _ _ r) (Paired.mapP t f)
theorem bS.stay(x:bS P w H h a o)(k:∀ b u,(b=a\/H b=some (.own a))->h.get? b=some u->h'.get? b=some u)
  (j:∀ b,H b=some (.own a)->H' b=some (.own a)) (s:∀ b q,H b=some (.cod q)->H' b=some (.cod q)) (m:∀ b xs,H b=some (.tup xs)->H' b=some (.tup xs)):bS P w H' h' a o:=by
 induction o with
 | lst xs=>obtain⟨z,i,n,r,e⟩:=x;exact⟨z,i,n,r,k _ _ (.inl rfl) e⟩
 | tup xs=>obtain⟨z,i,r,g,e,c⟩:=x;exact⟨z,i,r,g,k _ _ (.inl rfl) e,c⟩
 | dK a0=>obtain⟨z,y,vs,r,g,es,ep,e,c⟩:=x;exact⟨z,y,vs,r,g,es,ep,k _ _ (.inl rfl) e,c⟩
 | dT a0=>
  obtain⟨z,y,xs,r,g,es,ep,e,c⟩:=x
  exact⟨z,y,xs,Paired.mapP r λp q z=>⟨z.1,m _ _ z.2.1,z.2.2⟩,g,es,ep,k _ _ (.inl rfl) e,c⟩
 | set S n=>obtain⟨g,es,ep,t,e,c⟩:=x;exact⟨g,es,ep,t,k _ _ (.inl rfl) e,c⟩
 | ins C dx fs=>
  obtain⟨d,z,l,e,mA,⟨od,es,ep,e2,c⟩,r⟩:=x
  exact⟨j _ d,z,l,k _ _ (.inl rfl) e,mA,⟨od,es,ep,k _ _ (.inr d) e2,c⟩,r⟩
 | own y=>obtain⟨g,e⟩:=x;exact⟨g,k _ _ (.inl rfl) e⟩
 | xd fs=>obtain⟨mA,⟨od,es,ep,e,c⟩,r⟩:=x;exact⟨mA,⟨od,es,ep,k _ _ (.inl rfl) e,c⟩,r⟩
 | rng lo hi=>obtain⟨t,u,v,e⟩:=x;exact⟨t,u,v,k _ _ (.inl rfl) e⟩
 | frz g u ih=>obtain⟨e,q⟩:=x;exact⟨k _ _ (.inl rfl) e,ih q⟩
 | tbl qs=>
  obtain⟨ps,e,t,r⟩:=x
  refine⟨ps,k _ _ (.inl rfl) e,t,λp B=>?_⟩
  rcases r p B with z|⟨c,z,A⟩
  · exact .inl z
  · exact .inr ⟨c, z, s _ _ A⟩
 | cod q=>
  obtain⟨c,o,vs,t,e,j,r⟩:=x
  cases e
  exact⟨_,o,vs,t,rfl,k _ _ (.inl rfl) j,r⟩
 | met f y=>
  have e:h.get? a=some (methodObj (.ref f) (.ref y)):=x
  show h'.get? a=some (methodObj (.ref f) (.ref y))
  exact k a _ (.inl rfl) e
 | ext φ=>obtain⟨p,⟨o,e⟩,st⟩:=x;exact⟨st _ _ p λo q=>k _ _ (.inl rfl) q,⟨o,k _ _ (.inl rfl) e⟩,st⟩
theorem HOk.lt(x:HOk P w H h)(e:H a=some o):a < h.objs.size:=(x a o e).lt
theorem HOk.fresh(x:HOk P w H h)(e:h.objs.size<=a):H a=none:=by
 cases q:H a with
 | none=>rfl
 | some u=>exact absurd (A0 (x.lt q) e) (BW _)
theorem HOk.kept(x:HOk P w H h)(k:∀ b u,h.get? b=some u->h'.get? b=some u):HOk P w H h':=λa o e=>
 (x a o e).stay (λb u _ q=>k b u q) (λ_ q=>q) (λ_ _ q=>q) λ_ _ q=>q
theorem HOk.laid(x:HOk P w H h)(k:∀ b u,h.get? b=some u->h'.get? b=some u)(g:h.objs.size<=a)(new:bS P w (upd H a o) h' a o):HOk P w (upd H a o) h':=λb u e=>by
 have d:=x.fresh g
 by_cases f:b=a
 .subst f;rw[aL]at e;cases e;exact new
 .rw[aE f]at e
  exact(x b u e).stay (λc v _ q=>k c v q) (λc q=>by rw[aE (a6 q d)];exact q) (λc xs q=>by rw[aE (a6 q d)];exact q) λc xs q=>by rw[aE (a6 q d)];exact q
end
def Rd(H:Hp)(a:Az)(u:HO):Prop:=H a=some u\/∃ o,H a=some (.frz o u)
theorem Rd.ok{w:W9}{h:Hz}{a:Az}{u:HO}(r:Rd H a u)(x:HOk P w H h):bS P w H h a u:=by
 rcases r with r|⟨o,r⟩
 .exact x a u r
 .obtain ⟨_,q⟩:=x a _ r
  exact q
def Mut:O9 HO->Prop
 | some (.lst _)=>True
 | some (.dK _)=>True
 | some (.dT _)=>True
 | some (.set _ _)=>True
 | some (.ins _ _ _)=>True
 | some (.ext _)=>True
 | _=>False
section
variable{P:P9}{w:W9}{H:Hp}{h h':Hz}{x e:Az}{o':HO}
theorem HOk.write(ok:HOk P w H h)(f:Mut (H x))(n:e=x\/H e=some (.own x))(k:∀ b u,b≠e->h.get? b=some u->h'.get? b=some u)(m:∃ u,h'.get? e=some u)
  (new:bS P w (upd H x o') h' x o'):HOk P w (upd H x o') h':=λb u q=>by
 have d:∀ c y,H c=some (.own y)->c≠x:=λc y r z=>by subst z;rw[r]at f;exact f
 have g:∀ c xs,H c=some (.tup xs)->c≠x:=λc xs r z=>by subst z;rw[r]at f;exact f
 have i:∀ c xs,H c=some (.cod xs)->c≠x:=λc xs r z=>by subst z;rw[r]at f;exact f
 by_cases l:b=x
 .subst l;rw[aL]at q;cases q;exact new
 .rw[aE l]at q
  by_cases a:b=e
  .have o:H b=some (.own x):=by
    rcases n with z|z
    · exact absurd (a.trans z) l
    · rw [a]; exact z
   rw[q]at o;cases o
   obtain⟨v,p⟩:=m
   exact⟨v,by rw[a];exact p⟩
  .refine (ok b u q).stay (λc v j r=>k c v ?_ r) (λc r=>by rw[aE (d c b r)];exact r) (λc xs r=>by rw[aE (i c xs r)];exact r) λc xs r=>by rw[aE (g c xs r)];exact r
   rcases j with rfl|j
   .exact a
   .rintro rfl
    rcases n with z|z
    · exact d c b j z
    · rw [j]at z; cases z; exact l rfl
end
structure Un(fs ex:List Az)(H H':Hp)(h h':Heap):Prop where
 keep:∀ b o,h.get? b=some o->H b=none->b∉fs->b∉ex->h'.get? b=some o
 slot:∀ b o,h.get? b=some o->H b=none->b∈fs->b∉ex->∃ sl,h'.get? b=some {o with slots:=sl}
 free:∀ b o,h.get? b=some o->H b=none->b∉ex->H' b=none
 there:∀ b o,h.get? b=some o->b∉ex->∃ o',h'.get? b=some o'
 tups:∀ b xs,H b=some (.tup xs)->H' b=some (.tup xs)
 frzs:∀ b o u,H b=some (.frz o u)->H' b=some (.frz o u)
 tbls:∀ b ps,H b=some (.tbl ps)->H' b=some (.tbl ps)
section
variable{fs fs' ex ex':L9 Az}{H H1 H2:Hp}{h h1 h2 h':Hz}{a x e:Az}{o:HO}
theorem Un.any(u:Un fs ex H H1 h h1){a:Obj}(q:h.get? b=some a)(n:H b=none)(hx:b∉ex):∃ sl,h1.get? b=some {a with slots:=sl}:=by
 by_cases c:b∈fs
 · exact u.slot b a q n c hx
 · exact⟨a.slots, u.keep b a q n c hx⟩
theorem Un.trans(a:Un fs ex H H1 h h1)(b:Un fs ex H1 H2 h1 h2):Un fs ex H H2 h h2 where
 keep:=λc e q n f d=>b.keep c e (a.keep c e q n f d) (a.free c e q n d) f d
 slot:=λc e q n f d=>by
  obtain⟨sl,e1⟩:=a.slot c e q n f d
  obtain⟨g,e2⟩:=b.slot c _ e1 (a.free c e q n d) f d
  exact⟨g,e2⟩
 free:=λc e q n d=>by
  obtain⟨o',e1⟩:=a.there c e q d
  exact b.free c o' e1 (a.free c e q n d) d
 there:=λc e q d=>by
  obtain⟨o',e1⟩:=a.there c e q d
  exact b.there c o' e1 d
 tups:=λc xs q=>b.tups c xs (a.tups c xs q)
 frzs:=λc e xs q=>b.frzs c e xs (a.frzs c e xs q)
 tbls:=λc ps q=>b.tbls c ps (a.tbls c ps q)
theorem Un.kept(k:∀ b u,h.get? b=some u->h'.get? b=some u):Un fs ex H H h h':=
 ⟨λb a q _ _ _=>k b a q,λb a q _ _ _=>⟨a.slots,k b a q⟩,λ_ _ _ n _=>n,λb a q _=>⟨a,k b a q⟩,λ_ _ q=>q,λ_ _ _ q=>q,λ_ _ q=>q⟩
theorem Un.refl:Un fs ex H H h h:=Un.kept λ_ _ q=>q
theorem Un.laid(k:∀ b u,h.get? b=some u->h'.get? b=some u)(d:h.objs.size<=a)(c:H a=none):Un fs ex H (upd H a o) h h' where
 keep:=λb u q _ _ _=>k b u q
 slot:=λb u q _ _ _=>⟨u.slots,k b u q⟩
 free:=λb u q n _=>by rw[aE (A3 (A0 (AS q) d))];exact n
 there:=λb u q _=>⟨u,k b u q⟩
 tups:=λb xs q=>by rw[aE (a6 q c)];exact q
 frzs:=λb u xs q=>by rw[aE (a6 q c)];exact q
 tbls:=λb ps q=>by rw[aE (a6 q c)];exact q
theorem Un.write(c:Mut (H x))(j:e=x\/H e=some (.own x))(k:∀ b u,b≠e->h.get? b=some u->h'.get? b=some u)(f:∃ u,h'.get? e=some u):Un fs ex H (upd H x o) h h':=by
 have g:∀ b,H b=none->b≠x:=λb n z=>by subst z;rw[n]at c;exact c
 have i:∀ b,H b=none->b≠e:=λb n z=>by
  subst z
  rcases j with r|r
  · exact g b n r
  · rw [n]at r; cases r
 have d:∀ b u,H b=some u->¬ Mut (some u)->b≠x:=λb u q nm z=>by subst z;rw[q]at c;exact nm c
 refine⟨λb u q n _ _=>k b u (i b n) q,λb u q n _ _=>⟨u.slots,k b u (i b n) q⟩,λb u q n _=>by rw[aE (g b n)];exact n,λb u q _=>?_,
  λb xs q=>by rw[aE (d b _ q λz=>z)];exact q,λb u xs q=>by rw[aE (d b _ q λz=>z)];exact q,λb ps q=>by rw[aE (d b _ q λz=>z)];exact q⟩
 by_cases a:b=e
 .subst a;exact f
 .exact ⟨u,k b u a q⟩
end
noncomputable def trk(h:Hz)(H:Hp):L9 Az:=(range h.objs.size).filter λa=>(H a).isSome
def n6(h:Hz)(H:Hp):Hz:=PySem.W.hideAll h (trk h H)
theorem aHR(h:Hz)(H:Hp):(n6 h H).objs.size=h.objs.size:=PySem.W.hideAll_size _ _
theorem aK5{h:Hz}(e:h.get? b=some o)(n:H b=none):(n6 h H).get? b=some o:=
 PySem.W.hideAll_get _ e λa=>by
  have q:(H b).isSome=true:=(List.mem_filter.mp a).2
  rw[n]at q;simp at q
theorem aOR{h:Hz}(e:(n6 h H).get? b=some o):h.get? b=some o/\H b=none:=by
 have a:h.get? b=some o:=PySem.W.of_hideAll (trk h H) e
 refine⟨a,?_⟩
 cases q:H b with
 | none=>rfl
 | some x=>
  have c:b∈trk h H:=List.mem_filter.mpr ⟨BC.mpr (AS a),by simp[q]⟩
  have z:(n6 h H).get? b=none:=PySem.W.hideAll_none (trk h H) c
  rw[z]at e;cases e
structure Mod(K:Frag)(mg:Str->Option V9)(base:Heap):Prop where
 kin:K.In base
 glob:base.Ns mainGlobals mg
 blt:∃ mb,base.Ns builtinsNs mb/\∀ x:Str,x≠"__name__"->mb x=bootBuiltins x
 nolimit:base.NoLimit
structure Cx where
 prog:Program
 w:World
 K:Frag
 mg:Str->Option V9
 base:Heap
 A:Around
 N:List Str
 s₀:S9
 H₀:Hp
 env:Env
 outer:List Env
 stack:List Env
 ex:List Az
 fn:Str->Bool
 calm:Bool
 pn:List (Az×Obj)
 xe:V9->S9->Prop
noncomputable def frs(l:L9 Env):L9 Az:=l.filterMap (·.frame)
abbrev Cx.fs(X:Cx):L9 Az:=frs X.outer
def Vis(sc:Scope)(x:Str):Prop:=sc.names.lookup x=some .local\/sc.names.lookup x=some .cell\/sc.names.lookup x=some .free
def Loc(sc:Scope)(x:Str):Prop:=sc.names.lookup x=some .local\/sc.names.lookup x=some .cell
def aXT(env:Env)(h:Hz)(m:Str->O9 V9)(x:Str)(u:V9):Prop:=
 (env.kindOf x=some .local/\m x=some u)\/((env.kindOf x=some .cell\/env.kindOf x=some .free)/\∃ c,env.cells.lookup x=some c/\h.IsCell c (some u))
structure Cx.Ok(X:Cx):Prop where
 mod:Mod X.K X.mg X.base
 kind:X.env.scope.kind=.function
 glob:X.env.globals=mainGlobals
 blt:X.env.builtins=builtinsNs
 above:X.s₀.heap.objs.size<=X.env.locals
 inj:∀ x y c,X.env.cells.lookup x=some c->X.env.cells.lookup y=some c->x=y
 has:∀ x,(X.env.kindOf x=some .cell\/X.env.kindOf x=some .free)->∃ c,X.env.cells.lookup x=some c
 cab:∀ x c,X.fn x=true->X.env.cells.lookup x=some c->X.s₀.heap.objs.size<=c
 hd:X.calm=true->X.A.handled=none
 frames:X.A.frames=some X.stack
 stk:X.stack=X.outer\/(X.stack=X.env::X.outer/\X.env.frame=some X.env.locals)
 exf:∀ b∈X.ex,b≠X.env.locals/\∀ x c,X.env.cells.lookup x=some c->c≠b
 bs:∀ b o,X.base.get? b=some o->X.s₀.heap.get? b=some o/\X.H₀ b=none
 bsz:X.base.objs.size<=X.s₀.heap.objs.size
 noex:∀ b o,X.base.get? b=some o->b∉X.ex
 exfs:∀ b∈X.ex,b∉X.fs
 funs:X.s₀.heap.FunFrames X.base X.outer
 frf:∀ b∈X.fs,X.H₀ b=none
structure Inv(X:Cx)(ap:List (Az×Obj))(Z:List (Option V))(H:Hp)(s:S9):Prop where
 ok:X.Ok
 os:s.os=X.s₀.os
 bare:AllBare s.gens
 base:Un X.fs X.ex X.H₀ H X.s₀.heap s.heap
 loc:∃ m,s.heap.Ns X.env.locals m/\∀ (i:Nat) (x:Str) (v:V),X.N[i]? = some x->Z[i]? = some (some v)->Vis X.env.scope x->∃ u,aR v u/\aXT X.env s.heap m x u
 cell:∀ x c,X.env.cells.lookup x=some c->∃ v,s.heap.IsCell c v
 free:H X.env.locals=none
 freeC:∀ x c,X.env.cells.lookup x=some c->H c=none
 pin:∀ p∈X.pn++ap,s.heap.get? p.1=some p.2/\H p.1=none/\p.1≠X.env.locals/\p.1∉X.fs/\∀ v,p.2.data≠.cell v
 hok:HOk X.prog X.w H s.heap
 len:Z.length=X.N.length
section
variable{X:Cx}{ap:L9 (Az×Obj)}{Z:L9 (O9 V)}{H H':Hp}{s:S9}{h':Hz}
theorem Cx.Ok.nofr(ok:X.Ok)(e:X.base.get? b=some o):b∉X.fs:=λa=>by
 have:=(ok.funs.mem a).1
 rw[e]at this;cases this
theorem Inv.bs(I:Inv X ap Z H s):∀ b o,X.base.get? b=some o->s.heap.get? b=some o/\H b=none:=λb o e=>
 ⟨I.base.keep b o (I.ok.bs b o e).1 (I.ok.bs b o e).2 (I.ok.nofr e) (I.ok.noex b o e),I.base.free b o (I.ok.bs b o e).1 (I.ok.bs b o e).2 (I.ok.noex b o e)⟩
theorem Inv.bk(I:Inv X ap Z H s):∀ b o,X.base.get? b=some o->s.heap.get? b=some o:=λb o e=>(I.bs b o e).1
theorem Inv.mod(I:Inv X ap Z H s):Mod X.K X.mg X.base:=I.ok.mod
theorem Inv.kIn(I:Inv X ap Z H s):X.K.In s.heap:=I.ok.mod.kin.keeps I.bk
theorem Inv.lt(I:Inv X ap Z H s):X.env.locals < s.heap.objs.size:=let ⟨_,hn,_⟩:=I.loc;hn.lt
theorem Inv.sz(I:Inv X ap Z H s):X.s₀.heap.objs.size<=s.heap.objs.size:=A2 I.ok.above (B5 I.lt)
theorem Inv.nofs(I:Inv X ap Z H s){a:Az}(h:s.heap.objs.size<=a):a∉X.fs:=λb=>by
 obtain⟨_,o,c,_⟩:=I.ok.funs.mem b
 exact absurd (A0 (AS c) (A2 I.sz h)) (BW _)
theorem Inv.cne(I:Inv X ap Z H s):∀ x c,X.env.cells.lookup x=some c->c≠X.env.locals:=λx c e z=>by
 obtain⟨v,o,f,d⟩:=I.cell x c e
 obtain⟨m,⟨o',es,ep,b,a,_⟩,_⟩:=I.loc
 rw[z,b]at f;cases f;rw[a]at d;cases d
theorem Inv.funs(I:Inv X ap Z H s):s.heap.FunFrames X.base X.outer:=by
 have all:∀ (l:L9 Env),(∀ b∈frs l,b∈X.fs)->X.s₀.heap.FunFrames X.base l->s.heap.FunFrames X.base l:=by
  intro l
  induction l with
  | nil=>intro _ _;trivial
  | cons env r ih=>
   intro f g
   obtain⟨h,⟨L,o,a,j,k,i⟩,hr⟩:=g
   have d:L∈X.fs:=f L (by unfold frs;rw[ER,a];exact AX)
   obtain⟨sl,e⟩:=I.base.slot L o k (I.ok.frf L d) d λz=>I.ok.exfs L z d
   exact⟨h,⟨L,_,a,j,e,i⟩,ih (λb c=>f b (by unfold frs;rw[ER,a];exact AQ _ c)) hr⟩
 exact all X.outer (λ_ c=>c) I.ok.funs
theorem Inv.stack(I:Inv X ap Z H s):s.heap.FunFrames X.base X.stack:=by
 rcases I.ok.stk with e|⟨e,b⟩
 .rw[e];exact I.funs
 .rw[e]
  obtain⟨m,a,_⟩:=I.loc
  refine .cons (by rw[I.ok.kind];decide) b a ?_ I.funs
  exact Heap.get?_none_of_le (A2 I.ok.bsz I.ok.above)
theorem Inv.stkSub(I:Inv X ap Z H s):∀ b∈frs X.stack,b∈X.env.locals::X.fs:=λb a=>by
 rcases I.ok.stk with e|⟨e,c⟩
 .rw[e]at a;exact AQ _ a
 .rw[e]at a
  unfold frs at a
  rw[ER,c]at a
  exact a
theorem Inv.stkFree(I:Inv X ap Z H s):∀ b∈frs X.stack,H b=none:=λb a=>by
 rcases AW.mp (I.stkSub b a)with e|a
 .rw[e];exact I.free
 .obtain ⟨_,o,c,_⟩:=I.ok.funs.mem a
  exact I.base.free b o c (I.ok.frf b a) λz=>I.ok.exfs b z a
theorem Inv.step{g':Array GenState}{d':Drawn}{ch:L9 Az}(I:Inv X ap Z H s)
  (g:∀ b∈ch,(b∈X.ex\/X.s₀.heap.objs.size<=b)/\b≠X.env.locals/\(∀ x c,X.env.cells.lookup x=some c->c≠b)/\∀ p∈X.pn++ap,p.1≠b)
  (keep:∀ b o,b≠X.env.locals->b∉X.fs->b∉ch->s.heap.get? b=some o->H b=none->h'.get? b=some o)
  (slot:∀ b o,b≠X.env.locals->b∈X.fs->b∉ch->s.heap.get? b=some o->H b=none->∃ sl,h'.get? b=some {o with slots:=sl}) (free:∀ b o,b∉ch->s.heap.get? b=some o->H b=none->H' b=none)
  (there:∀ b o,b∉ch->s.heap.get? b=some o->∃ o',h'.get? b=some o')
  (tups:∀ b xs,H b=some (.tup xs)->H' b=some (.tup xs)) (frzs:∀ b o u,H b=some (.frz o u)->H' b=some (.frz o u)) (tbls:∀ b ps,H b=some (.tbl ps)->H' b=some (.tbl ps))
  (ns:∀ m,s.heap.Ns X.env.locals m->h'.Ns X.env.locals m) (hok:HOk X.prog X.w H' h') (hg:AllBare g') :
  Inv X ap Z H' {s with heap:=h',gens:=g',drawn:=d',toks:=t'}:=by
 have A:∀ b o,X.s₀.heap.get? b=some o->b≠X.env.locals:=λb o e=>A3 (A0 (AS e) I.ok.above)
 have j:∀ b o,X.s₀.heap.get? b=some o->b∉X.ex->b∉ch:=λb o e a t=>by
  rcases(g b t).1 with z|z
  .exact a z
  .exact absurd (A0 (AS e) z) (BW _)
 have h:∀ x c,X.env.cells.lookup x=some c->∀ v,s.heap.IsCell c v->h'.IsCell c v:=λx c e v D=>by
  obtain⟨o,y,C⟩:=D
  have f:c∉ch:=λz=>(g c z).2.2.1 x c e rfl
  by_cases G:c∈X.fs
  .obtain ⟨sl,q⟩:=slot c o (I.cne x c e) G f y (I.freeC x c e)
   exact⟨_,q,C⟩
  .exact ⟨o,keep c o (I.cne x c e) G f y (I.freeC x c e),C⟩
 refine⟨I.ok,I.os,hg,⟨λb o e n t a=>?_,λb o e n t a=>?_,λb o e n a=>?_,λb o e a=>?_,λb xs e=>tups b xs (I.base.tups b xs e),λb o xs e=>frzs b o xs (I.base.frzs b o xs e),λb ps e=>?_⟩,?_,λx c e=>?_,?_,λx c e=>?_,λp F=>?_,hok,I.len⟩
 .exact keep b o (A b o e) t (j b o e a) (I.base.keep b o e n t a) (I.base.free b o e n a)
 .obtain ⟨sl,e1⟩:=I.base.slot b o e n t a
  obtain⟨B,e2⟩:=slot b _ (A b o e) t (j b o e a) e1 (I.base.free b o e n a)
  exact⟨B,e2⟩
 .obtain ⟨o',e1⟩:=I.base.there b o e a
  exact free b o' (j b o e a) e1 (I.base.free b o e n a)
 .obtain ⟨o',e1⟩:=I.base.there b o e a
  exact there b o' (j b o e a) e1
 .exact tbls b ps (I.base.tbls b ps e)
 .obtain ⟨m,M,K⟩:=I.loc
  refine⟨m,ns m M,λi x v e1 e2 L=>?_⟩
  obtain⟨u,r,l⟩:=K i x v e1 e2 L
  refine⟨u,r,?_⟩
  rcases l with l|⟨k,c,e,z⟩
  .exact .inl l
  .exact .inr ⟨k,c,e,h x c e _ z⟩
 .obtain ⟨v,z⟩:=I.cell x c e
  exact⟨v,h x c e v z⟩
 .obtain ⟨m,⟨o,_,_,y,_⟩,_⟩:=I.loc
  exact free _ o (λz=>(g _ z).2.1 rfl) y I.free
 .obtain ⟨v,o,y,C⟩:=I.cell x c e
  exact free c o (λz=>(g c z).2.2.1 x c e rfl) y (I.freeC x c e)
 .obtain ⟨e,n,E,J,d⟩:=I.pin p F
  have f:p.1∉ch:=λz=>(g p.1 z).2.2.2 p F rfl
  exact⟨keep p.1 p.2 E J f e n,free p.1 p.2 f e n,E,J,d⟩
theorem Inv.un{t':Nat}(I:Inv X ap Z H s)(u:Un X.fs [] H H' s.heap h')(hok:HOk X.prog X.w H' h'):Inv X ap Z H' {s with heap:=h',toks:=t'}:=by
 obtain⟨m,⟨o,es,ep,g,r⟩,_⟩:=id I.loc
 obtain⟨sl,j⟩:=u.any g I.free (by simp)
 exact I.step (g':=s.gens) (d':=s.drawn) (ch:=[]) (λ_ z=>nomatch z) (λb o _ c _ e n=>u.keep b o e n c (by simp)) (λb o _ c _ e n=>u.slot b o e n c (by simp)) (λb o _ e n=>u.free b o e n (by simp)) (λb o _ e=>u.there b o e (by simp)) u.tups u.frzs u.tbls (λk h=>by
  obtain⟨o',f,d,a,i⟩:=h
  rw[g]at a;cases a
  exact⟨_,f,d,j,i⟩) hok I.bare
theorem Inv.call{g':Array GenState}{t':Nat}{d':Drawn}{ch:L9 Az}(I:Inv X ap Z H s)(u:Un (frs X.stack) ch H H' s.heap h')(hok:HOk X.prog X.w H' h')(l:AllBare g')
  (f:∀ b∈ch,(b∈X.ex\/X.s₀.heap.objs.size<=b)/\b≠X.env.locals/\(∀ x c,X.env.cells.lookup x=some c->c≠b)/\∀ p∈X.pn++ap,p.1≠b) :
  Inv X ap Z H' {s with heap:=h',gens:=g',drawn:=d',toks:=t'}:=by
 obtain⟨m,⟨o,es,ep,j,r⟩,_⟩:=id I.loc
 obtain⟨sl,h⟩:=u.any j I.free λz=>(f _ z).2.1 rfl
 exact I.step (ch:=ch) f (λb o h t a e n=>u.keep b o e n (λz=>(AW.mp (I.stkSub b z)).elim h t) a) (λb o _ _ a e n=>u.any e n a) (λb o a e n=>u.free b o e n a) (λb o a e=>u.there b o e a) u.tups u.frzs u.tbls (λv k=>by
  obtain⟨o',i,g,d,q⟩:=k
  rw[j]at d;cases d
  exact⟨_,i,g,h,q⟩) hok l
theorem Inv.turned{t':Nat}{it:Az}(I:Inv X ap Z H s)(k:∀ b o,b≠it->s.heap.get? b=some o->h'.get? b=some o)(j:H it=none)(f:it≠X.env.locals)
  (h1:it∈X.ex\/X.s₀.heap.objs.size<=it) (h2:∀ x c,X.env.cells.lookup x=some c->c≠it) (h:∀ p∈X.pn++ap,p.1≠it):Inv X ap Z H {s with heap:=h',toks:=t'}:=by
 have d:∀ b u,H b=some u->b≠it:=λb u e z=>by rw[z,j]at e;cases e
 refine I.step (g':=s.gens) (d':=s.drawn) (ch:=[it]) (λb i=>?_) (λb o _ _ a e _=>k b o (λz=>a (by simp[z])) e) (λb o _ _ a e _=>⟨o.slots,k b o (λz=>a (by simp[z])) e⟩) (λ_ _ _ _ n=>n)
  (λb o a e=>⟨o,k b o (λz=>a (by simp[z])) e⟩) (λ_ _ e=>e) (λ_ _ _ e=>e) (λ_ _ e=>e) (λm g=>?_) (λb u e=>?_) I.bare
 .have e:b=it:=by simpa using i
  subst e
  exact⟨h1,f,h2,h⟩
 .obtain ⟨o,es,ep,l,r⟩:=g
  exact⟨o,es,ep,k _ o (BF f) l,r⟩
 .refine (I.hok b u e).stay (λc v a q=>k c v ?_ q) (λ_ q=>q) (λ_ _ q=>q) λ_ _ q=>q
  rcases a with z|z
  · rw [z]; exact d b u e
  · exact d c _ z
theorem Inv.tok(I:Inv X ap Z H s)(t:Nat):Inv X ap Z H {s with toks:=t}:=I.un (h':=s.heap) (t':=t) Un.refl I.hok
theorem Inv.kept{t':Nat}(I:Inv X ap Z H s)(k:∀ b u,s.heap.get? b=some u->h'.get? b=some u):Inv X ap Z H {s with heap:=h',toks:=t'}:=I.un (Un.kept k) (I.hok.kept k)
theorem Inv.laid{a:Az}{o:HO}{t':Nat}(I:Inv X ap Z H s)(k:∀ b u,s.heap.get? b=some u->h'.get? b=some u)(c:s.heap.objs.size<=a)(new:bS X.prog X.w (upd H a o) h' a o) :
 Inv X ap Z (upd H a o) {s with heap:=h',toks:=t'}:=I.un (Un.laid k c (I.hok.fresh c)) (I.hok.laid k c new)
theorem Inv.write{x e:Az}{o:HO}(I:Inv X ap Z H s)(d:Mut (H x))(c:e=x\/H e=some (.own x))(k:∀ b u,b≠e->s.heap.get? b=some u->h'.get? b=some u)(a:∃ u,h'.get? e=some u)
 (new:bS X.prog X.w (upd H x o) h' x o):Inv X ap Z (upd H x o) {s with heap:=h',toks:=t'}:=I.un (Un.write d c k a) (I.hok.write d c k a new)
theorem Inv.pins_of{pins':L9 (Az×Obj)}(I:Inv X ap Z H s)(h:∀ p∈pins',s.heap.get? p.1=some p.2/\H p.1=none/\p.1≠X.env.locals/\p.1∉X.fs/\∀ v,p.2.data≠.cell v):Inv X pins' Z H s:=
 ⟨I.ok,I.os,I.bare,I.base,I.loc,I.cell,I.free,I.freeC,λp a=>(BD.mp a).elim (λz=>I.pin p (CN _ z)) (h p),I.hok,I.len⟩
theorem aAZ(hN:N.Nodup)(a:N[i]? = some x)(b:N[j]? = some x):i=j:=by
 obtain⟨h1,e1⟩:=AJ.mp a
 obtain⟨h2,e2⟩:=AJ.mp b
 exact(List.getElem_inj hN).mp (e1.trans e2.symm)
theorem zJ{A:U9}{v:V}{Q:Unit->S9->Prop}(I:Inv X ap Z H s)(hN:X.N.Nodup)(hi:X.N[i]? = some x)(hx:Loc X.env.scope x)(r:aR v u)
  (h:∀ s',Inv X ap (Z.set i (some v)) H s'->(∃ a,Heap.SameBut a s.heap s'.heap/\(a=X.env.locals\/X.env.cells.lookup x=some a))->Q () s') (hf:X.fn x=true\/X.env.scope.names.lookup x=some .local):wpAny M A (storeName X.env x u) Q E s:=by
 obtain⟨m,hn,hl⟩:=id I.loc
 have P:(X.env.scope.kind == .class || (X.env.scope.kind == .module && X.env.locals != X.env.globals))=false:=by rw[I.ok.kind];rfl
 have C:i < Z.length:=by rw[I.len];exact(AJ.mp hi).1
 have cne:=I.cne
 have g:∀ {a:Az} {h':Hz},(∃ o,s.heap.get? a=some o/\H a=none)->Heap.SameBut a s.heap h'->HOk X.prog X.w H h':=λ{a h'} ha f b ob e=>by
  obtain⟨_,_,t⟩:=ha
  refine(I.hok b ob e).stay (λc S l q=>(f.2 c ?_).trans q) (λ_ q=>q) (λ_ _ q=>q) λ_ _ q=>q
  rintro rfl
  rcases l with rfl|l
  .rw[t]at e;cases e
  .rw[t]at l;cases l
 rcases hx with B|B
 .refine wpAny_storeName_local B hn (λh' aa f=>?_) P
  obtain⟨oL,_,_,Y,_⟩:=id hn
  refine h _ ⟨I.ok,I.os,I.bare,⟨λb o e n D hx=>?_,λb o e n D hx=>?_,I.base.free,λb o e hx=>?_,I.base.tups,I.base.frzs,I.base.tbls⟩,⟨_,aa,λj y v' e1 e2 W=>?_⟩,λy c e=>?_,I.free,I.freeC,λp hp=>?_,g ⟨oL,Y,I.free⟩ f,by simpa using I.len⟩ ⟨_,f,.inl rfl⟩
  .exact (f.2 b (A3 (A0 (AS e) I.ok.above))).trans (I.base.keep b o e n D hx)
  .obtain ⟨sl,e1⟩:=I.base.slot b o e n D hx
   exact⟨sl,(f.2 b (A3 (A0 (AS e) I.ok.above))).trans e1⟩
  .obtain ⟨o',e1⟩:=I.base.there b o e hx
   exact⟨o',(f.2 b (A3 (A0 (AS e) I.ok.above))).trans e1⟩
  .by_cases F:j=i
   .subst F
    rw[hi]at e1;cases e1
    rw[DM C]at e2
    cases e2
    exact⟨u,r,.inl ⟨B,by simp⟩⟩
   .rw[CH (BF F)]at e2
    obtain⟨u',U,q⟩:=hl j y v' e1 e2 W
    refine⟨u',U,?_⟩
    rcases q with ⟨k,e⟩|⟨k,c,e,z⟩
    .refine .inl ⟨k,?_⟩
     have:y≠x:=λe=>F (aAZ hN e1 (e▸hi))
     simp[this,e]
    .exact .inr ⟨k,c,e,z.sameBut f (cne y c e)⟩
  .obtain ⟨S,z⟩:=I.cell y c e
   exact⟨S,z.sameBut f (cne y c e)⟩
  .obtain ⟨e,n,R,nf,d⟩:=I.pin p hp
   exact⟨(f.2 p.1 R).trans e,n,R,nf,d⟩
 .have G:X.fn x=true:=by
   rcases hf with z|z
   .exact z
   .rw[z]at B;cases B
  obtain⟨c,l⟩:=I.ok.has x (.inl B)
  obtain⟨S,z⟩:=I.cell x c l
  refine wpAny_storeName_cell I.ok.kind B l z (λh' O f=>?_)
  obtain⟨oc,K,L⟩:=id z
  refine h {s with heap:=h'} ⟨I.ok,I.os,I.bare,⟨λb o e n D hx=>?_,λb o e n D hx=>?_,I.base.free,λb o e hx=>?_,I.base.tups,I.base.frzs,I.base.tbls⟩,⟨m,hn.sameBut f (BF (cne x c l)),λj y v' e1 e2 W=>?_⟩,λy T e=>?_,I.free,I.freeC,λp hp=>?_,g ⟨oc,K,I.freeC x c l⟩ f,by simpa using I.len⟩ ⟨c,f,.inr l⟩
  .exact (f.2 b (A3 (A0 (AS e) (I.ok.cab x c G l)))).trans (I.base.keep b o e n D hx)
  .obtain ⟨sl,e1⟩:=I.base.slot b o e n D hx
   exact⟨sl,(f.2 b (A3 (A0 (AS e) (I.ok.cab x c G l)))).trans e1⟩
  .obtain ⟨o',e1⟩:=I.base.there b o e hx
   exact⟨o',(f.2 b (A3 (A0 (AS e) (I.ok.cab x c G l)))).trans e1⟩
  .by_cases F:j=i
   .subst F
    rw[hi]at e1;cases e1
    rw[DM C]at e2
    cases e2
    exact⟨u,r,.inr ⟨.inl B,c,l,O⟩⟩
   .rw[CH (BF F)]at e2
    obtain⟨u',U,q⟩:=hl j y v' e1 e2 W
    refine⟨u',U,?_⟩
    rcases q with q|⟨k,T,e,z'⟩
    .exact .inl q
    .refine .inr ⟨k,T,e,z'.sameBut f ?_⟩
     rintro rfl
     exact F (aAZ hN e1 (I.ok.inj _ _ _ e l▸hi))
  .by_cases J:T=c
   .subst J;exact⟨_,O⟩
   .obtain ⟨w2,z2⟩:=I.cell y T e
    exact⟨w2,z2.sameBut f J⟩
  .obtain ⟨e,n,R,nf,d⟩:=I.pin p hp
   refine⟨(f.2 p.1 ?_).trans e,n,R,nf,d⟩
   intro q
   rw[q,K]at e
   have q':oc=p.2:=BL e
   exact d S (by rw[<-q'];exact L)
theorem uN{A:U9}{v:V}{Q:Unit->S9->Prop}(I:Inv X ap Z H s)(hN:X.N.Nodup)(hi:X.N[i]? = some x)(hx:Loc X.env.scope x)(r:aR v u)
  (h:∀ s',Inv X ap (Z.set i (some v)) H s'->Q () s') (b:X.fn x=true\/X.env.scope.names.lookup x=some .local):wpAny M A (storeName X.env x u) Q E s:=
 zJ I hN hi hx r (λs' a _=>h s' a) b
theorem Inv.call'{ch:L9 Az}(I:Inv X ap Z H s)(f:s'.os=s.os)(u:Un (frs X.stack) ch H H' s.heap s'.heap)(hok:HOk X.prog X.w H' s'.heap)(d:AllBare s'.gens)
  (a:∀ b∈ch,(b∈X.ex\/X.s₀.heap.objs.size<=b)/\b≠X.env.locals/\(∀ x c,X.env.cells.lookup x=some c->c≠b)/\∀ p∈X.pn++ap,p.1≠b):Inv X ap Z H' s':=by
 obtain⟨h',g',d',t',o'⟩:=s'
 have e:o'=s.os:=f
 subst e
 exact I.call (g':=g') (t':=t') (d':=d') u hok d a
end
abbrev XK:=V9->O9 Az->Hp->Prop
abbrev St:=L9 (O9 V)
abbrev VK:=V->Hp->Prop
abbrev TE:=St->Hp->VK->Prop
abbrev TT:=St->Hp->(Bool->Hp->Prop)->Prop
abbrev TA:=St->Hp->(L9 V->Hp->Prop)->Prop
structure j8 where
 nx:St->Hp->Prop
 rt:VK
 bk:St->Hp->Prop:=λ_ _=>False
 ct:St->Hp->Prop:=λ_ _=>False
abbrev TS:=j8->St->Hp->Prop
def EP(X:Cx)(ap:L9 (Az×Obj))(Z:St)(Q:VK)(u:V9)(s':S9):Prop:=∃ v H',Inv X ap Z H' s'/\aR v u/\Q v H'
def TP(X:Cx)(ap:L9 (Az×Obj))(Z:St)(Q:Bool->Hp->Prop)(b:Bool)(s':S9):Prop:=∃ H',Inv X ap Z H' s'/\Q b H'
def AP(X:Cx)(ap:L9 (Az×Obj))(Z:St)(Q:L9 V->Hp->Prop)(us:L9 V9)(s':S9):Prop:=∃ vs H',Inv X ap Z H' s'/\aZ vs us/\Q vs H'
def SP(X:Cx)(ap:L9 (Az×Obj))(D:j8)(f:Flow)(s':S9):Prop:=
 match f with
 | .next=>∃ Z' H',Inv X ap Z' H' s'/\D.nx Z' H'
 | .brk=>∃ Z' H',Inv X ap Z' H' s'/\D.bk Z' H'
 | .cont=>∃ Z' H',Inv X ap Z' H' s'/\D.ct Z' H'
 | .ret u=>∃ v Z' H',Inv X ap Z' H' s'/\aR v u/\D.rt v H'
def PE(X:Cx)(e:E2)(t:TE):Prop:=
 ∀ (ap:L9 (Az×Obj)) (s:S9) (Z:St) (H:Hp) (Q:VK),Inv X ap Z H s->t Z H Q->wpAny (model X.prog X.w) X.A (eval e X.env) (EP X ap Z Q) X.xe s
def PT(X:Cx)(e:E2)(t:TT):Prop:=
 ∀ (ap:L9 (Az×Obj)) (s:S9) (Z:St) (H:Hp) (Q:Bool->Hp->Prop),Inv X ap Z H s->t Z H Q->wpAny (model X.prog X.w) X.A (isTrue e X.env (eval e X.env)) (TP X ap Z Q) X.xe s
def PW(X:Cx)(e:E2)(t:TT):Prop:=
 ∀ (whole:Sem V9) (ap:L9 (Az×Obj)) (s:S9) (Z:St) (H:Hp) (Q:Bool->Hp->Prop),Inv X ap Z H s->t Z H Q->wpAny (model X.prog X.w) X.A (isTrue e X.env whole) (TP X ap Z Q) X.xe s
theorem PW.pt{X:Cx}{t:TT}(h:PW X e t):PT X e t:=h _
def PA(X:Cx)(es:L9 E2)(t:TA):Prop:=
 ∀ (pos:Pos) (ap:L9 (Az×Obj)) (s:S9) (Z:St) (H:Hp) (Q:L9 V->Hp->Prop),Inv X ap Z H s->t Z H Q->wpAny (model X.prog X.w) X.A (spliced (backTo pos (starEach es X.env))) (AP X ap Z Q) X.xe s
def PS(X:Cx)(st:Stmt)(t:TS):Prop:=
 ∀ (ap:L9 (Az×Obj)) (s:S9) (Z:St) (H:Hp) (D:j8),Inv X ap Z H s->t D Z H->wpAny (model X.prog X.w) X.A (exec st X.env) (SP X ap D) X.xe s
def PSs(X:Cx)(st:L9 Stmt)(t:TS):Prop:=
 ∀ (ap:L9 (Az×Obj)) (s:S9) (Z:St) (H:Hp) (D:j8),Inv X ap Z H s->t D Z H->wpAny (model X.prog X.w) X.A (execs st X.env) (SP X ap D) X.xe s
theorem thn{t:Sem α}{Q b:α->S9->Prop}{A:U9}(h:wpAny M A t Q E s)(c:∀ a s,Q a s->b a s):wpAny M A t b E s:=BZ h c λ_ _ x=>x
section
variable{X:Cx}
def iW(i:Nat):TE:=λZ H Q=>∃ v,Z[i]? = some (some v)/\Q v H
def tC(v:V):TE:=λ_ H Q=>Q v H
theorem aSH{pos:Pos}(hN:X.N[i]? = some x)(n:Vis X.env.scope x)(f:(x == ("__debug__":Str))=false:=by decide)(hcd:(x == ("__classdict__":Str))=false:=by decide):PE X (.Name x pos) (iW i):=by
 intro ap s Z H Q I h
 obtain⟨v,e,h⟩:=h
 obtain⟨m,o,j⟩:=I.loc
 obtain⟨u,r,l⟩:=j i x v hN e n
 have b:EP X ap Z Q u s:=⟨v,H,I,r,h⟩
 rcases l with ⟨d,k⟩|⟨d,c,g,a⟩
 .exact wpAny_Name (wpAny_loadName_local I.ok.kind d o k b) f
 .rcases d with d|d
  · exact wpAny_Name (wpAny_loadName_cell I.ok.kind d g a b) f
  · exact wpAny_Name (wpAny_loadName_free I.ok.kind d g a b hcd) f
theorem aSI{i j pos}:PE X (.Constant (.int i) j pos) (tC (.int i)):=λ_ _ _ H _ I h=>wpAny_Constant_int ⟨.int i,H,I.tok _,⟨_,rfl⟩,h⟩
theorem aV0{b j pos}:PE X (.Constant (.bool b) j pos) (tC (.bl b)):=λ_ _ _ H _ I h=>Constant_bool ⟨.bl b,H,I,rfl,h⟩
theorem aSJ{j pos}:PE X (.Constant .none j pos) (tC .non):=λ_ _ _ H _ I h=>Constant_none ⟨.non,H,I,rfl,h⟩
theorem aSK{x j pos}:PE X (.Constant (.str x) j pos) (tC (.str x)):=λ_ _ _ H _ I h=>Calls.Constant_str ⟨.str x,H,I.tok _,⟨_,rfl⟩,h⟩
def Gl(X:Cx)(x:Str):Prop:=X.env.kindOf x=some .globalImplicit
theorem xP{pos:Pos}(I:Inv X ap Z H s)(a:Gl X x)(b:X.mg x=some u)(h:Q u s)
  (c:(x == ("__debug__":Str))=false:=by decide):wpAny (model X.prog X.w) X.A (eval (.Name x pos) X.env) Q E s:=
 GT I.ok.kind a (Calls.loadGlobal_global (by rw[I.ok.glob];exact I.mod.glob.keeps I.bk) b h) c
theorem jU{pos:Pos}(I:Inv X ap Z H s)(b:Gl X x)(a:X.mg x=none)(c:bootBuiltins x=some u)(h:Q u s)
  (d:x≠"__name__":=by decide) (hd:(x == ("__debug__":Str))=false:=by decide):wpAny (model X.prog X.w) X.A (eval (.Name x pos) X.env) Q E s:=by
 obtain⟨e,h1,h2⟩:=I.mod.blt
 exact GT I.ok.kind b (Calls.loadGlobal_builtin (by rw[I.ok.glob];exact I.mod.glob.keeps I.bk) a (by rw[I.ok.blt];exact h1.keeps I.bk) ((h2 x d).trans c) h) hd
theorem oD{v:V}{pos:Pos}(a:Gl X x)(b:X.mg x=some u)(r:aR v u)(c:(x == ("__debug__":Str))=false:=by decide):PE X (.Name x pos) (tC v):=
 λ_ _ _ H _ I h=>xP I a b ⟨v,H,I,r,h⟩ c
theorem aOS{v:V}{pos:Pos}(a:Gl X x)(c:X.mg x=none)(b:bootBuiltins x=some u)(r:aR v u)(d:x≠"__name__":=by decide)(hd:(x == ("__debug__":Str))=false:=by decide):PE X (.Name x pos) (tC v):=
 λ_ _ _ H _ I h=>jU I a c b ⟨v,H,I,r,h⟩ d hd
variable{a b:E2}{ta tb:TE}{pos:Pos}
def PC(X:Cx)(op:CmpOp)(a b:E2)(t:TE):Prop:=
 ∀ (ap:L9 (Az×Obj)) (s:S9) (Z:St) (H:Hp) (Q:VK),Inv X ap Z H s->t Z H Q->
  wpAny (model X.prog X.w) X.A (eval a X.env) (λv s₁=>wpAny (model X.prog X.w) X.A (eval b X.env) (λu s₂=>wpAny (model X.prog X.w) X.A (compareOp op v u) (EP X ap Z Q) X.xe s₂) X.xe s₁) X.xe s
theorem aK6(b:E2)(h:op≠.In)(h2:op≠.NotIn):behindInMarks op b=false:=by
 have e1:(op == CmpOp.In)=false:=by cases op<;>first|rfl|exact absurd rfl h
 have e2:(op == CmpOp.NotIn)=false:=by cases op<;>first|rfl|exact absurd rfl h2
 cases b<;>simp[behindInMarks,e1,e2]
def tB(t:TE):TT:=λZ H Q=>t Z H λx H1=>∃ c,x=.bl c/\Q c H1
theorem iZ{t:TE}(h:PC X op a b t)(h1:behindInMarks op b=false:=by first|exact aK6 _ (by decide) (by decide)|rfl):PT X (.Compare a [op] [b] pos) (tB t):=by
 intro ap s Z H Q I g
 refine wpAny_isTrue_Compare1 (thn (h ap s Z H _ I g) λv s1 h1=>thn h1 λu k h2=>thn h2 λc j e=>?_) h1
 obtain⟨x,H1,i,r1,f⟩:=e
 obtain⟨d,rfl,q⟩:=f
 cases r1
 exact DB ⟨H1,i,q⟩
theorem qH{t:TE}(h:PE X e t)(c:∀ whole,isTrue e X.env whole=(do let v <-whole;standAt e.pos;holding [v] (truthy v)):=by intro _;rfl):PT X e (tB t):=by
 intro ap s Z H Q I f
 refine isTrue_plain (thn (h ap s Z H _ I f) λv s1 a=>?_) (c _)
 obtain⟨x,H1,g,r1,b⟩:=a
 obtain⟨d,rfl,q⟩:=b
 cases r1
 exact DB ⟨H1,g,q⟩
variable{tA tB':TT}{rest:L9 E2}
def aSL(t u:TT):TT:=λZ H Q=>t Z H λc H1=>if c=true then u Z H1 Q else Q false H1
def tOr(t u:TT):TT:=λZ H Q=>t Z H λc H1=>if c=true then Q true H1 else u Z H1 Q
def aXU(t:TT):TT:=λZ H Q=>t Z H λc H1=>Q (!c) H1
theorem sK(b:PT X a tA):PW X (.BoolOp .And [a] pos) tA:=by
 intro d ap s Z H Q I h
 refine isTrue_and (thn (b ap s Z H Q I h) λc s1 e=>?_)
 cases c with
 | true=>exact isTrue_and_nil e
 | false=>exact e
theorem aA0(b:PT X a tA):PW X (.BoolOp .Or [a] pos) tA:=by
 intro d ap s Z H Q I h
 refine isTrue_or (thn (b ap s Z H Q I h) λc s1 e=>?_)
 cases c with
 | false=>exact isTrue_or_nil e
 | true=>exact e
theorem v3(g:PT X a tA)(hb:PW X (.BoolOp .And (b::rest) pos) tB'):PW X (.BoolOp .And (a::b::rest) pos) (aSL tA tB'):=by
 intro i ap s Z H Q I h
 refine isTrue_and (thn (g ap s Z H _ I h) λc s1 d=>?_)
 obtain⟨H1,f,e⟩:=d
 cases c with
 | true=>exact hb i ap s1 Z H1 Q f e
 | false=>exact⟨H1,f,e⟩
theorem aFW(g:PT X a tA)(hb:PW X (.BoolOp .Or (b::rest) pos) tB'):PW X (.BoolOp .Or (a::b::rest) pos) (tOr tA tB'):=by
 intro i ap s Z H Q I h
 refine isTrue_or (thn (g ap s Z H _ I h) λc s1 d=>?_)
 obtain⟨H1,f,e⟩:=d
 cases c with
 | true=>exact⟨H1,f,e⟩
 | false=>exact hb i ap s1 Z H1 Q f e
theorem qI(b:PT X a tA):PT X (.UnaryOp .Not a pos) (aXU tA):=by
 intro ap s Z H Q I h
 exact isTrue_not (b ap s Z H (λc H1=>Q (!c) H1) I h)
def aV1(ta tb:TE):TE:=λZ H Q=>ta Z H λx H1=>∃ c,x=.bl c/\if c=true then tb Z H1 Q else Q (.bl false) H1
def aV2(ta:TE):TE:=λZ H Q=>ta Z H λx H1=>∃ c,x=.bl c/\Q (.bl (!c)) H1
theorem aSM{op}{t:TE}(h:PE X a t):PE X (.BoolOp op [a] pos) t:=λap s Z H Q I b=>BoolOp_one (h ap s Z H Q I b)
theorem aSN(g:PE X a ta)(hb:PE X (.BoolOp .And (b::rest) pos) tb):PE X (.BoolOp .And (a::b::rest) pos) (aV1 ta tb):=by
 intro ap s Z H Q I h
 refine BoolOp_and (thn (g ap s Z H _ I h) λv s1 e=>?_)
 obtain⟨x,H1,f,r1,d⟩:=e
 obtain⟨c,rfl,d⟩:=d
 cases r1
 refine DB ?_
 cases c with
 | true=>exact hb ap s1 Z H1 Q f d
 | false=>exact⟨.bl false,H1,f,rfl,d⟩
theorem aSO(f:PE X a ta):PE X (.UnaryOp .Not a pos) (aV2 ta):=by
 intro ap s Z H Q I h
 refine UnaryOp_ (thn (f ap s Z H _ I h) λv s1 d=>?_)
 obtain⟨x,H1,e,r1,b⟩:=d
 obtain⟨c,rfl,b⟩:=b
 cases r1
 exact not_of (DB ⟨.bl (!c),H1,e,rfl,b⟩)
def tIf(t:TT)(ta tb:TE):TE:=λZ H Q=>t Z H λc H1=>if c=true then ta Z H1 Q else tb Z H1 Q
theorem aK7(i:PT X c tA)(j:PE X a ta)(hb:PE X b tb):PE X (.IfExp c a b pos) (tIf tA ta tb):=by
 intro ap s Z H Q I h
 refine wpAny_IfExp (thn (i ap s Z H _ I h) λd s1 e=>?_)
 obtain⟨H1,g,f⟩:=e
 cases d with
 | true=>exact j ap s1 Z H1 Q g f
 | false=>exact hb ap s1 Z H1 Q g f
end
def SqL(K:Frag)(H:Hp)(a:Az)(xs:L9 V):Prop:=
 Rd H a (.lst xs) \/
  ∃ (o:Obj) (its:Array V9) (n:Nat),K.lookup a=some o/\o.cls=.type "list"/\o.dict=none/\o.data=.seq its n/\its.size<=sizeLine/\aZ xs its.toList
def SqT(K:Frag)(H:Hp)(a:Az)(xs:L9 V):Prop:=
 Rd H a (.tup xs) \/
  ∃ (o:Obj) (its:Array V9) (n:Nat),K.lookup a=some o/\(o.cls=.type "tuple"/\o.dict=none)/\o.data=.seq its n/\its.size<=sizeLine/\aZ xs its.toList
noncomputable def aXV:V9->O9 V
 | .none=>some .non
 | .bool b=>some (.bl b)
 | .int i _=>some (.int i)
 | .str x _=>some (.str x)
 | .bytes b _=>some (.byt b)
 | .float b _=>some (.flt b)
 | .ref a=>some (.ref a)
 | .type n=>some (.ty n)
 | _=>none
theorem aR.abs{x:V}(r:aR x u):aXV u=some x:=by
 cases x with
 | non=>cases r;rfl
 | bl _=>cases r;rfl
 | int _=>obtain⟨t,rfl⟩:=r;rfl
 | str _=>obtain⟨t,rfl⟩:=r;rfl
 | byt _=>obtain⟨t,rfl⟩:=r;rfl
 | flt _=>obtain⟨t,rfl⟩:=r;rfl
 | ref _=>cases r;rfl
 | ty _=>cases r;rfl
theorem aR.inj{x y:V}{u:V9}(r:aR x u)(q:aR y u):x=y:=BL (r.abs.symm.trans q.abs)
theorem aZ.inj:∀ {xs ys:L9 V} {us:L9 V9},aZ xs us->aZ ys us->xs=ys
 | _,_,_,.nil,.nil=>rfl
 | _,_,_,.cons r t,.cons r' t'=>by rw[r.inj r',aZ.inj t t']
section
variable{X:Cx}{ap:L9 (Az×Obj)}{Z:St}{H:Hp}{s:S9}{a:Az}{xs ys:L9 V}
theorem SqL.of(h:H a=some (.lst xs)):SqL K H a xs:=.inl (.inl h)
theorem SqT.of(h:H a=some (.tup xs)):SqT K H a xs:=.inl (.inl h)
theorem Inv.list(I:Inv X ap Z H s)(h:SqL X.K H a xs):∃ its:L9 V9,aZ xs its/\PlainL s.heap a its.toArray/\xs.length<=sizeLine:=by
 rcases h with h|⟨o,its,n,c,b,d,f,g,r⟩
 .obtain ⟨z,its,n,r,e⟩:=h.ok I.hok
  exact⟨its,r,⟨_,n,e,rfl,rfl,rfl⟩,z⟩
 .refine ⟨its.toList,r,⟨o,n,I.kIn a o c,b,d,by simpa using f⟩,?_⟩
  have e:=r.length
  simp only[CA]at e
  ext
theorem Inv.tuple(I:Inv X ap Z H s)(h:SqT X.K H a xs):∃ its:L9 V9,aZ xs its/\IsTup s.heap a its.toArray/\xs.length<=sizeLine:=by
 rcases h with h|⟨o,its,n,c,d,b,f,r⟩
 .obtain ⟨z,its,r,p⟩:=h.ok I.hok
  exact⟨its,r,p.t,z⟩
 .refine ⟨its.toList,r,⟨o,I.kIn a o c,d.1,n,by simpa using b⟩,?_⟩
  have e:=r.length
  simp only[CA]at e
  ext
theorem Inv.list_inj(I:Inv X ap Z H s)(h:SqL X.K H a xs)(h':SqL X.K H a ys):xs=ys:=by
 obtain⟨c,r,⟨o,n,e,_,_,d⟩,_⟩:=I.list h
 obtain⟨b,i,⟨o',j,g,_,_,f⟩,_⟩:=I.list h'
 rw[e]at g;cases g
 rw[d]at f
 injection f with d1 _
 have:c=b:=by simpa using congrArg Array.toList d1
 subst this
 exact r.inj i
theorem Inv.tuple_inj(I:Inv X ap Z H s)(h:SqT X.K H a xs)(h':SqT X.K H a ys):xs=ys:=by
 obtain⟨c,r,⟨o,e,_,n,d⟩,_⟩:=I.tuple h
 obtain⟨b,i,⟨o',g,_,j,f⟩,_⟩:=I.tuple h'
 rw[e]at g;cases g
 rw[d]at f
 injection f with d1 _
 have:c=b:=by simpa using congrArg Array.toList d1
 subst this
 exact r.inj i
end
abbrev Cx.wish(X:Cx)(E:V9->S9->Prop):Cx:={X with xe:=E}
abbrev Cx.nox(X:Cx):Cx:=X.wish λ_ _=>False
theorem Cx.Ok.wish{X:Cx}(ok:X.Ok)(E:V9->S9->Prop):(X.wish E).Ok:=
 ⟨ok.mod,ok.kind,ok.glob,ok.blt,ok.above,ok.inj,ok.has,ok.cab,ok.hd,ok.frames,ok.stk,ok.exf,ok.bs,ok.bsz,ok.noex,ok.exfs,ok.funs,ok.frf⟩
theorem Cx.Ok.unwish{X:Cx}(ok:(X.wish E).Ok):X.Ok:=
 ⟨ok.mod,ok.kind,ok.glob,ok.blt,ok.above,ok.inj,ok.has,ok.cab,ok.hd,ok.frames,ok.stk,ok.exf,ok.bs,ok.bsz,ok.noex,ok.exfs,ok.funs,ok.frf⟩
section
variable{X:Cx}{ap:L9 (Az×Obj)}{Z:St}{H:Hp}{s:S9}{E:V9->S9->Prop}
theorem Inv.wish(I:Inv X ap Z H s)(E:V9->S9->Prop):Inv (X.wish E) ap Z H s:=⟨I.ok.wish E,I.os,I.bare,I.base,I.loc,I.cell,I.free,I.freeC,I.pin,I.hok,I.len⟩
theorem Inv.unwish(I:Inv (X.wish E) ap Z H s):Inv X ap Z H s:=⟨I.ok.unwish,I.os,I.bare,I.base,I.loc,I.cell,I.free,I.freeC,I.pin,I.hok,I.len⟩
theorem SP.unwish{D:j8}{f:Flow}(h:SP (X.wish E) ap D f s'):SP X ap D f s':=by
 cases f with
 | next=>obtain⟨a,H',I,q⟩:=h;exact⟨a,H',I.unwish,q⟩
 | brk=>obtain⟨a,H',I,q⟩:=h;exact⟨a,H',I.unwish,q⟩
 | cont=>obtain⟨a,H',I,q⟩:=h;exact⟨a,H',I.unwish,q⟩
 | ret u=>obtain⟨v,a,H',I,r,q⟩:=h;exact⟨v,a,H',I.unwish,r,q⟩
theorem PE.nox{t:TE}(h:PE X.nox e t):PE X e t:=λap s Z H Q I b=>
 BZ (h ap s Z H Q (I.wish _) b) (λ_ _ ⟨v,H',a,r,q⟩=>⟨v,H',a.unwish,r,q⟩) λ_ _ z=>False.elim z
theorem PT.nox{t:TT}(h:PT X.nox e t):PT X e t:=λap s Z H Q I b=>
 BZ (h ap s Z H Q (I.wish _) b) (λ_ _ ⟨H',a,q⟩=>⟨H',a.unwish,q⟩) λ_ _ z=>False.elim z
theorem PSs.nox{st:L9 Stmt}{t:TS}(h:PSs X.nox st t):PSs X st t:=λap s Z H D I a=>
 BZ (h ap s Z H D (I.wish _) a) (λ_ _ q=>q.unwish) λ_ _ z=>False.elim z
end
section
variable{X:Cx}{st:Stmt}{rest:L9 Stmt}{t u:TS}{e:E2}{te:TE}{pos:Pos}
def aV3:TS:=λD Z H=>D.nx Z H
def aXW(t u:TS):TS:=λD Z H=>t {D with nx:=u D} Z H
theorem iP:PSs X [] aV3:=λ_ _ Z H _ I h=>FS ⟨Z,H,I,h⟩
theorem aJ(h1:PS X st t)(h2:PSs X rest u):PSs X (st::rest) (aXW t u):=by
 intro ap s Z H D I h
 refine wpAny_execs_cons (thn (h1 ap s Z H {D with nx:=u D} I h) λf s1 q=>?_)
 cases f with
 | next=>
  obtain⟨b,H',a,q⟩:=q
  exact h2 ap s1 b H' D a q
 | ret v=>exact q
 | brk=>exact q
 | cont=>exact q
theorem cK(h1:PS X st t):PSs X [st] t:=by
 intro ap s Z H D I h
 refine wpAny_execs_cons (thn (h1 ap s Z H D I h) λf s1 q=>?_)
 cases f with
 | next=>exact FS q
 | ret v=>exact q
 | brk=>exact q
 | cont=>exact q
theorem Inv.quiet(I:Inv X ap Z H s):interactive X.env=false:=by simp[interactive,I.ok.kind]
def v4(te:TE):TS:=λD Z H=>te Z H λ_ H1=>D.nx Z H1
theorem jI(c:PE X e te)(b:swapsWith e none pos.line X.env=pure false:=by rfl):PS X (.Expr e pos) (v4 te):=by
 intro ap s Z H D I h
 exact wpAny_Expr_any (thn (c ap s Z H _ I h) λv s1 ⟨x,H1,d,r1,a⟩=>⟨Z,H1,d,a⟩) I.quiet b
def aXX(te:TE):TS:=λD Z H=>te Z H D.rt
theorem iF(b:PE X e te):PS X (.Return (some e) pos) (aXX te):=by
 intro ap s Z H D I h
 exact wpAny_Return_some (thn (b ap s Z H _ I h) λv s1 ⟨x,H1,c,r1,a⟩=>⟨x,Z,H1,c,r1,a⟩)
def aXY(c:TT)(t u:TS):TS:=λD Z H=>c Z H λb H1=>if b=true then t D Z H1 else u D Z H1
theorem lS{a b:L9 Stmt}{tc:TT}(i:PT X c tc)(j:PSs X a t)(hb:PSs X b u):PS X (.If c a b pos) (aXY tc t u):=by
 intro ap s Z H D I h
 refine wpAny_If (thn (i ap s Z H _ I h) λd s1 e=>?_)
 obtain⟨H1,g,f⟩:=e
 cases d with
 | true=>exact j ap s1 Z H1 D g f
 | false=>exact hb ap s1 Z H1 D g f
end
abbrev TG:=V->St->Hp->(St->Hp->Prop)->Prop
abbrev TGs:=L9 V->St->Hp->(St->Hp->Prop)->Prop
def PG(X:Cx)(target:E2)(t:TG):Prop:=
 ∀ (ap:L9 (Az×Obj)) (s:S9) (Z:St) (H:Hp) (v:V) (u:V9) (Q:St->Hp->Prop),Inv X ap Z H s->aR v u->t v Z H Q->
  wpAny (model X.prog X.w) X.A (assign target X.env u) (λ_ s'=>∃ Z' H',Inv X ap Z' H' s'/\Q Z' H') X.xe s
def PGs(X:Cx)(ts:L9 E2)(t:TGs):Prop:=
 ∀ (ap:L9 (Az×Obj)) (s:S9) (Z:St) (H:Hp) (vs:L9 V) (us:L9 V9) (Q:St->Hp->Prop),Inv X ap Z H s->aZ vs us->t vs Z H Q->
  wpAny (model X.prog X.w) X.A (assignInOrder ((assignEach ts X.env).map (·.2)) us) (λ_ s'=>∃ Z' H',Inv X ap Z' H' s'/\Q Z' H') X.xe s
abbrev aFX:=V->V->V->Hp->(Hp->Prop)->Prop
def aSP(X:Cx)(t:aFX):Prop:=
 ∀ (ap:L9 (Az×Obj)) (s:S9) (Z:St) (H:Hp) (o i v:V) (ov iv u:V9) (Q:Hp->Prop),Inv X ap Z H s->aR o ov->aR i iv->aR v u->t o i v H Q->
  wpAny (model X.prog X.w) X.A (setItem ov iv u) (λ_ s'=>∃ H',Inv X ap Z H' s'/\Q H') X.xe s
section
variable{X:Cx}{pos:Pos}
def i6(i:Nat):TG:=λv Z H Q=>Q (Z.set i (some v)) H
theorem aOT(hN:X.N.Nodup)(hi:X.N[i]? = some x)(hx:Loc X.env.scope x)(b:X.fn x=true\/X.env.scope.names.lookup x=some .local:=by first|exact .inl rfl|exact .inr rfl):PG X (.Name x pos) (i6 i):=by
 intro ap s Z H v u Q I r h
 exact wpAny_assign_Name (uN I hN hi hx r (λs' a=>⟨_,H,a,h⟩) b)
def aK8:TGs:=λvs Z H Q=>vs=[]/\Q Z H
def aNW(t:TG)(u:TGs):TGs:=λvs Z H Q=>∃ v r,vs=v::r/\t v Z H λZ' H'=>u r Z' H' Q
theorem aOU:PGs X [] aK8:=by
 intro ap s Z H vs us Q I r h
 obtain⟨e,h⟩:=h
 subst e
 cases r
 exact assignInOrder_nil ⟨Z,H,I,h⟩
theorem aK9{t:TG}{u:TGs}(h1:PG X e t)(h2:PGs X es u)
  (d:(assignEach (e::es) X.env).map (·.2)=assign e X.env::(assignEach es X.env).map (·.2):=by rfl):PGs X (e::es) (aNW t u):=by
 intro ap s Z H vs us Q I r h
 obtain⟨v,g,e1,h⟩:=h
 subst e1
 cases r with
 | cons r rr=>
  rw[d]
  refine assignInOrder_cons (thn (h1 ap s Z H _ _ _ I r h) λ_ s1 a=>?_)
  obtain⟨c,H1,f,b⟩:=a
  exact h2 ap s1 c H1 _ _ Q f rr b
def aSQ(K:Frag)(n:Nat)(t:TGs):TG:=λv Z H Q=>∃ a xs,v=.ref a/\SqT K H a xs/\xs.length=n/\t xs Z H Q
theorem aSR{t:TGs}(l:X.calm=true)(h:PGs X es t)
  (p:(assignEach es X.env).length=n:=by rfl) (hst:(assignEach es X.env).findIdx? (·.1)=none:=by rfl):PG X (.Tuple es k pos) (aSQ X.K n t):=by
 intro ap s Z H v u Q I r c
 obtain⟨a,xs,e1,g,f,c⟩:=c
 subst e1
 cases r
 obtain⟨m,d,i,w⟩:=I.tuple g
 refine assign_Tuple_tuple (I.ok.hd l) i (by simp[p,<-f,d.length]) hst λh' j=>?_
 have q:Inv X ap Z H {s with heap:=h'}:=I.kept (t':=s.toks) λb o e=>j b o (A3 (AS e)) e
 exact h ap _ Z H xs _ Q q (by simpa using d) c
def aSS(to ti:TE)(t:aFX):TG:=λv Z H Q=>to Z H λo H1=>ti Z H1 λi H2=>t o i v H2 λH3=>Q Z H3
theorem aST{o i:E2}{to b:TE}{t:aFX}(j:PE X o to)(hi:PE X i b)(f:aSP X t)
  (e:∀ v,assign (.Subscript o i pos) X.env v=(do
   let ov <-holding [v] (eval o X.env)
   let iv <-holding [v,ov] (eval i X.env)
   standAt pos
   holding [v,ov,iv] (setItem ov iv v)
   release [v,ov,iv] []):=by intro _;rfl):PG X (.Subscript o i pos) (aSS to b t):=by
 intro ap s Z H v u Q I r h
 rw[e]
 refine AA (CJ (thn (j ap s Z H _ I h) λov s1 a=>?_))
 obtain⟨x,H1,m,r1,c⟩:=a
 refine AA (CJ (thn (hi ap s1 Z H1 _ m c) λiv n a=>?_))
 obtain⟨y,H2,d,r2,l⟩:=a
 refine AA (GU (AA (CJ (thn (f ap n Z H2 x y v ov iv u _ d r1 r2 r l) λ_ p a=>?_))))
 obtain⟨H3,k,g⟩:=a
 exact wpAny_release ⟨Z,H3,k,g⟩
def kD(te:TE)(g:TG):TS:=λD Z H=>te Z H λx H1=>g x Z H1 D.nx
theorem aA1{te:TE}{g:TG}(c:PE X e te)(d:PG X tg g)(f:swapsWithSole [tg] e pos.line X.env=pure false:=by rfl)(hw:swappedStores [tg] e X.env=pure none:=by rfl)
  (h1:(assignEach [tg] X.env).map (·.2)=[assign tg X.env]:=by rfl):PS X (.Assign [tg] e pos) (kD te g):=by
 intro ap s Z H D I h
 refine wpAny_Assign_stores (thn (c ap s Z H _ I h) λv s1 a=>?_) f hw
 obtain⟨x,H1,i,r1,b⟩:=a
 rw[h1]
 exact thn (d ap s1 Z H1 x v _ i r1 b) λ_ j q=>q
theorem cP{i:Nat}{te:TE}{a:Pos}(hN:X.N.Nodup)(hi:X.N[i]? = some x)(hx:Loc X.env.scope x)(f:PE X e te)(g:swapsWith e (some (.Name x a)) pos.line X.env=pure false:=by rfl)(hf:X.fn x=true\/X.env.scope.names.lookup x=some .local:=by exact .inl rfl) :
  PS X (.Assign [.Name x a] e pos) (kD te (i6 i)):=by
 intro ap s Z H D I h
 refine wpAny_Assign_Name (thn (f ap s Z H _ I h) λv s1 b=>?_) g
 obtain⟨y,H1,j,r1,c⟩:=b
 exact uN j hN hi hx r1 (λk d=>⟨_,H1,d,c⟩) hf
end
section
variable{X:Cx}{pos:Pos}
def aHS(c:TT)(tb:TS):TS:=λD Z H=>∃ W:Nat->St->Hp->Prop,(∃ m,W m Z H)/\∀ m Z H,W m Z H->
 c Z H λb H1=>if b=true then ∃ N:St->Hp->Prop,(∀ Z' H',N Z' H'->∃ m',m' < m/\W m' Z' H')/\tb {D with nx:=N,ct:=N,bk:=D.nx} Z H1 else D.nx Z H1
theorem mE{tc:TT}{tb:TS}(q:PassesOwn (model X.prog X.w) X.A X.env X.xe)(x:PT X c tc)(hb:PSs X body tb):PS X (.While c body [] pos) (aHS tc tb):=by
 intro ap s Z H D I h
 obtain⟨W,⟨u,t⟩,d⟩:=h
 refine wpAny_While (codeAny_whileLoop (λn s'=>∃ Z' H',Inv X ap Z' H' s'/\W n Z' H') ?_ u ⟨Z,H,I,t⟩)
 rintro n s1 ⟨Z1,H1,I1,w1⟩
 refine DP q (thn (x ap s1 Z1 H1 _ I1 (d n Z1 H1 w1)) λb y o=>?_)
 obtain⟨H2,p,g⟩:=o
 cases b with
 | true=>
  obtain⟨N,r,g⟩:=g
  rw[AN rfl]
  refine DP q (thn (hb ap y Z1 H2 _ p g) λf z e=>?_)
  cases f with
  | next=>
   obtain⟨a,H3,j,m⟩:=e
   obtain⟨i,k,l⟩:=r a H3 m
   exact⟨i,k,a,H3,j,l⟩
  | cont=>
   obtain⟨a,H3,j,m⟩:=e
   obtain⟨i,k,l⟩:=r a H3 m
   exact⟨i,k,a,H3,j,l⟩
  | brk=>exact e
  | ret v=>exact e
 | false=>
  rw[AL BR]
  exact FS ⟨Z1,H2,p,g⟩
end
structure It where
 go:Nat->Hp->Prop
 yld:Nat->Hp->V->Hp->Prop
 stop:Nat->Hp->Prop
def gI(X:Cx)(ap:L9 (Az×Obj))(H:Hp)(b:Az):Prop:=
 H b=none/\b≠X.env.locals/\b∉X.fs/\(b∈X.ex\/X.s₀.heap.objs.size<=b)/\(∀ x c,X.env.cells.lookup x=some c->c≠b)/\∀ p∈X.pn++ap,p.1≠b
theorem Inv.fpOk{X:Cx}{H':Hp}(I:Inv X ap Z H s)(hb:s.heap.objs.size<=b)(d:H' b=none):gI X ap H' b:=by
 refine⟨d,BY (A0 I.lt hb),I.nofs hb,.inr (A2 I.sz hb),λx c e z=>?_,λp a z=>?_⟩
 .obtain ⟨v,q⟩:=I.cell x c e
  exact absurd (A0 q.lt (by rw[z];exact hb)) (BW _)
 .exact absurd (A0 (AS (I.pin p a).1) (by rw[z];exact hb)) (BW _)
structure Turn(P:Program)(w:World)(K:Frag)(tg:Expr)(J:It)(fp:List Az)(it:Az)(tn:Nat->Heap->Prop):Prop where
 mem:it∈fp
 obj:∀ i h,tn i h->∀ b∈fp,∃ o,h.get? b=some o/\∀ v,o.data≠.cell v
 keep:∀ i h h',tn i h->(∀ b∈fp,∀ o,h.get? b=some o->h'.get? b=some o)->tn i h'
 item:∀ (X:Cx),X.prog=P->X.w=w->X.K=K->X.calm=true->∀ (i:Nat) (ap:List (Az×Obj)) (s:S9) (Z:St) (H:Hp) (E:V9->S9->Prop),Inv X ap Z H s->(∀ b∈fp,gI X ap H b)->tn i s.heap->J.go i H->
  wpAny (model P w) X.A (pyNext (.ref it)) (λr s1=>∃ u,r=some u /\
   wpAny (model P w) X.A (letOwnedTupleGo tg (.ref it) u) (λ_ s2=>∃ x H',Inv X ap Z H' s2/\aR x u/\J.yld i H x H'/\tn (i+1) s2.heap/\∀ b∈fp,H' b=none) E s1) E s
 done:∀ (X:Cx),X.prog=P->X.w=w->X.K=K->X.calm=true->∀ (i:Nat) (ap:List (Az×Obj)) (s:S9) (Z:St) (H:Hp) (E:V9->S9->Prop),Inv X ap Z H s->(∀ b∈fp,gI X ap H b)->tn i s.heap->J.stop i H->
  wpAny (model P w) X.A (pyNext (.ref it)) (λr s1=>r=none/\Inv X ap Z H s1) E s
 self:∀ (A:Around) (i:Nat) (s:S9) (Q:V9->S9->Prop) (E:V9->S9->Prop),tn i s.heap->Q (.ref it) s->wpAny (model P w) A (pyIter (.ref it)) Q E s
abbrev TI:=St->Hp->(It->Hp->Prop)->Prop
def PIE(X:Cx)(ap:L9 (Az×Obj))(Z:St)(tg:E2)(R:It->Hp->Prop)(itv:V9)(s2:S9):Prop:=
 ∃ (it:Az) (fp:L9 Az) (tn:Nat->Hz->Prop) (J:It) (H':Hp),itv=.ref it/\Inv X ap Z H' s2/\Turn X.prog X.w X.K tg J fp it tn/\tn 0 s2.heap/\(∀ b∈fp,gI X ap H' b)/\R J H'
def PI(X:Cx)(tg iter:E2)(wi:TI):Prop:=
 ∀ (ap:L9 (Az×Obj)) (s:S9) (Z:St) (H:Hp) (R:It->Hp->Prop),Inv X ap Z H s->wi Z H R->
  wpAny (model X.prog X.w) X.A (eval iter X.env) (λv s1=>wpAny (model X.prog X.w) X.A (pyIter v) (PIE X ap Z tg R) X.xe s1) X.xe s
theorem v5  {A : U9} {E : V9 -> S9 -> Prop} {s : S9}     {n : String}  {Q : Unit -> S9 -> Prop} (e : s.heap.get? it = some o) (c : o.cls = .type n) (d : o.data = .fields vs)
    (b : ["enumerate", "zip", "dict_itemiterator", "dict_reverseitemiterator", "odict_iterator", "itertools.zip_longest", "itertools.pairwise"].contains n = false) (a : Q () s) : wpAny M A (letOwnedTupleGo tg (.ref it) u) Q E s := by
  unfold letOwnedTupleGo
  cases tg <;> first
    | exact AE a
    | (cases u <;> first
        | exact AE a
        | (refine AA (wpAny_load e ?_)
           rw [c, d]
           show wpAny M A (if (["enumerate", "zip", "dict_itemiterator", "dict_reverseitemiterator", "odict_iterator", "itertools.zip_longest", "itertools.pairwise"].contains n && vs[0]? == some (rawInt _)) = true then _ else _) Q E s
           rw [AL (by intro h; rw [b, Bool.false_and]at h; cases h)]
           exact AE a))
def Itl(K:Frag)(a:Az):It:=
 ⟨λi H=>∃ xs x,SqL K H a xs/\xs[i]? = some x,λi H x H'=>H'=H/\∀ xs,SqL K H a xs->xs[i]? = some x,λi H=>∃ xs,SqL K H a xs/\xs.length<=i⟩
def Itt(K:Frag)(a:Az):It:=
 ⟨λi H=>∃ xs x,SqT K H a xs/\xs[i]? = some x,λi H x H'=>H'=H/\∀ xs,SqT K H a xs->xs[i]? = some x,λi H=>∃ xs,SqT K H a xs/\xs.length<=i⟩
noncomputable def Itr(lo:Int)(n:Nat):It:=⟨λi _=>i < n,λi H x H'=>H'=H/\x=.int (lo+i),λi _=>n<=i⟩
theorem aHT{w:W9}(a it:Az):Turn P w K tg (Itl K a) [it] it (λi h=>h.IsListIter it a i) where
 mem:=by simp
 obj:=λi h st b f=>by
  have e:b=it:=by simpa using f
  subst e
  obtain⟨o,e,c,d⟩:=st
  exact⟨o,e,λv z=>by rw[d]at z;cases z⟩
 keep:=λi h h' st k=>st.at λo e=>k it (by simp) o e
 item:=by
  intro X m D q G i ap s Z H E I j st C
  subst m D q
  obtain⟨xs,x,l,A⟩:=C
  obtain⟨r,F,p,M⟩:=I.list l
  obtain⟨u,J,N⟩:=F.get A
  obtain⟨t,f1,f2,n,B,y⟩:=j it (by simp)
  refine wpAny_pyNext_list_item st p.isList (x:=u) (by simpa using J) λh' g Q=>?_
  have R:Inv X ap Z H {s with heap:=h'}:=I.turned (t':=s.toks) (λb o f e=>(Q.2 b f).trans e) t f1 n B y
  obtain⟨o,e,c,d⟩:=id g
  exact⟨u,rfl,v5 (s:={s with heap:=h'}) e c d (by decide) ⟨x,H,R,N,⟨rfl,λys L=>by rw[I.list_inj L l];exact A⟩,g,λb f=>(j b f).1⟩⟩
 done:=by
  intro X m D q G i ap s Z H E I j st C
  subst m D q
  obtain⟨xs,l,A⟩:=C
  obtain⟨r,F,p,M⟩:=I.list l
  obtain⟨t,f1,f2,n,B,y⟩:=j it (by simp)
  have S:=F.length
  exact wpAny_pyNext_list_end (I.ok.hd G) st p.isList (by simp;ext) λh' O=>⟨rfl,I.turned (t':=s.toks) (λb o f e=>O b o f e) t f1 n B y⟩
 self:=λ_ _ _ _ _ st h=>wpAny_pyIter_listiter st h
theorem aFY{w:W9}(a it:Az):Turn P w K tg (Itt K a) [it] it (λi h=>h.IsTupleIter it a i) where
 mem:=by simp
 obj:=λi h st b f=>by
  have e:b=it:=by simpa using f
  subst e
  obtain⟨o,e,c,d⟩:=st
  exact⟨o,e,λv z=>by rw[d]at z;cases z⟩
 keep:=λi h h' st k=>st.at λo e=>k it (by simp) o e
 item:=by
  intro X n D r G i ap s Z H E I l st C
  subst n D r
  obtain⟨xs,x,m,A⟩:=C
  obtain⟨g,F,p,M⟩:=I.tuple m
  obtain⟨u,J,N⟩:=F.get A
  obtain⟨t,f1,f2,q,B,y⟩:=l it (by simp)
  refine wpAny_pyNext_tuple_item st (show s.heap.IsTuple a g.toArray from p) (x:=u) (by simpa using J) λh' j Q=>?_
  have R:Inv X ap Z H {s with heap:=h'}:=I.turned (t':=s.toks) (λb o f e=>(Q.2 b f).trans e) t f1 q B y
  obtain⟨o,e,c,d⟩:=id j
  exact⟨u,rfl,v5 (s:={s with heap:=h'}) e c d (by decide) ⟨x,H,R,N,⟨rfl,λys L=>by rw[I.tuple_inj L m];exact A⟩,j,λb f=>(l b f).1⟩⟩
 done:=by
  intro X n D r G i ap s Z H E I l st C
  subst n D r
  obtain⟨xs,m,A⟩:=C
  obtain⟨g,F,p,M⟩:=I.tuple m
  obtain⟨t,f1,f2,q,B,y⟩:=l it (by simp)
  have S:=F.length
  exact wpAny_pyNext_tuple_end (I.ok.hd G) st (show s.heap.IsTuple a g.toArray from p) (by simp;ext) λh' O=>⟨rfl,I.turned (t':=s.toks) (λb o f e=>O b o f e) t f1 q B y⟩
 self:=λ_ _ _ _ _ st h=>wpAny_pyIter_tupleiter st h
theorem aFZ{w:W9}(it:Az)(lo:Int)(n:Nat):Turn P w K tg (Itr lo n) [it] it (λi h=>IsRangeIter h it (lo+(i:Nat) * 1) ((n:Int) - (i:Nat)) 1) where
 mem:=by simp
 obj:=λi h st b a=>by
  have e:b=it:=by simpa using a
  subst e
  exact⟨_,st,λv z=>by
   have B:Data.fields _=Data.cell v:=z
   cases B⟩
 keep:=λi h h' st k=>k it (by simp) _ st
 item:=by
  intro X f q g r i ap s Z H E I d st p
  subst f q g
  obtain⟨j,f1,f2,u,m,l⟩:=d it (by simp)
  have W:=Walks.range (prog:=X.prog) (w:=X.w) (I.ok.hd r) it lo 1 n
  refine W.item i s _ _ p st λv h' x y c A=>?_
  obtain⟨t,rfl⟩:=y
  have C:Inv X ap Z H {s with heap:=h',toks:=x}:=I.turned (λb o a e=>A b o (by simpa using a) e) j f1 u m l
  refine⟨_,rfl,v5 (s:={s with heap:=h',toks:=x}) (n:="range_iterator") c rfl rfl (by decide) ⟨.int (lo+i),H,C,⟨t,?_⟩,⟨rfl,rfl⟩,c,λb a=>(d b a).1⟩⟩
  rw[Int.mul_one]
 done:=by
  intro X f q g r i ap s Z H E I d st p
  subst f q g
  obtain⟨j,f1,f2,u,m,l⟩:=d it (by simp)
  exact wpAny_pyNext_range_end (I.ok.hd r) st (by have:n<=i:=p;ext) λh' D=>⟨rfl,I.turned (t':=s.toks) (λb o a e=>D b o a e) j f1 u m l⟩
 self:=λ_ _ _ _ _ st h=>wpAny_pyIter_rangeiter st h
section
variable{X:Cx}{tg:E2}
theorem aLA{R:It->Hp->Prop}{lo hi:Int}{t u v:Tok}{c:Nat}(I:Inv X ap Z H s)(h1 : -(2 ^ 62)<=lo)(h2:lo < 2 ^ 62)(g : -(2 ^ 62)<=hi)(f:hi < 2 ^ 62)
  (q:R (Itr lo (hi - lo).toNat) H):wpAny (model X.prog X.w) X.A (pyIter (.ref s.heap.objs.size)) (PIE X ap Z tg R) E {s with heap:=s.heap.push {cls:=.type "range",data:=.fields #[.int lo t,.int hi u,.int 1 v]},toks:=c}:=by
 refine wpAny_pyIter_range (IsRange.new ..) (small_one h1 h2 g f) ?_
 have a:Inv X ap Z H {s with heap:=s.heap.push {cls:=.type "range",data:=.fields #[.int lo t,.int hi u,.int 1 v]},toks:=c}:=I.kept λb o e=>AD _ e
 refine⟨(s.heap.push {cls:=.type "range",data:=.fields #[.int lo t,.int hi u,.int 1 v]}).objs.size,[(s.heap.push {cls:=.type "range",data:=.fields #[.int lo t,.int hi u,.int 1 v]}).objs.size],_,_,H,rfl,
  a.kept (t':=c) λb o e=>AD _ e,aFZ _ lo (hi - lo).toNat,?_,λb d=>?_,q⟩
 .have e1:lo+((0:Nat):Int) * 1=lo:=by simp
  have e2:(((hi - lo).toNat:Nat):Int) - ((0:Nat):Int)=Builtin.Range.rangeSize lo hi 1:=by rw[rangeSize_one];split<;>ext
  show IsRangeIter _ _ (lo+((0:Nat):Int) * 1) ((((hi - lo).toNat:Nat):Int) - ((0:Nat):Int)) 1
  rw[e1,e2]
  exact AV _ rfl
 .have e:b=(s.heap.push {cls:=.type "range",data:=.fields #[.int lo t,.int hi u,.int 1 v]}).objs.size:=by simpa using d
  subst e
  exact a.fpOk (AK _) (a.hok.fresh (AK _))
def aNX(ta:TA):TI:=λZ H R=>ta Z H λvs H1=>∃ j:Int,vs=[.int j] /\ -(2 ^ 62)<=j/\j < 2 ^ 62/\R (Itr 0 j.toNat) H1
theorem aHU{a:E2}{ta:TA}{p pos:Pos}(f:Gl X "range")(d:X.mg "range"=none)(i:PA X [a] ta)(k:starEach [a] X.env=[(false,eval a X.env)]:=by rfl):PI X tg (.Call (.Name "range" p) [a] [] pos) (aNX ta):=by
 intro ap s Z H R I h
 refine Call_ (jU I f d boot_range (B3 (thn (i pos ap s Z H _ I h) λus s1 c=>?_) k rfl))
 obtain⟨vs,H1,l,r1,b⟩:=c
 obtain⟨j,e,b,g,q⟩:=b
 subst e
 cases r1 with
 | cons r rr=>
  cases rr
  obtain⟨t,rfl⟩:=r
  exact call_range_1 (aLA l (by ext) (by ext) b g (by simpa using q))
def aSU(wi:TI)(g:TG)(tb:TS):TS:=λD Z H=>wi Z H λJ H1=>∃ W:Nat->Nat->St->Hp->Prop,(∃ m,W 0 m Z H1)/\∀ i m Z H,W i m Z H->
 (J.stop i H/\D.nx Z H)\/(J.go i H/\∃ N:St->Hp->Prop,(∀ Z' H',N Z' H'->∃ m',m' < m/\W (i+1) m' Z' H')/\∀ x H',J.yld i H x H'->g x Z H' λZ2 H2=>tb {D with nx:=N,ct:=N,bk:=D.nx} Z2 H2)
noncomputable def qJ(fp:L9 Az)(h:Hz):L9 (Az×Obj):=fp.filterMap λb=>(h.get? b).map λo=>(b,o)
theorem jV{h:Hz}(hb:b∈fp)(e:h.get? b=some o):(b,o)∈qJ fp h:=DN.mpr ⟨b,hb,by rw[e];rfl⟩
theorem aHV{h:Hz}{p:Az×Obj}(a:p∈qJ fp h):p.1∈fp/\h.get? p.1=some p.2:=by
 obtain⟨b,c,e⟩:=DN.mp a
 cases q:h.get? b with
 | none=>rw[q]at e;cases e
 | some o=>
  rw[q]at e
  have d:(b,o)=p:=BL e
  subst d
  exact⟨c,q⟩
theorem Inv.pinned{fp:L9 Az}(I:Inv X ap Z H s)(f:∀ b∈fp,gI X ap H b)(i:∀ b∈fp,∃ o,s.heap.get? b=some o/\∀ v,o.data≠.cell v):Inv X (ap++qJ fp s.heap) Z H s:=
 I.pins_of λp g=>(BD.mp g).elim (λz=>I.pin p (BI _ z)) λz=>by
  obtain⟨c,e⟩:=aHV z
  obtain⟨h,f1,f2,_⟩:=f p.1 c
  obtain⟨o,a,d⟩:=i p.1 c
  rw[e]at a;cases a
  exact⟨e,h,f1,f2,d⟩
theorem Inv.unpinned{pl:L9 (Az×Obj)}(I:Inv X (ap++pl) Z H s):Inv X ap Z H s:=I.pins_of λp a=>I.pin p (BI _ (CN _ a))
theorem cY{j:E2}{O:TI}{g:TG}{tb:TS}{pos:Pos}(C:PassesOwn (model X.prog X.w) X.A X.env X.xe)(M:X.calm=true)(hi:PI X tg j O)(hg:PG X tg g)(hb:PSs X body tb)
  (hs:∀ x,foldedSetIterable j X.env x=pure x:=by intro _;rfl):PS X (.For tg j body [] pos) (aSU O g tb):=by
 intro ap s Z H D I h
 refine wpAny_For (thn (hi ap s Z H _ I h) λv s1 h1=>thn h1 λaa s2 h2=>?_) hs
 obtain⟨it,B,R,J,H2,e,S,T,G,f2,W,⟨V,w0⟩,E⟩:=h2
 subst e
 have l:∀ {H':Hp},(∀ b∈B,H' b=none)->∀ b∈B,gI X ap H' b:=λhn b hb=>⟨hn b hb,(f2 b hb).2⟩
 refine codeAny_forLoop_any (λn s'=>∃ i Z' H',Inv X ap Z' H' s'/\R i s'.heap/\(∀ b∈B,H' b=none)/\W i n Z' H') ?_ V ⟨0,Z,H2,S,G,λb hb=>(f2 b hb).1,w0⟩
 rintro n Q ⟨i,Z3,H3,I3,st3,fr3,w3⟩
 rcases E i n Z3 H3 w3 with ⟨stop,qn⟩|⟨go,N,Y,step⟩
 .refine DP C (thn (T.done X rfl rfl rfl M i ap Q Z3 H3 X.xe I3 (l fr3) st3 stop) λr s4 a=>?_)
  obtain⟨hr,I4⟩:=a
  subst hr
  exact FS ⟨Z3,H3,I4,qn⟩
 .refine DP C (thn (T.item X rfl rfl rfl M i ap Q Z3 H3 X.xe I3 (l fr3) st3 go) λr s4 a=>?_)
  obtain⟨u,hr,h4⟩:=a
  subst hr
  refine DP C (thn h4 λ_ P a=>?_)
  obtain⟨x,H5,I5,r5,y5,y,K⟩:=a
  have L:=I5.pinned (l K) (T.obj _ _ y)
  refine DP C (thn (hg _ P Z3 H5 x u _ L r5 (step x H5 y5)) λ_ s6 a=>?_)
  obtain⟨Z6,H6,I6,q6⟩:=a
  refine DP C (thn (hb _ s6 Z6 H6 _ I6 q6) λf F t=>?_)
  have q:∀ {p:St} {k:Hp},Inv X (ap++qJ B P.heap) p k F->N p k->∃ m,m < n/\∃ i Z' H',Inv X ap Z' H' F/\R i F.heap/\(∀ b∈B,H' b=none)/\W i m Z' H':=λ{p k} c z=>by
   obtain⟨U,hm,w7⟩:=Y p k z
   refine⟨U,hm,i+1,p,k,c.unpinned,T.keep _ _ _ y λb hb o e=>(c.pin (b,o) (BI _ (BI _ (jV hb e)))).1,λb hb=>?_,w7⟩
   obtain⟨o,e,d⟩:=T.obj _ _ y b hb
   exact(c.pin (b,o) (BI _ (BI _ (jV hb e)))).2.1
  cases f with
  | next=>obtain⟨p,k,c,z⟩:=t;exact q c z
  | cont=>obtain⟨p,k,c,z⟩:=t;exact q c z
  | brk=>obtain⟨p,k,c,t⟩:=t;exact⟨p,k,c.unpinned,t⟩
  | ret v=>obtain⟨x7,p,k,c,r7,t⟩:=t;exact⟨x7,p,k,c.unpinned,r7,t⟩
end
abbrev R2:=V->V->Hp->VK->Prop
def OpR(X:Cx)(f:V9->V9->Sem V9)(r:R2):Prop:=
 ∀ (ap:L9 (Az×Obj)) (s:S9) (Z:St) (H:Hp) (x y:V) (v u:V9) (Q:VK),Inv X ap Z H s->aR x v->aR y u->r x y H Q->
  wpAny (model X.prog X.w) X.A (f v u) (EP X ap Z Q) X.xe s
def UnR(X:Cx)(f:V9->Sem V9)(r:V->Hp->VK->Prop):Prop:=
 ∀ (ap:L9 (Az×Obj)) (s:S9) (Z:St) (H:Hp) (x:V) (v:V9) (Q:VK),Inv X ap Z H s->aR x v->r x H Q->
  wpAny (model X.prog X.w) X.A (f v) (EP X ap Z Q) X.xe s
def jW(X:Cx)(f:V9)(r:L9 V->Hp->VK->Prop):Prop:=
 ∀ (ap:L9 (Az×Obj)) (s:S9) (Z:St) (H:Hp) (xs:L9 V) (us:L9 V9) (Q:VK),Inv X ap Z H s->aZ xs us->r xs H Q->
  wpAny (model X.prog X.w) X.A (call f us) (EP X ap Z Q) X.xe s
def tOp(r:R2)(ta tb:TE):TE:=λZ H Q=>ta Z H λx H1=>tb Z H1 λy H2=>r x y H2 Q
def tUn(r:V->Hp->VK->Prop)(ta:TE):TE:=λZ H Q=>ta Z H λx H1=>r x H1 Q
def rI(C:Int->Int->Prop)(g:Int->Int->V):R2:=λx y H Q=>∃ i j,x=.int i/\y=.int j/\C i j/\Q (g i j) H
def rI0(g:Int->Int->V):R2:=λx y H Q=>∃ i j,x=.int i/\y=.int j/\Q (g i j) H
def rU(g:Int->V):V->Hp->VK->Prop:=λx H Q=>∃ i,x=.int i/\Q (g i) H
section
variable{X:Cx}{a b c:E2}{ta tb tc:TE}{pos:Pos}
theorem aLB(j:PE X a ta)(hb:PE X b tb){R:V->V->Hp->Prop}(I:Inv X ap Z H s)
  (h:ta Z H λx H1=>tb Z H1 λy H2=>R x y H2)  {f:V9->V9->Sem V9}
  (g:∀ v u s2 x y H2,Inv X ap Z H2 s2->aR x v->aR y u->R x y H2->wpAny (model X.prog X.w) X.A (f v u) Q X.xe s2) :
  wpAny (model X.prog X.w) X.A (eval a X.env) (λv s₁=>wpAny (model X.prog X.w) X.A (eval b X.env) (λu s₂=>wpAny (model X.prog X.w) X.A (f v u) Q X.xe s₂) X.xe s₁) X.xe s:=by
 refine thn (j ap s Z H _ I h) λv s1 c=>?_
 obtain⟨x,H1,k,r1,d⟩:=c
 refine thn (hb ap s1 Z H1 _ k d) λu s2 c=>?_
 obtain⟨y,H2,e,r2,i⟩:=c
 exact g v u s2 x y H2 e r1 r2 i
theorem aF0{op:Operator}(g:OpR X (binaryOp op) r)(f:PE X a ta)(hb:PE X b tb):PE X (.BinOp a op b pos) (tOp r ta tb):=by
 intro ap s Z H Q I h
 exact wpAny_BinOp (aLB f hb I h λv u i x y H2 d c e q=>g ap i Z H2 x y v u Q d c e q)
theorem aV4{op:UnaryOp}{r:V->Hp->VK->Prop}(e:UnR X (unaryOp op) r)(c:PE X a ta):PE X (.UnaryOp op a pos) (tUn r ta):=by
 intro ap s Z H Q I h
 exact UnaryOp_ (thn (c ap s Z H _ I h) λv s1 ⟨x,H1,d,r1,b⟩=>e ap s1 Z H1 x v Q d r1 b)
theorem opI{f:V9->V9->Sem V9}
  (a:∀ (i j:Int) (t u:Tok) (s:S9) (Q:V9->S9->Prop) (E:V9->S9->Prop),C i j->Q (.int (g i j) s.toks) {s with toks:=s.toks+1}->wpAny (model X.prog X.w) X.A (f (.int i t) (.int j u)) Q E s) :
  OpR X f (rI C λi j=>.int (g i j)):=by
 intro ap s Z H x y v u Q I b d h
 obtain⟨i,j,rfl,rfl,e,q⟩:=h
 obtain⟨t,rfl⟩:=b
 obtain⟨c,rfl⟩:=d
 exact a i j t c s _ _ e ⟨.int (g i j),H,I.tok _,⟨_,rfl⟩,q⟩
theorem aSV{f:V9->V9->Sem V9}
  (a:∀ (i j:Int) (t u:Tok) (s:S9) (Q:V9->S9->Prop) (E:V9->S9->Prop),Q (.int (g i j) s.toks) {s with toks:=s.toks+1}->wpAny (model X.prog X.w) X.A (f (.int i t) (.int j u)) Q E s) :
  OpR X f (rI0 λi j=>.int (g i j)):=by
 intro ap s Z H x y v u Q I b d h
 obtain⟨i,j,rfl,rfl,q⟩:=h
 obtain⟨t,rfl⟩:=b
 obtain⟨c,rfl⟩:=d
 exact a i j t c s _ _ ⟨.int (g i j),H,I.tok _,⟨_,rfl⟩,q⟩
theorem aF1{f:V9->V9->Sem V9}{g:Int->Int->Bool}
  (a:∀ (i j:Int) (t u:Tok) (s:S9) (Q:V9->S9->Prop) (E:V9->S9->Prop),Q (.bool (g i j)) s->wpAny (model X.prog X.w) X.A (f (.int i t) (.int j u)) Q E s) :
  OpR X f (rI0 λi j=>.bl (g i j)):=by
 intro ap s Z H x y v u Q I b d h
 obtain⟨i,j,rfl,rfl,q⟩:=h
 obtain⟨t,rfl⟩:=b
 obtain⟨c,rfl⟩:=d
 exact a i j t c s _ _ ⟨.bl (g i j),H,I,rfl,q⟩
def aLC(i j:Int):Prop:=(-(2 ^ 64) < i/\i < 2 ^ 64)\/(-(2 ^ 64) < j/\j < 2 ^ 64)
theorem aLC.ok{i j:Int}(h:aLC i j):IntMulOk i j:=by
 rcases h with ⟨h1,h2⟩|⟨h1,h2⟩
 · exact .of_left (intBits_le_64 h1 h2)
 · exact .of_right (intBits_le_64 h1 h2)
theorem aSW:OpR X (binaryOp .Add) (rI0 λi j=>.int (i+j)):=aSV λ_ _ _ _ _ _ _ q=>add_int q
theorem aSX:OpR X (binaryOp .Sub) (rI0 λi j=>.int (i - j)):=aSV λ_ _ _ _ _ _ _ q=>sub_int q
theorem aSY:OpR X (binaryOp .Mult) (rI aLC λi j=>.int (i * j)):=opI λ_ _ _ _ _ _ _ a q=>mul_int q a.ok
theorem aSZ:OpR X (binaryOp .Mod) (rI (λ_ j=>0 < j) λi j=>.int (i % j)):=opI λi j _ _ _ _ _ a q=>by
 have h1:(0:Int) < j:=a
 exact mod_int' (by ext) (by rw[Int.fmod_eq_emod_of_nonneg i (by ext)];exact q)
theorem unI{f:V9->Sem V9}{g:Int->Int}
  (a:∀ (i:Int) (t:Tok) (s:S9) (Q:V9->S9->Prop) (E:V9->S9->Prop),Q (.int (g i) s.toks) {s with toks:=s.toks+1}->wpAny (model X.prog X.w) X.A (f (.int i t)) Q E s) :
  UnR X f (rU λi=>.int (g i)):=by
 intro ap s Z H x v Q I b h
 obtain⟨i,rfl,q⟩:=h
 obtain⟨t,rfl⟩:=b
 exact a i t s _ _ ⟨.int (g i),H,I.tok _,⟨_,rfl⟩,q⟩
theorem aS0:UnR X (unaryOp .USub) (rU λi=>.int (-i)):=unI λ_ _ _ _ _ q=>neg_int q
end
section
variable{X:Cx}{a b c:E2}{ta tb tc:TE}{pos:Pos}
theorem aA2{Q:VK}{k a:Bool}(I:Inv X ap Z H s)(q:Q (.bl k) H)(e:k=a):EP X ap Z Q (.bool a) s:=by
 subst e
 exact⟨.bl k,H,I,rfl,q⟩
theorem aV5:OpR X (compareOp .Lt) (rI0 λi j=>.bl (decide (i < j))):=aF1 λ_ _ _ _ _ _ _ q=>lt_int q
theorem aV6:OpR X (compareOp .LtE) (rI0 λi j=>.bl (decide (i<=j))):=aF1 λ_ _ _ _ _ _ _ q=>le_int q
theorem aV7:OpR X (compareOp .Gt) (rI0 λi j=>.bl (decide (j < i))):=aF1 λ_ _ _ _ _ _ _ q=>gt_int q
theorem aV8:OpR X (compareOp .GtE) (rI0 λi j=>.bl (decide (j<=i))):=aF1 λ_ _ _ _ _ _ _ q=>ge_int q
theorem aS1:OpR X (compareOp .Is) (λx y H Q=>y=.non/\Q (.bl (decide (x=.non))) H):=by
 intro ap s Z H x y v u Q I a b h
 obtain⟨rfl,q⟩:=h
 cases b
 refine is_none_gen (aA2 I q ?_)
 cases x<;>first
  | (cases a;rfl)
  | (obtain⟨t,rfl⟩:=a;rfl)
theorem aOV:OpR X (compareOp .IsNot) (λx y H Q=>y=.non/\Q (.bl (!decide (x=.non))) H):=by
 intro ap s Z H x y v u Q I a b h
 obtain⟨rfl,q⟩:=h
 cases b
 refine isnot_none_gen (aA2 I q ?_)
 cases x<;>first
  | (cases a;rfl)
  | (obtain⟨t,rfl⟩:=a;rfl)
theorem aA3:OpR X (compareOp .NotIn) (λx y H Q=>∃ i j,x=.str i/\y=.str j/\Q (.bl (!(!(Builtin.Str.occurrences j i 0 j.length 1).isEmpty))) H):=by
 intro ap s Z H x y v u Q I a b h
 obtain⟨i,j,rfl,rfl,q⟩:=h
 obtain⟨t,rfl⟩:=a
 obtain⟨c,rfl⟩:=b
 exact notIn_str (aA2 I q rfl)
theorem fW(b:E2)(h:op≠.In:=by decide)(h2:op≠.NotIn:=by decide):behindInMarks op b=false:=by
 have e1:(op == CmpOp.In)=false:=by cases op<;>first|rfl|exact absurd rfl h
 have e2:(op == CmpOp.NotIn)=false:=by cases op<;>first|rfl|exact absurd rfl h2
 cases b<;>simp[behindInMarks,e1,e2]
theorem xQ(i:OpR X (compareOp op) r)(g:PE X a ta)(hb:PE X b tb)(e:behindInMarks op b=false):PE X (.Compare a [op] [b] pos) (tOp r ta tb):=by
 intro ap s Z H Q I h
 exact wpAny_Compare1 (aLB g hb I h λv u j x y H2 d c f q=>i ap j Z H2 x y v u Q d c f q) e
def aNY(t:TE):TT:=λZ H Q=>t Z H λx H'=>∃ k,x=.bl k/\Q k H'
theorem xR(j:OpR X (compareOp op) r)(g:PE X a ta)(hb:PE X b tb)(m:behindInMarks op b=false):PT X (.Compare a [op] [b] pos) (aNY (tOp r ta tb)):=by
 intro ap s Z H Q I h
 refine wpAny_isTrue_Compare1 (thn (g ap s Z H _ I h) λv s1 ⟨x,H1,p,r1,d⟩=>thn (hb ap s1 Z H1 _ p d) λu q ⟨y,H2,f,r2,o⟩=>
  thn (j ap q Z H2 x y v u _ f r1 r2 o) λc t ⟨z,H3,l,n,k,e,i⟩=>?_) m
 subst e
 cases n
 exact DB ⟨H3,l,i⟩
def tChain(r r':R2)(ta tb tc:TE):TE:=λZ H Q=>ta Z H λx H1=>tb Z H1 λy H2=>r x y H2 λz H3=>∃ k,z=.bl k /\
 (if k=true then tc Z H3 λw' H4=>r' y w' H4 Q else Q (.bl false) H3)
theorem aLD{f:CmpOp}{l:R2}(t:OpR X (compareOp op) r)(g:OpR X (compareOp f) l)(p:PE X a ta)(hb:PE X b tb)(E:PE X c tc)
  (A:lastMarks [op,f] [b,c]=false:=by with_unfolding_all rfl):PE X (.Compare a [op,f] [b,c] pos) (tChain r l ta tb tc):=by
 intro ap s Z H Q I h
 refine Compare_chain (thn (p ap s Z H _ I h) λv s1 ⟨x,H1,G,r1,m⟩=>chain_link (thn (hb ap s1 Z H1 _ G m) λu L ⟨y,H2,n,r2,D⟩=>
  thn (t ap L Z H2 x y v u _ n r1 r2 D) λd J ⟨z,H3,j,C,k,e,i⟩=>?_)) A
 subst e
 cases C
 refine DB ?_
 cases k with
 | false=>exact ite_ff ⟨.bl false,H3,j,rfl,i⟩
 | true=>exact ite_tt (chain_last (thn (E ap J Z H3 _ j i) λq F ⟨o,H4,w,K,B⟩=>g ap F Z H4 y o u q Q w r2 K B))
theorem v6:(sizeLine:Nat) < 2 ^ 63:=by rw[sizeLine_eq];decide
theorem aF2:OpR X (binaryOp .Add) (λx y H Q=>∃ i j,x=.str i/\y=.str j/\i.length+j.length<=sizeLine/\Q (.str (i++j)) H):=by
 intro ap s Z H x y v u Q I a d h
 obtain⟨i,j,rfl,rfl,b,q⟩:=h
 obtain⟨t,rfl⟩:=a
 obtain⟨c,rfl⟩:=d
 exact add_str (λc e=>⟨.str (i++j),H,I.tok _,⟨_,rfl⟩,q⟩) b
theorem kZ{x:V}(r:aZ [x] us):∃ u,us=[u]/\aR x u:=by
 cases r with
 | cons r1 r2=>cases r2;exact⟨_,rfl,r1⟩
theorem aNZ{x y:V}(r:aZ [x,y] us):∃ u w',us=[u,w']/\aR x u/\aR y w':=by
 cases r with
 | cons r1 r2=>
  cases r2 with
  | cons r3 r4=>cases r4;exact⟨_,_,rfl,r1,r3⟩
theorem aHW:jW X (.type "int") (λxs H Q=>(∃ i,xs=[.int i]/\Q (.int i) H)\/∃ k,xs=[.bl k]/\Q (.int (if k then 1 else 0)) H):=by
 intro ap s Z H xs us Q I r h
 rcases h with ⟨i,rfl,q⟩|⟨k,rfl,q⟩
 .obtain ⟨u,rfl,t,rfl⟩:=kZ r
  exact call_int_int ⟨.int i,H,I,⟨_,rfl⟩,q⟩
 .obtain ⟨u,rfl,r1⟩:=kZ r
  cases r1
  exact call_int_bool ⟨.int (if k then 1 else 0),H,I.tok _,⟨_,rfl⟩,q⟩
def aS2(K:Frag)(x:V)(H:Hp)(n:Nat):Prop:=
 match x with
 | .str y=>y.length<=sizeLine/\n=y.length
 | .byt y=>y.size<=sizeLine/\n=y.size
 | .ref p=>(∃ xs,SqL K H p xs/\n=xs.length)\/∃ xs,SqT K H p xs/\n=xs.length
 | _=>False
theorem aLE:jW X (.builtin "len") (λxs H Q=>∃ x n,xs=[x]/\aS2 X.K x H n/\Q (.int n) H):=by
 intro ap s Z H xs us Q I r h
 obtain⟨x,n,rfl,e,q⟩:=h
 obtain⟨u,rfl,d⟩:=kZ r
 have m:=v6
 have l:sizeLine=16777216:=sizeLine_eq
 cases x with
 | str y=>
  obtain⟨t,rfl⟩:=d
  obtain⟨k,b⟩:y.length<=sizeLine/\n=y.length:=e
  subst b
  exact len_str (by ext) ⟨.int _,H,I.tok _,⟨_,rfl⟩,q⟩
 | byt y=>
  obtain⟨t,rfl⟩:=d
  obtain⟨k,b⟩:y.size<=sizeLine/\n=y.size:=e
  subst b
  exact PySem.W.len_bytes (by ext) ⟨.int _,H,I.tok _,⟨_,rfl⟩,q⟩
 | ref p=>
  cases d
  have b:(∃ xs,SqL X.K H p xs/\n=xs.length)\/∃ xs,SqT X.K H p xs/\n=xs.length:=e
  rcases b with ⟨xs,c,b⟩|⟨xs,c,b⟩
  .subst b
   obtain⟨g,f,i,j⟩:=I.list c
   have a:=f.length
   exact Calls.call_len_list i.isList (by simp only[A6];ext) ⟨.int xs.length,H,I.tok _,⟨_,by simp only[A6];rw[a]⟩,q⟩
  .subst b
   obtain⟨g,f,i,j⟩:=I.tuple c
   have a:=f.length
   exact len_tuple i (by simp only[A6];ext) ⟨.int xs.length,H,I.tok _,⟨_,by simp only[A6];rw[a]⟩,q⟩
 | _=>exact(show False from e).elim
end
section
variable{prog:P9}{w:W9}{A:U9}{E:V9->S9->Prop}{s:S9}{K:Frag}{x dx C f:Az}{mA:Str->O9 V9}{name:Str}{v:V9}
end
theorem iE.some_of{v:V}{o:O9 V9}(r:iE (some v) o):∃ u,o=some u/\aR v u:=by
 cases o with
 | none=>exact(show False from r).elim
 | some u=>exact⟨u,rfl,r⟩
theorem iE.none_of{o:O9 V9}(r:iE none o):o=none:=by
 cases o with
 | none=>rfl
 | some u=>exact(show False from r).elim
section
variable{X:Cx}{ap:L9 (Az×Obj)}{Z:St}{H:Hp}{s:S9}{a C dx:Az}{fs:L9 (Str×V)}{f:Str}{v:V}{A:U9}{E:V9->S9->Prop}
end
structure Room(k:Nat)(A:Around):Prop where
 hd:A.handled=none
 dp:A.depth+3 * k+5 < recursionLimit
 un:A.units+16 * k+200 < cLine
theorem Room.mono{A:U9}(r:Room k A)(h:j<=k):Room j A:=⟨r.hd,by have:=r.dp;ext,by have:=r.un;ext⟩
theorem Room.deeper{A:U9}(r:Room (k+1) A)(env:Env):Room k (A.deeper env):=
 ⟨r.hd,by have:=r.dp;show A.depth+1+3 * k+5 < _;ext,by have:=r.un;show A.units+3+16 * k+200 < _;ext⟩
theorem Room.depth{A:U9}(r:Room k A):A.depth < recursionLimit:=by have:=r.dp;ext
theorem Room.units{A:U9}(r:Room k A):A.units+64 < cLine:=by have:=r.un;ext
def eJ:TA:=λ_ H Q=>Q [] H
def b9(ta:TE)(tr:TA):TA:=λZ H Q=>ta Z H λx H1=>tr Z H1 λxs H2=>Q (x::xs) H2
section
variable{X:Cx}{e:E2}{es:L9 E2}{te:TE}{t:TA}{pos:Pos}
theorem bE:PA X [] eJ:=λ_ _ _ _ H Q I h=>Calls.spliced_nil ⟨[],H,I,.nil,h⟩
theorem aX(f:PE X e te)(hr:PA X es t)(g:starEach (e::es) X.env=(false,eval e X.env)::starEach es X.env:=by rfl):PA X (e::es) (b9 te t):=by
 intro pos ap s Z H Q I h
 rw[g]
 show wpAny _ _ (spliced ((false,eval e X.env)::backTo pos (starEach es X.env))) _ _ s
 refine Calls.spliced_cons (thn (f ap s Z H _ I h) λu s1 a=>?_)
 obtain⟨x,H1,i,r1,b⟩:=a
 exact thn (hr pos ap s1 Z H1 _ i b) λus j ⟨xs,H2,c,r2,d⟩=>⟨x::xs,H2,c,.cons r1 r2,d⟩
def aXZ(t:TA):TE:=λZ H Q=>t Z H λxs H1=>xs.length<=sizeLine/\∀ p,H1 p=none->Q (.ref p) (upd H1 p (.tup xs))
def aX0(t:TA):TE:=λZ H Q=>t Z H λxs H1=>xs.length<=sizeLine/\∀ p,H1 p=none->Q (.ref p) (upd H1 p (.lst xs))
theorem aS3{x1}(h:PA X es t):PE X (.Tuple es x1 pos) (aXZ t):=by
 intro ap s Z H Q I c
 refine wpAny_Tuple_spliced (thn (h pos ap s Z H _ I c) λus s1 ⟨xs,H1,a,r,z,q⟩=>⟨by rw[<-r.length];exact z,?_⟩)
 have d:H1 s1.heap.objs.size=none:=a.hok.fresh (AK _)
 refine⟨.ref s1.heap.objs.size,upd H1 s1.heap.objs.size (.tup xs),a.laid (t':=s1.toks) (λb u e=>AD _ e) (AK _) ?_,rfl,q _ d⟩
 exact⟨z,us,r,⟨_,AV _ rfl,⟨rfl,rfl⟩,_,rfl⟩⟩
theorem aS4(h:PA X es t):PE X (.List es pos) (aX0 t):=by
 intro ap s Z H Q I c
 refine wpAny_List_spliced (thn (h pos ap s Z H _ I c) λus s1 ⟨xs,H1,a,r,z,q⟩=>⟨by rw[<-r.length];exact z,?_⟩)
 have d:H1 s1.heap.objs.size=none:=a.hok.fresh (AK _)
 refine⟨.ref s1.heap.objs.size,upd H1 s1.heap.objs.size (.lst xs),a.laid (t':=s1.toks) (λb u e=>AD _ e) (AK _) ?_,rfl,q _ d⟩
 exact⟨z,us,0,r,AV _ rfl⟩
end
abbrev Sp:=L9 V->Hp->VK->XK->Prop
abbrev CXT:=L9 Env->Hp->S9->XK->V9->S9->Prop
structure Env0(P:Program)(w:World)(K:Frag)(mg:Str->Option V9)(base:Heap)(A:Around)(outer:List Env)(s:S9)(H:Hp):Prop where
 frames:A.frames=some outer
 mod:Mod K mg base
 bs:∀ b o,base.get? b=some o->s.heap.get? b=some o/\H b=none
 bsz:base.objs.size<=s.heap.objs.size
 funs:s.heap.FunFrames base outer
 frf:∀ b∈frs outer,H b=none
 hok:HOk P w H s.heap
 bare:AllBare s.gens
def CE(outer:L9 Env)(P:P9)(w:W9)(H:Hp)(s:S9)(Q:VK)(u:V9)(s':S9):Prop:=
 ∃ v H',s'.os=s.os/\AllBare s'.gens/\Un (frs outer) [] H H' s.heap s'.heap/\HOk P w H' s'.heap/\aR v u/\Q v H'
def CR(CX:CXT)(outer:L9 Env)(P:P9)(w:W9)(H:Hp)(s:S9)(Q:VK)(E:XK)(r:Result)(s':S9):Prop:=
 match r with
 | .ok (.ret u)=>CE outer P w H s Q u s'
 | .ok _=>False
 | .error e=>CX outer H s E e s'
structure FnOk(P:Program)(w:World)(K:Frag)(mg:Str->Option V9)(base:Heap)(CX:CXT)(k:Nat)(f:Az)(fd:FuncData)(ps:List Str)(sp:Sp):Prop where
 len:∀ vs H Q E,sp vs H Q E->vs.length=ps.length
 run:∀ (A:Around) (outer:List Env) (s:S9) (H:Hp) (args:Args) (us:List V9) (vs:List V) (Q:VK) (E:XK),Room k A->Env0 P w K mg base A outer s H->BindsTo s fd args (ps.zip us)->aZ vs us->sp vs H Q E->
  codeAny (model P w) A (.call (.ref f) args) (CR CX outer P w H s Q E) s
theorem FnOk.imp{w:W9}{fd:FuncData}{ps:L9 Str}{sp a:Sp}(F:FnOk P w K mg base CX k f fd ps sp)
  (h:∀ vs H Q E,a vs H Q E->sp vs H Q E):FnOk P w K mg base CX k f fd ps a:=
 ⟨λvs H Q E q=>F.len vs H Q E (h _ _ _ _ q),λA outer s H args us vs Q E hr b e c d=>F.run A outer s H args us vs Q E hr b e c (h _ _ _ _ d)⟩
section
variable{X:Cx}{ap:L9 (Az×Obj)}{Z:St}{H:Hp}{s s':S9}
theorem Inv.env0(I:Inv X ap Z H s):Env0 X.prog X.w X.K X.mg X.base X.A X.stack s H:=
 ⟨I.ok.frames,I.ok.mod,I.bs,A2 I.ok.bsz I.sz,I.stack,I.stkFree,I.hok,I.bare⟩
theorem Inv.after{Q:VK}(I:Inv X ap Z H s)(h:CE X.stack X.prog X.w H s Q u s'):EP X ap Z Q u s':=by
 obtain⟨v,H',os,a,un,c,r,q⟩:=h
 obtain⟨f,g,d,t,e⟩:=s'
 obtain rfl:e=s.os:=os
 exact⟨v,H',I.call (h':=f) (g':=g) (d':=d) (t':=t) (ch:=[]) un c a (λb z=>absurd z (by simp)),r,q⟩
end
def aF3(sp:Sp)(dvs:L9 V)(E:XK)(t:TA):TE:=λZ H Q=>t Z H λvs H1=>sp (vs++dvs) H1 Q E
def jX(K:Frag)(fd:FuncData)(ps:L9 Str)(ds:L9 V9):Prop:=
 ∀ (s:S9) (us:L9 V9),K.In s.heap->(us++ds).length=ps.length->BindsTo s fd ⟨us,[]⟩ (ps.zip (us++ds))
theorem jX.all{fd:FuncData}{ps:L9 Str}(h:∀ us:L9 V9,us.length=ps.length->bindArgs fd ⟨us,[]⟩=pure (ps.zip us)):jX K fd ps []:=λs us _ a=>by
 rw[C8]at a ⊢
 exact .of_eq (h us a)
def lC(CX:CXT)(X:Cx)(E:XK):Prop:=∀ (ap:L9 (Az×Obj)) (Z:St) (H:Hp) (s:S9) (e:V9) (s':S9),Inv X ap Z H s->CX X.stack H s E e s'->X.xe e s'
section
variable{X:Cx}{CX:CXT}{k:Nat}{f C:Az}{fd:FuncData}{ps:L9 Str}{sp:Sp}{dvs:L9 V}{ds:L9 V9}{E:XK}{x m:Str}{p pos apos:Pos}{e o:E2}{es:L9 E2}{ta:TE}{t:TA}
theorem aHX{Q:VK}{vs:L9 V}(F:FnOk X.prog X.w X.K X.mg X.base CX k f fd ps sp)(hr:Room k X.A)(hb:jX X.K fd ps ds)(c:aZ dvs ds)(hx:lC CX X E)
  (I:Inv X ap Z H s) (r:aZ vs us) (h:sp (vs++dvs) H Q E):wpAny (model X.prog X.w) X.A (call (.ref f) us) (EP X ap Z Q) X.xe s:=by
 have r2:aZ (vs++dvs) (us++ds):=r.append c
 have b:(us++ds).length=ps.length:=by rw[<-r2.length];exact F.len _ _ _ _ h
 refine wpAny_call (FT (F.run X.A X.stack s H ⟨us,[]⟩ (us++ds) (vs++dvs) Q E hr I.env0 (hb s us I.kIn b) r2 h) λr s' a=>?_)
 cases r with
 | error e=>exact hx ap Z H s e s' I a
 | ok fl=>
  cases fl with
  | ret u=>exact I.after a
  | next=>exact False.elim a
  | brk=>exact False.elim a
  | cont=>exact False.elim a
theorem aOW(F:FnOk X.prog X.w X.K X.mg X.base CX k f fd ps sp)(hr:Room k X.A)(d:Gl X x)(c:X.mg x=some (.ref f))(g:keepIn X.K (.ref f)=true)(hb:jX X.K fd ps ds)(i:aZ dvs ds)(hx:lC CX X E)
  (j:PA X (e::es) t) (a:(x == ("__debug__":Str))=false:=by decide) (he:starEach (e::es) X.env=(false,eval e X.env)::starEach es X.env:=by rfl) (hpl:(backTo pos (starEach es X.env)).any (·.1)=false:=by rfl) :
  PE X (.Call (.Name x p) (e::es) [] pos) (aF3 sp dvs E t):=by
 intro ap s Z H Q I h
 refine CZ (xP I d c ?_ a)
 refine GK (h₀:=X.base) I.ok.mod.kin g (thn (j pos ap s Z H _ I h) λus s1 ⟨vs,H1,b,r,q⟩=>⟨b.kIn,?_⟩) he hpl
 exact aHX F hr hb i hx b r q
end
structure FnScope(N P:List Str)(sc:Scope):Prop where
 kind:sc.kind=.function
 co:sc.isCoroutine=false
 gen:sc.isGenerator=false
 nd:N.Nodup
 pre:N.take P.length=P
 par:∀ x∈P,sc.names.lookup x=some .local\/sc.names.lookup x=some .cell
 nofree:∀ y∈sc.names,y.2≠.free
theorem zK:∀ {binds:L9 (Str×V9)} {m:Str->O9 V9},(∀ v,(x,v)∉binds)->bindL a binds m x=m x
 | [],_,_=>rfl
 | (n,v)::r,m,h=>by
  unfold bindL
  rw[zK λw hw=>h w (AQ _ hw)]
  split
  .have:x≠n:=by rintro rfl;exact h v AX
   simp[this]
  .rfl
theorem zL:∀ {binds:L9 (Str×V9)} {m:Str->O9 V9},(∀ v,(x,v)∉binds)->bindC a binds m x=m x
 | [],_,_=>rfl
 | (n,v)::r,m,h=>by
  unfold bindC
  rw[zL λw hw=>h w (AQ _ hw)]
  split
  .rfl
  .have:x≠n:=by rintro rfl;exact h v AX
   simp[this]
theorem qK{v:V9}:∀ {P:L9 Str} {vs:L9 V9} {i:Nat} {m:Str->O9 V9},P.Nodup->P[i]? = some x->vs[i]? = some v->a x=some .local->
  bindL a (P.zip vs) m x=some v
 | [],_,_,_,_,h,_,_=>by simp at h
 | _::_,[],_,_,_,_,h,_=>by simp at h
 | p::P,w::vs,0,m,nd,h1,h2,hk=>by
  simp at h1 h2;subst h1;subst h2
  show bindL a ((p,w)::P.zip vs) m p=_
  unfold bindL
  rw[zK λv hv=>(C9.mp nd).1 (ET hv).1,AN hk]
  simp
 | p::P,w::vs,i+1,m,nd,h1,h2,hk=>by
  show bindL a ((p,w)::P.zip vs) m x=_
  unfold bindL
  exact qK (i:=i) (C9.mp nd).2 (by simpa using h1) (by simpa using h2) hk
theorem qL{v:V9}:∀ {P:L9 Str} {vs:L9 V9} {i:Nat} {m:Str->O9 V9},P.Nodup->P[i]? = some x->vs[i]? = some v->a x≠some .local->
  bindC a (P.zip vs) m x=some v
 | [],_,_,_,_,h,_,_=>by simp at h
 | _::_,[],_,_,_,_,h,_=>by simp at h
 | p::P,w::vs,0,m,nd,h1,h2,hk=>by
  simp at h1 h2;subst h1;subst h2
  show bindC a ((p,w)::P.zip vs) m p=_
  unfold bindC
  rw[zL λv hv=>(C9.mp nd).1 (ET hv).1,AL hk]
  simp
 | p::P,w::vs,i+1,m,nd,h1,h2,hk=>by
  show bindC a ((p,w)::P.zip vs) m x=_
  unfold bindC
  exact qL (i:=i) (C9.mp nd).2 (by simpa using h1) (by simpa using h2) hk
noncomputable def start(N:L9 Str)(vs:L9 V):St:=vs.map some++replicate (N.length - vs.length) none
noncomputable def iX(CX:CXT)(P:P9)(w:W9)(K:Frag)(mg:Str->O9 V9)(base:Hz)(N:L9 Str)(qual:Str)(scope:Scope)(f:Az)(cd:V9)(A:U9)(outer:L9 Env)(s:S9)(H:Hp)(E:XK):Cx where
 prog:=P
 w:=w
 K:=K
 mg:=mg
 base:=base
 A:=A.deeper (envOfC qual scope s.heap.objs.size f cd)
 N:=N
 s₀:=s
 H₀:=H
 env:=envOfC qual scope s.heap.objs.size f cd
 outer:=outer
 stack:=envOfC qual scope s.heap.objs.size f cd::outer
 ex:=[]
 calm:=true
 fn:=λ_=>true
 pn:=[]
 xe:=λe s'=>wpAny (model P w) (A.deeper (envOfC qual scope s.heap.objs.size f cd)) (leaving (envOfC qual scope s.heap.objs.size f cd) e) (λ_ s''=>CX outer H s E e s'') (λe' s''=>CX outer H s E e' s'') s'
theorem mF{a:Scope}{n:Nat}(h:a.names.lookup x=some .cell):∃ c,(cellsFrom n a.names []).lookup x=some c:=by
 have q:=HV a.names n [] (.inl h)
 exact G7.mp q
theorem aHY{w:W9}{ps:L9 Str}{A:U9}{outer:L9 Env}{s1:S9}{E:XK}{vs:L9 V}
  (S:FnScope N ps scope) (D:A.handled=none) (d:Env0 P w K mg base A outer s H) (J:vs.length=ps.length) (r:aZ vs us)
  (x:InCallC s s.heap.objs.size (bindL (envOfC qual scope s.heap.objs.size f cd).kindOf (ps.zip us) λ_=>none) (cellsFrom (s.heap.objs.size+1) scope.names []) (bindC (envOfC qual scope s.heap.objs.size f cd).kindOf (ps.zip us) λ_=>none) s1) :
  Inv (iX CX P w K mg base N qual scope f cd A outer s H E) [] (start N vs) H s1:=by
 have C:ps.length<=N.length:=by have:=CQ length S.pre;rw[B2]at this;ext
 obtain⟨h1,I,rfl,o⟩:=x.done
 have j:∀ b:Az,b∉(iX CX P w K mg base N qual scope f cd A outer s H E).ex:=λb z=>absurd (show b∈([]:L9 Az)from z) (by simp)
 refine⟨⟨d.mod,S.kind,rfl,rfl,AK _,λy z c h1 h2=>?_,λy g=>?_,λy c _ h=>?_,λ_=>D,Around.frames_deeper d.frames,.inr ⟨rfl,rfl⟩,λb z=>absurd z (j b),d.bs,d.bsz,λb _ _=>j b,λb z=>absurd z (j b),d.funs,d.frf⟩,
  rfl,d.bare,Un.kept o,⟨_,x.toInCall.ns,λi y v h1 h2 G=>?_⟩,λy c h=>⟨_,x.cell y c h⟩,d.hok.fresh (AK _),λy c h=>?_,λp l=>absurd (show p∈([]:L9 (Az×Obj))from l) (by simp),d.hok.kept o,?_⟩
 .exact name_of_addr x.apart (A8 h1) (A8 h2)
 .have g:scope.names.lookup y=some .cell\/scope.names.lookup y=some .free:=g
  rcases g with g|g
  .exact mF g
  .exact absurd rfl (S.nofree _ (A8 g))
 .exact B5 (x.above y c (A8 h))
 .have hi:i < vs.length:=by
   unfold start at h2
   by_cases hi:i < vs.length
   .exact hi
   .rw[BX (by simpa using hi)]at h2
    rw[E5]at h2
    split at h2<;>cases h2
  have B:vs[i]? = some v:=by
   unfold start at h2
   rw[BN (by simpa using hi),AC]at h2
   cases e:vs[i]? with
   | none=>rw[e]at h2;cases h2
   | some a=>rw[e]at h2;cases h2;rfl
  obtain⟨u,t,F⟩:=r.get B
  have l:ps[i]? = some y:=by
   rw[<-S.pre,EX (by ext)];exact h1
  have m:ps.Nodup:=by rw[<-S.pre];exact S.nd.sublist (List.take_sublist _ _)
  refine⟨u,F,?_⟩
  rcases S.par y (AH l)with k|k
  .exact .inl ⟨k,qK m l t k⟩
  .obtain ⟨c,e⟩:=mF (n:=s.heap.objs.size+1) k
   refine .inr ⟨.inl k,c,e,?_⟩
   have q:=x.cell y c e
   rw[qL m l t (by show scope.names.lookup y≠_;rw[k];decide)]at q
   exact q
 .exact d.hok.fresh (B5 (x.above y c (A8 h)))
 .unfold start
  show _=N.length
  rw[AY,AB,DQ]
  ext
theorem aF4{w:W9}{params:Arguments}{F kV a U:V9}{D:O9 Az}
  {z:Array (O9 V9)} {ps:L9 Str} {sp:Sp} (M:K.lookup f=some ⟨U,od,.func (fnOf name qual params body scope F kV doc pm D a ct),z⟩) (B:codeIn K a qual=true) (S:FnScope N ps scope)
  (len:∀ vs H Q E,sp vs H Q E->vs.length=ps.length)
  (d:∀ (A:U9) (outer:L9 Env) (s:S9) (H:Hp) (vs:L9 V) (Q:VK) (E:XK),Room k (A.deeper (envOfC qual scope s.heap.objs.size f a))->sp vs H Q E->
   ∃ t,PSs (iX CX P w K mg base N qual scope f a A outer s H E) body t/\t {nx:=λ_ H'=>Q .non H',rt:=Q} (start N vs) H) :
  FnOk P w K mg base CX (k+1) f (fnOf name qual params body scope F kV doc pm D a ct) ps sp:=by
 refine⟨len,λA outer s H args us vs Q E hr i R r j=>?_⟩
 have X:=len _ _ _ _ j
 have G:K.In s.heap:=i.mod.kin.keeps λb o e=>(i.bs b o e).1
 have m:s.heap.NoLimit:=i.mod.nolimit.keeps λb o e=>(i.bs b o e).1
 have c:∀ y∈ps.zip us,scope.names.lookup y.1=some .local\/(scope.names.lookup y.1=some .cell/\((cellsFrom (s.heap.objs.size+1) scope.names []).lookup y.1).isSome=true):=λp O=>by
  obtain⟨n,v⟩:=p
  rcases S.par n (ET O).1 with q|q
  .exact .inl q
  .exact .inr ⟨q,HV _ _ _ (.inl q)⟩
 refine codeAny_call_function hr.depth (G _ _ M) rfl S.co S.gen rfl (PySem.W.codeRec_of G B) (R _ _ _ _ ?_)
 refine wpAny_newFunctionEnv_cells S.kind c λenv Y s1 x=>?_
 subst Y
 refine⟨m.keeps x.toInCall.keep,codeAny_func ?_⟩
 obtain⟨t,L,T⟩:=d A outer s H vs Q E (hr.deeper _) j
 have I:Inv (iX CX P w K mg base N qual scope f a A outer s H E) [] (start N vs) H s1:=aHY S hr.hd i X r x
 refine BZ (L [] s1 (start N vs) H _ I T) (λZ s' g=>?_) λe s' g=>g
 have h:∀ {l:St} {H':Hp} {v:V} {u:V9},Inv (iX CX P w K mg base N qual scope f a A outer s H E) [] l H' s'->aR v u->Q v H'->CE outer P w H s Q u s':=
  λ{l H' v u} J C q=>⟨v,H',J.os,J.bare,J.base,J.hok,C,q⟩
 cases Z with
 | ret u=>
  obtain⟨v,l,H',J,C,q⟩:=g
  exact h J C q
 | next=>
  obtain⟨l,H',J,q⟩:=g
  exact h (v:=V.non) (u:=Value.none) J rfl q
 | brk=>
  obtain⟨_,_,_,q⟩:=g
  exact False.elim q
 | cont=>
  obtain⟨_,_,_,q⟩:=g
  exact False.elim q
section
variable{X:Cx}{x:Str}{p pos:Pos}{e:E2}{es:L9 E2}{t:TA}{id T:String}{r:L9 V->Hp->VK->Prop}
def tCB(r:L9 V->Hp->VK->Prop)(t:TA):TE:=λZ H Q=>t Z H λvs H1=>r vs H1 Q
theorem uO(f:jW X (.builtin id) r)(c:Gl X x)(b:X.mg x=none)(d:bootBuiltins x=some (.builtin id))(g:PA X (e::es) t)(j:x≠"__name__":=by decide)(hdb:(x == ("__debug__":Str))=false:=by decide)
  (he:starEach (e::es) X.env=(false,eval e X.env)::starEach es X.env:=by rfl) (hpl:(backTo pos (starEach es X.env)).any (·.1)=false:=by rfl):PE X (.Call (.Name x p) (e::es) [] pos) (tCB r t):=by
 intro ap s Z H Q I h
 refine CZ (jU I c b d ?_ j hdb)
 exact PyProof.Rows.callWith_builtin1 (thn (g pos ap s Z H _ I h) λus s1 ⟨vs,H1,i,r1,a⟩=>f ap s1 Z H1 vs us Q i r1 a) he hpl
theorem eW(f:jW X (.type T) r)(c:Gl X x)(b:X.mg x=none)(d:bootBuiltins x=some (.type T))(g:PA X (e::es) t)(j:x≠"__name__":=by decide)(hdb:(x == ("__debug__":Str))=false:=by decide)
  (he:starEach (e::es) X.env=(false,eval e X.env)::starEach es X.env:=by rfl) (hpl:(backTo pos (starEach es X.env)).any (·.1)=false:=by rfl):PE X (.Call (.Name x p) (e::es) [] pos) (tCB r t):=by
 intro ap s Z H Q I h
 refine CZ (jU I c b d ?_ j hdb)
 exact B3 (thn (g pos ap s Z H _ I h) λus s1 ⟨vs,H1,i,r1,a⟩=>f ap s1 Z H1 vs us Q i r1 a) he hpl
end
end L2
open L2
variable{a:Az}{o:O9 Int}{c g:Nat}{items:Array V9}
namespace HT
variable{lo hi:O9 Int}
section
open PySem.SeqAt
open PySem.AutoSeq1 (wpAny_loadPart')
open PySem.MeetsSeq PySem.MeetsSeq2 PySem.MeetsSeq3
end
section
variable{prog:P9}{w:W9}{A:U9}{E:V9->S9->Prop}{s:S9}
theorem aOX{t:Az}{vs ws:L9 V9}(p:IsTup s.heap t vs.toArray)(hb:IsTup s.heap b ws.toArray)(k:vs≠[])
  (h1:ws=[]->Q (.ref t) s) (h2:ws≠[]->Q (.ref s.heap.objs.size) {s with heap:=s.heap.push {cls:=.type "tuple",data:=.seq (vs++ws).toArray}})
  (hsz:vs.length+ws.length<=sizeLine):wpAny (model prog w) A (binaryOp .Add (.ref t) (.ref b)) Q E s:=by
 obtain⟨⟨cls,dd,data,sl⟩,h,m,n,o⟩:=id p
 obtain⟨⟨l,f,j,d⟩,a,c,n2,g⟩:=id hb
 simp only at m o c g
 subst m o c g
 have e:vs.toArray++ws.toArray=(vs++ws).toArray:=by simp
 by_cases i:ws=[]
 .exact concat_meets ⟨_,h,rfl⟩ ⟨_,a,rfl⟩ noFill_tuple_add seq_tuple_add HW HJ (G8 _ _)
   (tuple_addW1 t b vs.toArray ws.toArray n n2 dd f sl d (by simpa using k) (by simp[i])) ⟨h,a,h1 i⟩
 .refine concat_meets ⟨_,h,rfl⟩ ⟨_,a,rfl⟩ noFill_tuple_add seq_tuple_add HW HJ (G8 _ _)
   (tuple_addW2 t b vs.toArray ws.toArray n n2 dd f sl d (by simpa using k) (by simpa using i) (by rw[A6,A6];exact hsz)) ⟨h,a,?_⟩
  rw[e]
  exact h2 i
noncomputable def sIx(n d:Nat):O9 Int->Nat
 | none=>d
 | some v=>if v < 0 then(v+(n:Int)).toNat else min v.toNat n
theorem aA4(n d:Nat):sIx n d none=d:=rfl
theorem aD6(n d k:Nat):sIx n d (some (k:Int))=min k n:=by
 show(if (k:Int) < 0 then((k:Int)+(n:Int)).toNat else min (k:Int).toNat n)=min k n
 rw[AL (by ext),DC]
theorem aS5(n d:Nat)(b:d<=n)(o:O9 Int):sIx n d o<=n:=by
 cases o with
 | none=>exact b
 | some v=>
  show(if v < 0 then(v+(n:Int)).toNat else min v.toNat n)<=n
  by_cases a:v < 0
  · rw [AN a]; ext
  · rw [AL a]; exact Nat.min_le_right _ _
theorem aD7(v:Int)(n d:Nat):(if v < 0 then max (v+(n:Int)) 0 else min v (n:Int))=((sIx n d (some v):Nat):Int):=by
 show(if v < 0 then max (v+(n:Int)) 0 else min v (n:Int))=(((if v < 0 then(v+(n:Int)).toNat else min v.toNat n):Nat):Int)
 by_cases a:v < 0
 · simp only [AN a]; ext
 · simp only [AL a]; ext
theorem aF5(lo hi:O9 Int)(n:Nat):Builtin.Slice.sliceAdjust lo hi 1 (n:Int)=(((sIx n 0 lo:Nat):Int),((sIx n n hi:Nat):Int)):=by
 have h1:¬ ((1:Int) < 0):=by ext
 unfold Builtin.Slice.sliceAdjust
 simp only[h1,DI]
 refine Prod.ext ?_ ?_
 .cases lo with
  | none=>rfl
  | some v=>exact aD7 v n 0
 .cases hi with
  | none=>rfl
  | some v=>exact aD7 v n n
theorem aF6(i j:Nat):Builtin.Slice.slicePlaces (i:Int) (j:Int) 1=j - i:=by
 unfold Builtin.Slice.slicePlaces
 have h1:(1:Int) > 0:=by ext
 simp only[h1,DJ,Int.ediv_one]
 split<;>ext
theorem v7{v:V9}{Q:O9 Int->S9->Prop}(p:IsPart v o)(h:Q o s):wpAny (model prog w) A (Builtin.Slice.slicePartIndex v) Q E s:=by
 cases p with
 | none=>exact slicePart_none h
 | int i t=>exact slicePart_int h
theorem uP{sl:Az}{c d:V9}{Q:Int×Int×Nat->S9->Prop}(g:s.heap.IsSliceOf sl c d .none)(pl:IsPart c lo)(f:IsPart d hi)
  (h:Q (((sIx n 0 lo:Nat):Int),1,sIx n n hi - sIx n 0 lo) s):wpAny (model prog w) A (Builtin.Slice.sliceApplied (.ref sl) (pure (n:Int))) Q E s:=by
 obtain⟨os,b,e,a⟩:=id g
 unfold Builtin.Slice.sliceApplied Builtin.Slice.sliceFields
 refine AA (AA (B0 b a (x:=c) rfl (AA (B0 b a (x:=d) rfl (AA (B0 b a (x:=.none) rfl (AE ?_)))))))
 refine AA (slicePart_none ?_)
 show wpAny _ _ (if ((1:Int) == 0)=true then _ else _) _ _ s
 rw[AL (by decide)]
 refine AA (v7 pl (AA (v7 f (AA (AE ?_)))))
 show wpAny _ _ (match Builtin.Slice.sliceAdjust lo hi 1 (n:Int)with|(lo,hi)=>pure (lo,(1:Int),Builtin.Slice.slicePlaces lo hi 1)) _ _ s
 rw[aF5 lo hi n]
 show wpAny _ _ (pure (((sIx n 0 lo:Nat):Int),(1:Int),Builtin.Slice.slicePlaces ((sIx n 0 lo:Nat):Int) ((sIx n n hi:Nat):Int) 1)) _ _ s
 rw[aF6]
 exact AE h
theorem aLF(xs:Array V9)(i k:Nat):((range k).filterMap λ(m:Nat)=>xs[((i:Int)+(m:Int) * 1).toNat]?).toArray=((xs.toList.drop i).take k).toArray:=by
 have e:(λ(m:Nat)=>xs[((i:Int)+(m:Int) * 1).toNat]?)=λm=>xs[i+m]?:=by
  funext m
  have:((i:Int)+(m:Int) * 1).toNat=i+m:=by ext
  rw[this]
 rw[e]
 have:=pick_run xs i k
 rw[List.filterMap_map]at this
 have e2:((λx=>xs[x]?)∘λx=>i+x)=λm=>xs[i+m]?:=rfl
 rw[e2]at this
 rw[this]
theorem tT{t sl:Az}{j i:V9}(b:IsTup s.heap t items)(g:s.heap.IsSliceOf sl j i .none)(pl:IsPart j lo)(k:IsPart i hi)
  (hw:¬ (sIx items.size 0 lo=0/\sIx items.size items.size hi=items.size))
  (h:Q (.ref s.heap.objs.size) {s with heap:=s.heap.push {cls:=.type "tuple",data:=.seq ((items.toList.drop (sIx items.size 0 lo)).take (sIx items.size items.size hi - sIx items.size 0 lo)).toArray}})
  (hsz:items.size<=sizeLine):wpAny (model prog w) A (getItem (.ref t) (.ref sl)) Q E s:=by
 have a:sizeOk (.seq ((items.toList.drop (sIx items.size 0 lo)).take (sIx items.size items.size hi - sIx items.size 0 lo)).toArray):=by
  show((items.toList.drop (sIx items.size 0 lo)).take (sIx items.size items.size hi - sIx items.size 0 lo)).toArray.size<=sizeLine
  rw[A6,B2,G9,CA]
  ext
 have o:sIx items.size items.size hi<=items.size:=aS5 _ _ (AK _) hi
 obtain⟨os,f,c,l⟩:=id g
 have e:s.TypeIs (.ref sl) "slice":=⟨os,f,c⟩
 unfold getItem
 try with_reducible refine CJ ?_
 first|refine AA (AE ?_)|skip
 refine AA (wpAny_sequenceKey b.typeIs (by decide) ?_)
 refine AA (CP (name:=Str.ofString "__getitem__") b.typeIs D7
  (CW D7 b.typeIs entry_tuple_getitem ?_ (args_tuple_getitem _ _)))
 show wpAny _ _ (Builtin.Tuple.tupleItemsOf (.ref t) >>= _) _ _ s
 refine AA (tupleItemsOf_ b ?_)
 refine AA (HA e ?_)
 rw[AN (by decide)]
 refine AA (uP g pl k ?_)
 have d:¬ ((((sIx items.size 0 lo:Nat):Int) == 0 && (1:Int) == 1 && (sIx items.size items.size hi - sIx items.size 0 lo) == items.size)=true):=by
  intro q
  rw[A4,A4]at q
  have n:((sIx items.size 0 lo:Nat):Int)=0:=HP q.1.1
  have p:sIx items.size items.size hi - sIx items.size 0 lo=items.size:=HP q.2
  exact hw ⟨by ext,by ext⟩
 show wpAny _ _ (if (((sIx items.size 0 lo:Nat):Int) == 0 && (1:Int) == 1 && (sIx items.size items.size hi - sIx items.size 0 lo) == items.size)=true then _ else _) _ _ s
 rw[AL d,aLF]
 first
  | exact AA (m:=Builtin.Tuple.tupleExact _) (B4 (AE ⟨_,rfl,AE h⟩) a)
  | exact AA (m:=Builtin.Tuple.tupleExact _) (B4 (AA (AE (AE ⟨_,rfl,AE h⟩))) a)
  | exact AA (AA (m:=Builtin.Tuple.tupleExact _) (B4 (AE (AE ⟨_,rfl,AE h⟩)) a))
  | exact AA (AA (m:=Builtin.Tuple.tupleExact _) (B4 (AE ⟨_,rfl,AE h⟩) a))
end
end HT
variable{p:Az}
namespace L2
abbrev TO:=St->Hp->(O9 Int->Hp->Prop)->Prop
def PO(X:Cx)(e:O9 E2)(t:TO):Prop:=
 ∀ (ap:L9 (Az×Obj)) (s:S9) (Z:St) (H:Hp) (Q:O9 Int->Hp->Prop),Inv X ap Z H s->t Z H Q->
  wpAny (model X.prog X.w) X.A (evalPart e X.env) (λu s'=>∃ o H',Inv X ap Z H' s'/\IsPart u o/\Q o H') X.xe s
def aOY:TO:=λ_ H Q=>Q none H
def aV9(t:TE):TO:=λZ H Q=>t Z H λx H1=>∃ i,x=.int i/\Q (some i) H1
section
variable{X:Cx}{e:E2}{te:TE}{lo hi:O9 E2}{tl th:TO}{pos p2:Pos}
theorem aOZ:PO X none aOY:=by
 intro ap s Z H Q I h
 rw[evalPart_none]
 exact AE ⟨none,H,I,.none,h⟩
theorem aO0(h:PE X e te):PO X (some e) (aV9 te):=by
 intro ap s Z H Q I d
 rw[evalPart_some]
 refine thn (h ap s Z H _ I d) λu s1 a=>?_
 obtain⟨x,H1,c,r1,b⟩:=a
 obtain⟨i,rfl,q⟩:=b
 obtain⟨t,rfl⟩:=r1
 exact⟨some i,H1,c,.int i t,q⟩
def SlR(X:Cx)(r:V->O9 Int->O9 Int->Hp->VK->Prop):Prop:=
 ∀ (ap:L9 (Az×Obj)) (s:S9) (Z:St) (H:Hp) (x:V) (v vl vu:V9) (lo hi:O9 Int) (sl:Az) (Q:VK),Inv X ap Z H s->aR x v->s.heap.IsSliceOf sl vl vu .none->IsPart vl lo->IsPart vu hi->r x lo hi H Q->
  ∃ T id,typeLookup (.type T) "__getitem__"=pure (some (.builtin id))/\s.TypeIs v T/\wpAny (model X.prog X.w) X.A (getItem v (.ref sl)) (EP X ap Z Q) X.xe s
def tSl(r:V->O9 Int->O9 Int->Hp->VK->Prop)(te:TE)(tl th:TO):TE:=λZ H Q=>te Z H λx H1=>tl Z H1 λl H2=>th Z H2 λu H3=>r x l u H3 Q
theorem aA5{r:V->O9 Int->O9 Int->Hp->VK->Prop}(hr:SlR X r)(z:PE X e te)(y:PO X lo tl)(o:PO X hi th):PE X (.Subscript e (.Slice lo hi none p2) pos) (tSl r te tl th):=by
 intro ap s Z H Q I h
 refine Subscript_ (thn (z ap s Z H _ I h) λv s1 c=>?_)
 obtain⟨x,H1,D,r1,g⟩:=c
 refine wpAny_Slice (thn (y ap s1 Z H1 _ D g) λf F ⟨l,H2,i,t,p⟩=>thn (o ap F Z H2 _ i p) λd a c=>?_)
 obtain⟨u,H3,n,C,k⟩:=c
 rw[evalPart_none]
 refine AE ?_
 have E:Inv X ap Z H3 {a with heap:=a.heap.push {cls:=.type "slice",data:=.fields #[f,d,.none]}}:=n.kept (t':=a.toks) λb G q=>AD _ q
 obtain⟨T,id,m,j,B⟩:=hr ap {a with heap:=a.heap.push {cls:=.type "slice",data:=.fields #[f,d,.none]}} Z H3 x v f d l u a.heap.objs.size Q E r1 (Heap.IsSliceOf.new ..) t C k
 show wpAny (model X.prog X.w) X.A (subscriptTail e (.Slice lo hi none p2) v (.ref a.heap.objs.size)) (EP X ap Z Q) X.xe {a with heap:=a.heap.push {cls:=.type "slice",data:=.fields #[f,d,.none]}}
 exact tail_any (ops:=[.ref a.heap.objs.size,v]) j m B (by with_unfolding_all rfl)
noncomputable def qM(xs:L9 V)(lo hi:O9 Int):L9 V:=(xs.drop (HT.sIx xs.length 0 lo)).take (HT.sIx xs.length xs.length hi - HT.sIx xs.length 0 lo)
theorem uB(xs:L9 V)(lo hi:O9 Int):(qM xs lo hi).length<=xs.length:=by
 unfold qM
 rw[B2,G9]
 ext
def aX1(K:Frag):V->O9 Int->O9 Int->Hp->VK->Prop:=λx lo hi H Q=>∃ a xs,x=.ref a/\SqT K H a xs /\
 ¬ (HT.sIx xs.length 0 lo=0/\HT.sIx xs.length xs.length hi=xs.length)/\∀ p,H p=none->Q (.ref p) (upd H p (.tup (qM xs lo hi)))
theorem aS6:SlR X (aX1 X.K):=by
 intro ap s Z H x v t n lo hi sl Q I j i m l h
 obtain⟨a,xs,rfl,g,k,q⟩:=h
 cases j
 obtain⟨d,r,e,f⟩:=I.tuple g
 have c:d.toArray.size=xs.length:=by rw[A6];exact r.length.symm
 refine⟨"tuple",_,D7.lookup,e.typeIs,?_⟩
 refine HT.tT e i m l (by rw[c];exact k) ?_ (by rw[c];exact f)
 rw[c]
 refine⟨.ref s.heap.objs.size,_,I.laid (t':=s.toks) (o:=.tup (qM xs lo hi)) (λb p q=>AD _ q) (AK _) ?_,rfl,q _ (I.hok.fresh (AK _))⟩
 exact⟨A2 (uB xs lo hi) f,_,(r.drop (HT.sIx xs.length 0 lo)).take (HT.sIx xs.length xs.length hi - HT.sIx xs.length 0 lo),lB.new _ _⟩
def aWA(K:Frag):R2:=λx y H Q=>∃ a b xs ys,x=.ref a/\y=.ref b/\SqT K H a xs/\SqT K H b ys/\xs≠[]/\xs.length+ys.length<=sizeLine /\
 (ys=[]->Q (.ref a) H)/\(ys≠[]->∀ p,H p=none->Q (.ref p) (upd H p (.tup (xs++ys))))
theorem aZ.nil_iff{xs:L9 V}(r:aZ xs us):us=[]↔xs=[]:=by
 cases r with
 | nil=>simp
 | cons _ _=>simp
theorem aO1:OpR X (binaryOp .Add) (aWA X.K):=by
 intro ap s Z H x y v u Q I k f h
 obtain⟨a,b,xs,ys,rfl,rfl,i,m,g,d,e,l⟩:=h
 cases k
 cases f
 obtain⟨n,r1,j,_⟩:=I.tuple i
 obtain⟨c,r2,p2,_⟩:=I.tuple m
 refine HT.aOX j p2 (λz=>g (r1.nil_iff.mp z)) (λz=>⟨.ref a,H,I,rfl,e (r2.nil_iff.mp z)⟩) (λz=>?_) (by rw[<-r1.length,<-r2.length];exact d)
 refine⟨.ref s.heap.objs.size,_,I.laid (t':=s.toks) (o:=.tup (xs++ys)) (λb p q=>AD _ q) (AK _) ?_,rfl,l (λw=>z (r2.nil_iff.mpr w)) _ (I.hok.fresh (AK _))⟩
 exact⟨by rw[AY];exact d,_,r1.append r2,lB.new _ _⟩
end
noncomputable def ixN(n:Nat)(i:Int):O9 Nat:=if 0<=i then(if i < n then some i.toNat else none)else if -(n:Int)<=i then some (i+n).toNat else none
noncomputable def atI(xs:L9 α)(i:Int):O9 α:=(ixN xs.length i).bind λj=>xs[j]?
theorem aO2{i:Int}(h:ixN n i=some j):seqIndex? i n=some j/\j < n /\ -(n:Int)<=i/\i < n:=by
 unfold ixN at h
 by_cases a:0<=i
 .rw[AN a]at h
  by_cases h1:i < n
  .rw[AN h1]at h
   have e:i.toNat=j:=BL h
   exact⟨by rw[seqIndex_of a h1,e],by ext,by ext,h1⟩
  .rw[AL h1]at h;cases h
 .rw[AL a]at h
  by_cases h1 : -(n:Int)<=i
  .rw[AN h1]at h
   have e:(i+n).toNat=j:=BL h
   exact⟨by rw[seqIndex_neg (by ext) h1,e],by ext,h1,by ext⟩
  .rw[AL h1]at h;cases h
theorem xS{xs:L9 α}{i:Int}{v:α}(h:atI xs i=some v):∃ j,seqIndex? i xs.length=some j/\xs[j]? = some v/\j < xs.length /\ -(xs.length:Int)<=i/\i < xs.length:=by
 unfold atI at h
 cases e:ixN xs.length i with
 | none=>rw[e]at h;cases h
 | some j=>
  rw[e]at h
  obtain⟨h1,h2,b,a⟩:=aO2 e
  exact⟨j,h1,h,h2,b,a⟩
theorem c8{xs:L9 α}{j:Nat}{v:α}(h:xs[j]? = some v):atI xs (j:Int)=some v:=by
 have a:j < xs.length:=(AJ.mp h).1
 have e:ixN xs.length (j:Int)=some j:=by
  unfold ixN
  rw[AN (by ext),AN (by ext)];simp
 unfold atI;rw[e];exact h
theorem aLG(xs:L9 α)(v:α):atI (xs++[v]) (-1)=some v:=by
 have a:(xs++[v]).length=xs.length+1:=by simp
 have e:ixN (xs++[v]).length (-1)=some xs.length:=by
  unfold ixN
  rw[a,AL (by decide),AN (by ext)]
  congr 1
  ext
 unfold atI
 rw[e]
 show(xs++[v])[xs.length]? = some v
 simp
def aD8(b:E2):Prop:=∀ o i,subscripted b false o i=operate [o,i] (getItem o i)
def IxR(X:Cx)(r:R2):Prop:=
 ∀ (value slice:E2) (ap:L9 (Az×Obj)) (s:S9) (Z:St) (H:Hp) (x y:V) (v u:V9) (Q:VK),Inv X ap Z H s->aR x v->aR y u->r x y H Q->
  subscripted slice false v u=operate [v,u] (getItem v u)->wpAny (model X.prog X.w) X.A (subscriptTail value slice v u) (EP X ap Z Q) X.xe s
def MtR(X:Cx)(id:String)(r:V->L9 V->Hp->VK->Prop):Prop:=
 ∀ (ap:L9 (Az×Obj)) (s:S9) (Z:St) (H:Hp) (x:V) (xs:L9 V) (v:V9) (us:L9 V9) (Q:VK),Inv X ap Z H s->aR x v->aZ xs us->r x xs H Q->
  wpAny (model X.prog X.w) X.A (call (.builtin id) (v::us)) (EP X ap Z Q) X.xe s
section
variable{X:Cx}{a b:E2}{ta tb:TE}{pos:Pos}
theorem aWB{r:R2}(hr:IxR X r)(f:PE X a ta)(hb:PE X b tb)(g:aD8 b):PE X (.Subscript a b pos) (tOp r ta tb):=by
 intro ap s Z H Q I h
 exact Subscript_ (aLB f hb I h λv u i x y H2 d c e q=>hr a b ap i Z H2 x y v u Q d c e q (g _ _))
def aX2(K:Frag):R2:=λx y H Q=>∃ p xs i v,x=.ref p/\y=.int i/\SqL K H p xs/\atI xs i=some v/\Q v H
def aX3(K:Frag):R2:=λx y H Q=>∃ p xs i v,x=.ref p/\y=.int i/\SqT K H p xs/\atI xs i=some v/\Q v H
def aX4:R2:=λx y H Q=>∃ z i c,x=.str z/\y=.int i/\z.length<=sizeLine/\atI z.cps.toList i=some c/\Q (.str ⟨#[c]⟩) H
theorem aO3:IxR X (aX2 X.K):=by
 intro f d ap s Z H x y v u Q I B A h l
 obtain⟨p,xs,i,z,rfl,rfl,n,D,q⟩:=h
 cases B
 obtain⟨t,rfl⟩:=A
 obtain⟨e,r,g,J⟩:=I.list n
 obtain⟨j,h1,h2,F,E,o⟩:=xS D
 obtain⟨w,k,b⟩:=r.get h2
 have C:=r.length
 have G:=v6
 have a:EP X ap Z Q w s:=⟨z,H,I,b,q⟩
 by_cases m:0<=i
 .have c:i.toNat=j:=by
   rw[seqIndex_of m o]at h1
   exact BL h1
  exact item_listR g.isList m (by ext) (by rw[c];simpa using k) a l
 .have c:(i+(e.toArray.size:Int)).toNat=j:=by
   rw[seqIndex_neg (by ext) E]at h1
   rw[A6,<-C]
   exact BL h1
  exact subscriptTail_builtinR (x:=w) g.isList.typeIs slot_list_getitem.lookup
   (wpAny_getItem_list_neg (Q:=λr s'=>r=w/\EP X ap Z Q r s') g.isList (by ext) (by rw[A6]<;>ext) (by ext) (by rw[c];simpa using k) ⟨rfl,a⟩) l
theorem aS7:IxR X (aX3 X.K):=by
 intro d c ap s Z H x y v u Q I m k h l
 obtain⟨p,xs,i,z,rfl,rfl,f,o,q⟩:=h
 cases m
 obtain⟨t,rfl⟩:=k
 obtain⟨A,r,e,F⟩:=I.tuple f
 obtain⟨j,h1,h2,C,E,B⟩:=xS o
 obtain⟨w,g,b⟩:=r.get h2
 have n:=r.length
 have D:=v6
 have a:EP X ap Z Q w s:=⟨z,H,I,b,q⟩
 exact subscriptTail_builtinR (x:=w) e.typeIs slot_tuple_getitem.lookup
  (getItem_tuple (j:=j) (Q:=λr s'=>r=w/\EP X ap Z Q r s') e (by ext) (by ext) (by rw[A6,<-n];exact h1) (by simpa using g) ⟨rfl,a⟩) l
theorem aS8:IxR X aX4:=by
 intro b a ap s Z H x y v u Q I g e h f
 obtain⟨z,i,c,rfl,rfl,r,l,q⟩:=h
 obtain⟨t,rfl⟩:=g
 obtain⟨n,rfl⟩:=e
 obtain⟨j,h1,h2,o,m,d⟩:=xS l
 have k:z.cps.toList.length=z.length:=by simp[Str.length]
 rw[k]at h1 m d
 have p:=v6
 exact tail_any (typeIs_str s z t) slot_str_getitem.lookup (getItem_str (c:=c) (by
  have e1:decide (i < -(2 ^ 63:Int))=false:=BA (by ext)
  have e2:decide (i>=2 ^ 63)=false:=BA (by ext)
  rw[e1,e2,Bool.or_false]) (by rw[h1];simpa using h2) ⟨.str ⟨#[c]⟩,H,I.tok _,⟨_,rfl⟩,q⟩) f
theorem Inv.lst{Z:St}{H:Hp}{xs:L9 V}(I:Inv X ap Z H s)(h:H p=some (.lst xs)) :
  ∃ (its:L9 V9) (n:Nat),aZ xs its/\s.heap.get? p=some {cls:=.type "list",data:=.seq its.toArray n}/\xs.length<=sizeLine:=by
 obtain⟨z,its,n,r,e⟩:=I.hok p _ h
 exact⟨its,n,r,e,z⟩
theorem aA6(lo hi:O9 Int)(n:Nat):(sliceBounds lo hi none n).1=((HT.sIx n 0 lo:Nat):Int)/\(sliceBounds lo hi none n).2.1=((HT.sIx n n hi:Nat):Int)/\(sliceBounds lo hi none n).2.2=1:=by
 refine⟨?_,?_,rfl⟩
 .cases lo with
  | none=>simp[sliceBounds,HT.sIx]
  | some i=>
   simp only[sliceBounds,HT.sIx,HB,show(1:Int) > 0 by decide,DJ]
   by_cases h:i < 0
   · simp only [h, DJ] <;> ext
   · simp only [h, DI] <;> ext
 .cases hi with
  | none=>simp[sliceBounds,HT.sIx]
  | some i=>
   simp only[sliceBounds,HT.sIx,HB,show(1:Int) > 0 by decide,DJ]
   by_cases h:i < 0
   · simp only [h, DJ] <;> ext
   · simp only [h, DI] <;> ext
theorem aAN(a:L9 V9)(lo hi:O9 Int):slicePick a.toArray lo hi none=((a.drop (HT.sIx a.length 0 lo)).take (HT.sIx a.length a.length hi - HT.sIx a.length 0 lo)).toArray:=by
 obtain⟨h1,h2,b⟩:=aA6 lo hi a.toArray.size
 unfold slicePick
 rw[h1,h2,b]
 simp only[sliceRange_one,pick_run,A6]<;>rfl
def aX5(K:Frag):V->O9 Int->O9 Int->Hp->VK->Prop:=λx lo hi H Q=>∃ a xs,x=.ref a/\SqL K H a xs/\∀ p,H p=none->Q (.ref p) (upd H p (.lst (qM xs lo hi)))
theorem aO4:SlR X (aX5 X.K):=by
 intro ap s Z H x v p m lo hi sl Q I g f l j h
 obtain⟨a,xs,rfl,e,q⟩:=h
 cases g
 obtain⟨k,r,d,i⟩:=I.list e
 have c:=r.length
 refine⟨"list",_,slot_list_getitem.lookup,d.isList.typeIs,?_⟩
 refine wpAny_getItem_list_slice d.isList f l j .none (by simp) ?_ (by rw[A6]<;>ext)
 rw[aAN,<-c]
 refine⟨.ref s.heap.objs.size,_,I.laid (t':=s.toks) (o:=.lst (qM xs lo hi)) (λb n q=>AD _ q) (AK _) ?_,rfl,q _ (I.hok.fresh (AK _))⟩
 exact⟨A2 (uB xs lo hi) i,_,0,(r.drop (HT.sIx xs.length 0 lo)).take (HT.sIx xs.length xs.length hi - HT.sIx xs.length 0 lo),AV _ rfl⟩
theorem aA7:jW X (.type "list") (λxs H Q=>∃ p ys,xs=[.ref p]/\(SqL X.K H p ys\/SqT X.K H p ys)/\∀ l,H l=none->Q (.ref l) (upd H l (.lst ys))):=by
 intro ap s Z H xs us Q I r h
 obtain⟨p,ys,rfl,g,q⟩:=h
 obtain⟨u,rfl,y⟩:=kZ r
 cases y
 have i:∀ (a:L9 V9),aZ ys a->ys.length<=sizeLine->∀ (h':Hz) (c:Nat),(∀ b o',s.heap.get? b=some o'->h'.get? b=some o')->
   h'.get? s.heap.objs.size=some {cls:=.type "list",dict:=none,data:=.seq a.toArray c,slots:=#[]}->EP X ap Z Q (.ref s.heap.objs.size) {s with heap:=h'}:=λa d j h' c k e=>
  ⟨.ref s.heap.objs.size,_,I.laid (t':=s.toks) k (AK _) (show bS X.prog X.w _ h' _ (.lst ys)from⟨j,a,c,d,e⟩),rfl,q _ (I.hok.fresh (AK _))⟩
 rcases g with g|g
 .obtain ⟨a,d,x,j⟩:=I.list g
  have f:=d.length
  obtain⟨o,m,t,n,v⟩:=x.isList
  exact call_list_seq p (.inl rfl) m t v (λh' c k e=>i a d j h' c k e) (by simp only[A6]<;>ext)
 .obtain ⟨a,d,x,j⟩:=I.tuple g
  have f:=d.length
  obtain⟨o,m,t,n,v⟩:=x
  exact call_list_seq p (.inr rfl) m t v (λh' c k e=>i a d j h' c k e) (by simp only[A6]<;>ext)
theorem i7:jW X (.type "tuple") (λxs H Q=>∃ p ys,xs=[.ref p]/\((SqL X.K H p ys/\∀ l,H l=none->Q (.ref l) (upd H l (.tup ys)))\/(SqT X.K H p ys/\Q (.ref p) H))):=by
 intro ap s Z H xs us Q I r h
 obtain⟨p,ys,rfl,h⟩:=h
 obtain⟨u,rfl,k⟩:=kZ r
 cases k
 rcases h with ⟨c,q⟩|⟨c,q⟩
 .obtain ⟨a,d,f,i⟩:=I.list c
  have g:=d.length
  refine call_tuple_list f.isList (λh' n=>?_) (by simp only[A6]<;>ext)
  have j:Inv X ap Z H {s with heap:=h'}:=I.kept (t':=s.toks) n
  have m:Inv X ap Z (upd H h'.objs.size (.tup ys)) {s with heap:=h'.push {cls:=.type "tuple",data:=.seq a.toArray}}:=
   j.laid (t':=s.toks) (λb o e=>AD _ e) (AK _) (show bS X.prog X.w _ _ _ (.tup ys)from⟨i,a,d,lB.new _ _⟩)
  exact⟨.ref h'.objs.size,_,m,rfl,q _ (j.hok.fresh (AK _))⟩
 .obtain ⟨a,d,f,i⟩:=I.tuple c
  exact call_tuple_same f ⟨.ref p,H,I,rfl,q⟩
def tyV(K:Frag)(T:String)(x:V)(H:Hp):Prop:=match x with
 | .str _=>T="str"
 | .int _=>T="int"
 | .ref p=>(T="list"/\∃ xs,SqL K H p xs)\/(T="tuple"/\∃ o,K.lookup p=some o/\o.cls=.type "tuple"/\o.dict=none) \/
  (T="dict"/\((∃ a0,H p=some (.dK a0))\/∃ a0,H p=some (.dT a0)))\/(T="set"/\∃ S n,H p=some (.set S n))
 | _=>False
theorem aHZ{Z:St}{H:Hp}{T:String}{x:V}{v:V9}(I:Inv X ap Z H s)(r:aR x v)(d:tyV X.K T x H) :
  s.TypeIs v T/\∀ a,v=.ref a->∃ ob,s.heap.get? a=some ob/\ob.dict=none:=by
 cases x with
 | str z=>
  obtain⟨t,rfl⟩:=r
  cases(show T="str" from d)
  exact⟨typeIs_str s z t,λ_ e=>nomatch e⟩
 | int i=>
  obtain⟨t,rfl⟩:=r
  cases(show T="int" from d)
  exact⟨typeIs_int s i t,λ_ e=>nomatch e⟩
 | ref p=>
  cases r
  rcases d with ⟨rfl,xs,j⟩|⟨rfl,o,b,l,f⟩|⟨rfl,b⟩|⟨rfl,S,n,b⟩
  .obtain ⟨k,_,h,_⟩:=I.list j
   refine⟨h.isList.typeIs,λa e=>?_⟩
   cases e
   obtain⟨o,n,e,c,f,_⟩:=h
   exact⟨o,e,f⟩
  .refine ⟨⟨o,I.kIn p o b,l⟩,λa e=>?_⟩
   cases e
   exact⟨o,I.kIn _ o b,f⟩
  .have z:∃ o,s.heap.get? p=some o/\o.ExactDict:=by
    rcases b with ⟨g,b⟩|⟨g,b⟩
    .obtain ⟨_,_,_,_,o,_,_,e,ex,_⟩:=I.hok p _ b
     exact⟨o,e,ex⟩
    .obtain ⟨_,_,_,_,o,_,_,e,ex,_⟩:=I.hok p _ b
     exact⟨o,e,ex⟩
   obtain⟨o,e,ex⟩:=z
   refine⟨⟨o,e,ex.1⟩,λa e2=>?_⟩
   cases e2
   exact⟨o,e,ex.2.1⟩
  .obtain ⟨o,_,_,_,e,ex,_⟩:=I.hok p _ b
   refine⟨⟨o,e,ex.1⟩,λa e2=>?_⟩
   cases e2
   exact⟨o,e,ex.2.1⟩
 | _=>exact False.elim d
def aS9(K:Frag)(T:String)(r:V->L9 V->Hp->VK->Prop)(to:TE):TE:=λZ H Q=>to Z H λx H1=>tyV K T x H1/\r x [] H1 Q
def tBM(K:Frag)(T:String)(r:V->L9 V->Hp->VK->Prop)(to:TE)(t:TA):TE:=λZ H Q=>to Z H λx H1=>tyV K T x H1/\t Z H1 λxs H2=>r x xs H2 Q
variable{o e:E2}{es:L9 E2}{to:TE}{t:TA}{name:Str}{apos cpos:Pos}{T id:String}{r:V->L9 V->Hp->VK->Prop}
theorem aTA(i:PlainAttrs T)(slot:Slot T name id)(c:typeOf (.builtin id)=pure (.type "method_descriptor"))(f:MtR X id r)(j:PE X o to)
  (a:attributeBase o name X.env (eval o X.env)=eval o X.env:=by rfl) (hline:(apos.endLine == cpos.line)=true:=by rfl):PE X (.Call (.Attribute o name apos) [] [] cpos) (aS9 X.K T r to):=by
 intro ap s Z H Q I h
 refine wpAny_Call_method0_late a hline (thn (j ap s Z H _ I h) λv s1 b=>?_)
 obtain⟨x,H1,d,r1,g,e⟩:=b
 obtain⟨h1,h2⟩:=aHZ d r1 g
 exact⟨T,id,i,slot,c,h1,h2,FE rfl (PySem.evalArgs_none (f ap s1 Z H1 x [] v [] Q d r1 .nil e))⟩
theorem o4(p:PlainAttrs T)(slot:Slot T name id)(b:typeOf (.builtin id)=pure (.type "method_descriptor"))(m:MtR X id r)(l:PE X o to)(j:PA X (e::es) t)
  (a:attributeBase o name X.env (eval o X.env)=eval o X.env:=by rfl)
  (hfew:((backTo cpos (starEach (e::es) X.env)).all (λx=>!x.1) && (backToKw cpos (keywordEach [] X.env)).all (λx=>x.1.isSome)
   && decide ((e::es).length+([]:L9 Keyword).length+(if ([]:L9 Keyword).isEmpty then 0 else 1) < 30))=true:=by rfl)
  (hline:(apos.endLine == cpos.line)=true:=by rfl) (hs:starEach (e::es) X.env=(false,eval e X.env)::starEach es X.env:=by rfl) (hplain:(backTo cpos (starEach es X.env)).any (·.1)=false:=by rfl) :
  PE X (.Call (.Attribute o name apos) (e::es) [] cpos) (tBM X.K T r to t):=by
 intro ap s Z H Q I h
 refine HX a hfew hline rfl (thn (l ap s Z H _ I h) λv s1 c=>?_)
 obtain⟨x,H1,f,r1,k,g⟩:=c
 obtain⟨h1,h2⟩:=aHZ f r1 k
 refine⟨T,id,p,slot,b,h1,h2,?_⟩
 have d:=j cpos ap s1 Z H1 _ f g
 rw[hs]at d ⊢
 refine FE (by show(false || (backTo cpos (starEach es X.env)).any (·.1))=false;rw[hplain]<;>rfl) (Calls.evalArgs_plain ?_)
 exact thn d λus q ⟨vs,H2,i,r2,n⟩=>m ap q Z H2 x vs v us Q i r1 r2 n
end
def MtM(X:Cx)(id:String)(r:V->L9 V->Hp->VK->Prop):Prop:=
 ∀ (ap:L9 (Az×Obj)) (s:S9) (Z:St) (H:Hp) (x:V) (xs:L9 V) (v:V9) (us:L9 V9) (Q:VK),Inv X ap Z H s->aR x v->aZ xs us->r x xs H Q->
  wpAny (model X.prog X.w) X.A (call (.builtin id) (v::us)) (EP X ap Z Q) X.xe s
theorem aZ.one:∀ {x:V} {us:L9 V9},aZ [x] us->∃ u,us=[u]/\aR x u
 | _,_,.cons r .nil=>⟨_,rfl,r⟩
theorem aZ.zero:∀ {us:L9 V9},aZ [] us->us=[]
 | _,.nil=>rfl
theorem aZ.reverse{xs:L9 V}(h:aZ xs us):aZ xs.reverse us.reverse:=by
 induction h with
 | nil=>exact .nil
 | cons r t ih=>rw[EG,EG];exact aZ.append ih (.cons r .nil)
section
variable{X:Cx}{ap:L9 (Az×Obj)}{Z:St}{H:Hp}{s:S9}{l b:Az}{xs ys zs:L9 V}
theorem Inv.lset{a its':L9 V9}{f:Array V9->Array V9}(I:Inv X ap Z H s)(d:H l=some (.lst xs))
  (e:s.heap.get? l=some {cls:=.type "list",data:=.seq a.toArray n}) (hf:f a.toArray=its'.toArray) (hv:aZ ys its') (hz:ys.length<=sizeLine) :
  Inv X ap Z (upd H l (.lst ys)) {s with heap:=s.heap.update l (Obj.mapSeq f),toks:=t'}:=by
 have q:=PySem.IsL.update e f
 rw[hf]at q
 refine I.write (x:=l) (e:=l) (by rw[d];exact trivial) (.inl rfl) (λg u c b=>(B7 s.heap (Obj.mapSeq f) (BF c)).trans b) ⟨_,q⟩ ?_
 exact⟨hz,its',_,hv,q⟩
theorem Inv.lnew{a:L9 V9}{t':Nat}(I:Inv X ap Z H s)(b:aZ ys a)(hz:ys.length<=sizeLine) :
  Inv X ap Z (upd H s.heap.objs.size (.lst ys)) {s with heap:=s.heap.push {cls:=.type "list",data:=.seq a.toArray},toks:=t'}:=
 I.laid (λ_ _ q=>AD _ q) (AK _) ⟨hz,a,0,b,AV _ rfl⟩
theorem Inv.fresh(I:Inv X ap Z H s):H s.heap.objs.size=none:=I.hok.fresh (AK _)
theorem Inv.lstM(I:Inv X ap Z H s)(a:H l=some (.lst xs)):xs.length<=sizeLine/\∃ (its:L9 V9) (n:Nat),aZ xs its/\xs.length=its.length/\s.heap.get? l=some {cls:=.type "list",data:=.seq its.toArray n}:=by
 obtain⟨z,its,n,r,e⟩:=I.hok l _ a
 exact⟨z,its,n,r,r.length,e⟩
end
section
variable{X:Cx}
def aD9:V->L9 V->Hp->VK->Prop:=λx vs H Q=>∃ l xs y,x=.ref l/\vs=[y]/\H l=some (.lst xs)/\xs.length < sizeLine/\Q .non (upd H l (.lst (xs++[y])))
theorem zM:MtM X "list.append" aD9:=by
 intro ap s Z H x vs v us Q I c f h
 obtain⟨l,xs,y,rfl,rfl,b,i,q⟩:=h
 cases c
 obtain⟨u,rfl,d⟩:=f.one
 obtain⟨z,a,n,r,g,e⟩:=I.lstM b
 refine E4 F.slot_list_append ⟨_,e,rfl⟩ F.entry_list_append (F.args_list_append_2 _ _) (PySem.list_append l a.toArray n u (by rw[A6];ext)) ⟨e,?_⟩
 refine⟨.non,_,I.lset (its':=a++[u]) b e (by simp) (r.append (.cons d .nil)) ?_,rfl,q⟩
 rw[AY,BJ]
 ext
def aA8:V->L9 V->Hp->VK->Prop:=λx vs H Q=>∃ l xs,x=.ref l/\vs=[]/\H l=some (.lst xs)/\Q .non (upd H l (.lst xs.reverse))
theorem aF7:MtM X "list.reverse" aA8:=by
 intro ap s Z H x vs v us Q I d f h
 obtain⟨l,xs,rfl,rfl,c,q⟩:=h
 cases d
 have b:=f.zero
 subst b
 obtain⟨z,a,n,r,g,e⟩:=I.lstM c
 refine E4 F.slot_list_reverse ⟨_,e,rfl⟩ F.entry_list_reverse (F.args_list_reverse_1 _) (AutoSeq1.list_reverse_list_0 l a.toArray n (by rw[A6];ext)) ⟨e,?_⟩
 refine⟨.non,_,I.lset (its':=a.reverse) c e (by simp) r.reverse ?_,rfl,q⟩
 rw[List.length_reverse]
 ext
theorem aO5(xs:L9 α)(k:Nat):(replicate k xs).flatten.length=k * xs.length:=by
 induction k with
 | zero=>simp
 | succ k ih=>rw[CK,DD,AY,ih,Nat.succ_mul,EY]
end
end L2
variable{q:P9}
namespace Att
open PySem.W PySem.Calls
theorem v8{P:Params}{h:Hz}:∀ (ns:L9 Int) (vs:L9 V9),WellAll P h vs (ns.map WData.int)->IntsAre vs ns:=by
 intro ns
 induction ns with
 | nil=>
  intro vs w
  rw[BS]at w
  cases w
  exact .nil
 | cons n ns ih=>
  intro vs w
  rw[AU]at w
  cases w with
  | cons a b=>
   cases a
   exact .cons _ _ (ih _ b)
theorem aH0{l:OpenLaw}(p:l.most=some n){P:Params}{h:Hz}{args:L9 WData}{c:L9 V9}
  (b:l.row.toRowW.claim.pre args=true) (j:WellAll P h c args) :
  ∃ a vs ns,c=[Value.ref a]/\args=[WData.list (ns.map WData.int)]/\h.get? a=some {cls:=.type "list",data:=.seq vs.toArray}/\IntsAre vs ns/\ns.length<=n:=by
 have i:WShape.hasAll [] args [.list .int]=true:=(pre_splitW b).1
 have k:l.pre.holds [] {args:=args}=true:=(pre_splitW b).2
 obtain⟨d,r,rfl,h1,h2⟩:=hasAllW_cons i
 obtain rfl:=hasAllW_nil h2
 obtain⟨xs,rfl,o⟩:=hasW_list h1
 obtain⟨ns,rfl⟩:=items_int o
 have e:ns.length<=n:=by
  unfold OpenLaw.pre at k
  have g:(WTm.not (.lt (.lit (.int (n:Int))) (.len (.arg 0)))).holds [] {args:=[.list (ns.map .int)]}=true:=by
   have g:=(holds_andW k).1
   rw[p]at g
   exact g
  have f:=condW_of g (w_not (w_lt w_lit (w_len_list (w_arg rfl))))
  rw[AB]at f
  refine Nat.le_of_not_lt λq=>?_
  have m:(n:Int) < ((ns.length:Nat):Int):=by ext
  first
   | (rw[A1 m]at f;exact absurd f (by decide))
   | (simp at f;ext)
 cases j with
 | cons w1 w2=>
  cases w2
  cases w1 with
  | list ho hall=>exact⟨_,_,ns,rfl,rfl,ho,v8 ns _ hall,e⟩
theorem aH1(l:OpenLaw)(args:L9 WData):l.row.toRowW.claim.post args (.bool true) args=true:=
 postW_of (r:=l.row.toRowW) (X:=(true == true))
  (show WShape.has [] (.bool true) .bool=true by first|rfl|decide|simp[WShape.has,WShape.arms,WShape.armsAll])
  (show(WTm.eq .res (.lit (.bool true))).value [] {args:=args,res:=some (.bool true),after:=args}=some (.bool (true == true))from w_eq_bool (w_res rfl) w_lit) rfl
theorem attach_call{l:OpenLaw}{b:L9 Str}{t:(Str->O9 V9)->Hz->Prop}{s:W9->Hz->Prop}{d:DefRec}
  (I:l.most=some n) (j:d.params.defaults=[])
  (call:∀ (w:W9) (s₀ s₁:S9) (mg mb:Str->O9 V9) (fa:Az) (o:Obj) (pm cd doc:V9) (a:Az) (vs:L9 V9) (ns:L9 Int),
   Ground q b [] t w s₀ mg mb s₁.heap->s w s₁.heap->
   s₁.heap.get? fa=some o->o.data=.func (docDef d.name d.params d.body d.scope pm cd doc)->s₁.heap.CodeRec cd d.name->mg d.name=some (.ref fa)->
   s₁.heap.get? a=some {cls:=.type "list",data:=.seq vs.toArray}->IntsAre vs ns->ns.length<=n->s₁.gens = #[]->
   codeAny (model l.prog w) callerA (.call (.ref fa) ⟨[.ref a],[]⟩) (λr s'=>r=.ok (.ret (.bool true))/\OldK s₁.heap s'.heap/\s'.os=s₁.os/\AllBare s'.gens) s₁) :
  WalkO q b t s l.row.toRowW d [] (λf vs=>PySem.call f vs):=by
 intro w s₀ s₁ mg mb G Yq fa o pm cd doc B kV y A k p m H args v J g u D i x
 obtain rfl:B=.none:=Dflts.none p j
 obtain rfl:kV=.none:=Dflts.noKw p
 obtain⟨a,vs,ns,rfl,rfl,e,c,h⟩:=aH0 I g i
 refine enter_call (FT (call w s₀ s₁ mg mb fa o pm cd doc a vs ns G Yq y (fd_plain A) k m e c h H) λr s' C=>?_)
 obtain⟨rfl,h2,E,F⟩:=C
 exact⟨.inl ⟨.bool true,.bool true,[],rfl,λ_=>rfl,.bool true,aH1 l _,λ_=>⟨List.Pairwise.nil,λ_ z=>(nomatch z)⟩⟩,h2,E,F⟩
section
variable{prog:P9}{w:W9}{A:U9}{E:V9->S9->Prop}{s:S9}{K:Frag}
end
end Att
variable{st:Stmt}{outer:Str->O9 NameKind}{l:Az}{env:Env}{js:L9 (O9 Nat)}{elt:E2}{ifs:L9 E2}{prog:P9}{cl:L9 (Str×Az)}
namespace L2
variable{H:Hp}
theorem zN:∀ {vs:L9 V9} {ns:L9 Int},IntsAre vs ns->aZ (ns.map V.int) vs
 | _,_,.nil=>.nil
 | _,_,.cons n t h=>.cons ⟨t,rfl⟩ (zN h)
abbrev KOf{h:Hz}(_:K.In h):Frag:=K
noncomputable def fX(s:Stmt):Arguments:=match s with
 | .FunctionDef _ a _ _ _ _ _ _ _ _=>a
 | _=>{posonlyargs:=[],args:=[],vararg:=none,kwonlyargs:=[],kw_defaults:=[],kwarg:=none,defaults:=[]}
noncomputable def bF(s:Stmt):L9 Stmt:=match s with
 | .FunctionDef _ _ b _ _ _ _ _ _ _=>b
 | _=>[]
noncomputable def aI(s:Stmt):Scope:=match s with
 | .FunctionDef _ _ _ _ _ _ sc _ _ _=>sc
 | _=>{kind:=.function,names:=[],isGenerator:=false,isCoroutine:=false}
abbrev CX0:CXT:=λ_ _ _ _ _ _=>False
abbrev E0:XK:=λ_ _ _=>False
structure Fun(K:Frag)(x qual:Str)(st:Stmt)(f:Az)(fd:FuncData):Prop where
 ex:∃ (oc:V9) (od:Option Az) (kV doc pm:V9) (an:Option Az) (cdv ct:V9) (osl:Array (Option V9)),
  fd=fnOf x qual (fX st) (bF st) (aI st) .none kV doc pm an cdv ct/\K.lookup f=some ⟨oc,od,.func fd,osl⟩/\codeIn K cdv qual=true
 kp:keepIn K (.ref f)=true
section
variable{P:P9}{w:W9}{K:Frag}{mg:Str->O9 V9}{base:Hz}
theorem Fun.ok{fd:FuncData}{ps:L9 Str}{sp:Sp}(F:Fun K x qual st f fd)(S:FnScope N ps (aI st))(len:∀ vs H Q E,sp vs H Q E->vs.length=ps.length)
  (a:∀ (cdv:V9) (A:U9) (outer:L9 Env) (s:S9) (H:Hp) (vs:L9 V) (Q:VK) (E:XK),Room k (A.deeper (envOfC qual (aI st) s.heap.objs.size f cdv))->sp vs H Q E->
   ∃ t,PSs (iX CX0 P w K mg base N qual (aI st) f cdv A outer s H E).nox (bF st) t/\t {nx:=λ_ H'=>Q .non H',rt:=Q} (start N vs) H):FnOk P w K mg base CX0 (k+1) f fd ps sp:=by
 obtain⟨i,od,kV,doc,pm,g,cdv,ct,d,rfl,e,b⟩:=F.ex
 refine aF4 e b S len λA outer s H vs Q E hr c=>?_
 obtain⟨t,h,q⟩:=a cdv A outer s H vs Q E hr c
 exact⟨t,h.nox,q⟩
theorem Fun.binds{fd:FuncData}{ps:L9 Str}(F:Fun K x qual st f fd)
  (h:∀ (kV doc pm:V9) (an:O9 Az) (cdv ct:V9) (us:L9 V9),us.length=ps.length->bindArgs (fnOf x qual (fX st) (bF st) (aI st) .none kV doc pm an cdv ct) ⟨us,[]⟩=pure (ps.zip us)):jX K fd ps []:=by
 obtain⟨c,od,kV,doc,pm,an,cdv,ct,a,rfl,d,b⟩:=F.ex
 exact .all (h kV doc pm an cdv ct)
theorem aH2{st:Stmt}{e:V9}{d:O9 Az}{b:Array (O9 V9)}{kV a:V9}(l:K.lookup f=some ⟨e,od,.func (fnOf x qual (fX st) (bF st) (aI st) .none kV doc pm d a ct),b⟩)
 (c:codeIn K a qual=true) (k:keepIn K (.ref f)=true):Fun K x qual st f (fnOf x qual (fX st) (bF st) (aI st) .none kV doc pm d a ct):=⟨⟨e,od,kV,doc,pm,d,a,ct,b,rfl,l,c⟩,k⟩
end
section
variable{X:Cx}
theorem pv(i:Nat){pos:Pos}(hN:X.N[i]? = some x:=by rfl)(hv:Vis X.env.scope x:=by first|exact Or.inl rfl|exact Or.inr (Or.inl rfl)|exact Or.inr (Or.inr rfl))(hd:(x == ("__debug__":Str))=false:=by decide)
 (hcd:(x == ("__classdict__":Str))=false:=by decide):PE X (.Name x pos) (iW i):=aSH hN hv hd hcd
end
theorem xT{A B:Prop}(h:B):if false=true then A else B:=by
 rw[AL BR]
 exact h
theorem xU{A B:Prop}(h:A):if true=true then A else B:=by
 rw[AN rfl]
 exact h
def aC(H H':Hp):Prop:=∀ b o,H b=some o->H' b=some o
theorem aC.trans{H1 H2:Hp}(a:aC H H1)(b:aC H1 H2):aC H H2:=λc o h=>b c o (a c o h)
theorem aC.free{H':Hp}(e:aC H H')(h:H' l=Option.none):H l=Option.none:=by
 cases q:H l with
 | none=>rfl
 | some o=>
  rw[e l o q]at h
  cases h
theorem aC.seq{H':Hp}{xs:L9 V}(e:aC H H')(h:SqL K H a xs):SqL K H' a xs:=by
 rcases h with (h|⟨o,h⟩)|h
 · exact .inl (.inl (e _ _ h))
 · exact .inl (.inr ⟨o, e _ _ h⟩)
 · exact .inr h
theorem aF8:∀ (names:L9 (Str×NameKind)) (cb:L9 (Str×Az)),(∀ x∈names,x.2=.free->∃ c,env.cells.lookup x.1=some c)->
  (∀ x c,cb.lookup x=some c->env.cells.lookup x=some c)->
  ∃ cl,(forIn names cb λx r=>(if (x.2 == NameKind.free)=true then(do let a <-cellOf env x.1;pure (ForInStep.yield ((x.1,a)::r)))else pure (ForInStep.yield r)):Sem (L9 (Str×Az)))=pure cl /\
   (∀ x c,cl.lookup x=some c->env.cells.lookup x=some c)/\(∀ x∈names,x.2=.free->∃ c,cl.lookup x.1=some c)/\∀ x c,cb.lookup x=some c->∃ c',cl.lookup x=some c':=by
 intro names
 induction names with
 | nil=>intro cb _ h;exact⟨cb,rfl,h,λx j=>absurd j (by simp),λx c e=>⟨c,e⟩⟩
 | cons x r ih=>
  intro cb g h
  obtain⟨n,k⟩:=x
  by_cases l:k=.free
  .subst l
   obtain⟨c,b⟩:=g (n,.free) AX rfl
   have b:env.cells.lookup n=some c:=b
   obtain⟨cl,e1,e2,o,m⟩:=ih ((n,c)::cb) (λy f=>g y (AQ _ f)) (λy d e=>by
    rw[CI]at e
    cases q:y == n with
    | true=>rw[q]at e;cases e;have:=HP q;subst this;exact b
    | false=>rw[q]at e;exact h y d e)
   refine⟨cl,?_,e2,λy f i=>?_,λy d e=>?_⟩
   .rw[EB]
    simp only[EJ,DJ]
    unfold cellOf
    simp only[b,pure_bind]
    exact e1
   .rcases AW.mp f with z|z
    · simp_all
    · simp[*]
   .by_cases q:y=n
    · simp_all
    · exact m y d (by rw [CI, DR q]; exact e)
  .simp_all
theorem v9{env:Env}{scope:Scope}(a:∀ x∈scope.names,x.2=.free->∃ c,env.cells.lookup x.1=some c) :
  ∃ cl,closureFor scope env=pure cl/\(∀ x c,cl.lookup x=some c->env.cells.lookup x=some c)/\∀ x∈scope.names,x.2=.free->∃ c,cl.lookup x.1=some c:=by
 obtain⟨cl,e1,e2,b,_⟩:=aF8 scope.names [] a (λx c e=>by simp at e)
 refine⟨cl,?_,e2,b⟩
 unfold closureFor
 simp_all
theorem fY{env:Env}:∀ {names:L9 (Str×NameKind)} {x:Str} {k:NameKind},
  (names.map λ(n,k)=>if (k == NameKind.free && env.scope.kind == .function && env.kindOf n == some .cell)then(n,NameKind.cell)else(n,k)).lookup x=some k->
  k=.cell\/k=.free->(∀ y∈names,y.2≠.cell)->(x,NameKind.free)∈names
 | [],_,_,h,_,_=>by simp at h
 | (n,k0)::r,x,k,h,hk,hc=>by
  have ih:=@fY env r x k
  ext
noncomputable def dZ(X:Cx)(N:L9 Str)(scope:Scope)(cl:L9 (Str×Az))(C:Az)(s:S9)(H:Hp)(fp:L9 Az):Cx where
 prog:=X.prog
 w:=X.w
 K:=X.K
 mg:=X.mg
 base:=X.base
 A:=X.A
 N:=N
 s₀:=s
 H₀:=H
 env:=compEnvC scope cl C X.env
 outer:=X.stack
 stack:=X.stack
 ex:=fp
 calm:=X.calm
 fn:=λ_=>false
 pn:=[]
 xe:=λ_ _=>False
inductive Caps(X:Cx)(scope:Scope):List Str->List (Option Nat)->Prop
 | nil:Caps X scope [] []
 | own {x:Str} {N:List Str} {js:List (Option Nat)} (t:Caps X scope N js):Caps X scope (x::N) (none::js)
 | cap {x:Str} {j:Nat} {N:List Str} {js:List (Option Nat)} (h1:X.N[j]? = some x) (h2:X.env.kindOf x=some .cell\/X.env.kindOf x=some .free)
  (h3:(relabel scope X.env).names.lookup x=some .cell\/(relabel scope X.env).names.lookup x=some .free) (t:Caps X scope N js):Caps X scope (x::N) (some j::js)
theorem Caps.len{X:Cx}(c:Caps X scope N js):js.length=N.length:=by
 induction c with
 | nil=>rfl
 | own _ ih=>simp[ih]
 | cap _ _ _ _ ih=>simp[ih]
theorem Caps.get{X:Cx}{scope:Scope}{N:L9 Str}{js:L9 (O9 Nat)}(c:Caps X scope N js):∀ {i j:Nat} {x:Str},js[i]? = some (some j)->N[i]? = some x->
  X.N[j]? = some x/\(X.env.kindOf x=some .cell\/X.env.kindOf x=some .free)/\((relabel scope X.env).names.lookup x=some .cell\/(relabel scope X.env).names.lookup x=some .free):=by
 induction c with
 | nil=>intro i j x h;simp at h
 | own _ ih=>
  intro i j x h1 h2
  cases i with
  | zero=>simp at h1
  | succ i=>exact ih (by simpa using h1) (by simpa using h2)
 | cap a b d _ ih=>
  intro i j x h1 h2
  cases i with
  | zero=>
   simp at h1 h2
   subst h1 h2
   exact⟨a,b,d⟩
  | succ i=>exact ih (by simpa using h1) (by simpa using h2)
noncomputable def kE(js:L9 (O9 Nat))(Z:St):St:=js.map λo=>o.bind λj=>(Z[j]?).join
def cV(Z Z':St):Prop:=Z'.length=Z.length/\∀ (i:Nat) v,Z[i]? = some (some v)->Z'[i]? = some (some v)
theorem cV.refl(Z:St):cV Z Z:=⟨rfl,λ_ _ h=>h⟩
theorem cV.trans{a b c:St}(h:cV a b)(k:cV b c):cV a c:=⟨k.1.trans h.1,λi v e=>k.2 i v (h.2 i v e)⟩
section
variable{X:Cx}
def PIf(X:Cx)(ifs:L9 E2)(t:TT):Prop:=
 ∀ (ap:L9 (Az×Obj)) (s:S9) (Z:St) (H:Hp) (Q:Bool->Hp->Prop),Inv X ap Z H s->t Z H Q->
  wpAny (model X.prog X.w) X.A (forIn ifs true λc r=>if r=true then do let ok <-isTrue c X.env (eval c X.env);pure (ForInStep.yield ok)else pure (ForInStep.yield r)) (TP X ap Z Q) X.xe s
def aX6:TT:=λ_ H Q=>Q true H
theorem xV:PIf X [] aX6:=by
 intro ap s Z H Q I h
 show wpAny _ _ (pure true) _ _ s
 exact AE ⟨H,I,h⟩
end
def xW(X:Cx)(N:L9 Str)(scope:Scope)(js:L9 (O9 Nat))(tg elt:E2)(ifs:L9 E2)(Z:St)(x:V)(H:Hp)(R:O9 V->Hp->Prop):Prop:=
 ∀ (cl:L9 (Str×Az)) (C:Az) (s:S9) (H0:Hp) (fp:L9 Az),∃ (g:TG) (tt:TT) (te:TE),PG (dZ X N scope cl C s H0 fp) tg g/\PIf (dZ X N scope cl C s H0 fp) ifs tt/\PE (dZ X N scope cl C s H0 fp) elt te /\
  ∀ Z0,cV (kE js Z) Z0->g x Z0 H λZ2 H2=>cV (kE js Z) Z2/\tt Z2 H2 λb H3=>if b=true then te Z2 H3 λy H4=>R (some y) H4 else R none H3
def compK(X:Cx)(N:L9 Str)(scope:Scope)(js:L9 (O9 Nat))(tg elt:E2)(ifs:L9 E2)(Z:St)(Q:VK)(J:It)(H1:Hp):Prop:=∃ (n:Nat) (W:Nat->L9 V->Hp->Prop),n<=sizeLine/\W 0 [] H1 /\
 ∀ i ys H,W i ys H->ys.length<=i/\((J.stop i H/\∀ p,H p=none->Q (.ref p) (upd H p (.lst ys)))\/(J.go i H/\i < n/\∃ R:O9 V->Hp->Prop,(∀ y H2,R (some y) H2->W (i+1) (ys++[y]) H2)/\(∀ H2,R none H2->W (i+1) ys H2) /\
  ∀ x H',J.yld i H x H'->xW X N scope js tg elt ifs Z x H' R))
def wA(X:Cx)(N:L9 Str)(scope:Scope)(js:L9 (O9 Nat))(tg elt:E2)(ifs:L9 E2)(wi:TI):TE:=λZ H Q=>wi Z H (compK X N scope js tg elt ifs Z Q)
section
variable{prog:P9}{w:W9}{A:U9}{R:Result->S9->Prop}{s:S9}
theorem aA9{a b:E2}{pos:Pos}{it g:V9}(I:Nat->S9->Prop)
  (l:∀ n s,I n s->wpAny (model prog w) A (pyNext it) (λr s1=>match r with
   | none=>R (.ok .next) s1
   | some v=>wpAny (model prog w) A (letOwnedTupleGo a it v) (λ_ s1'=>wpAny (model prog w) A (assign a env v) (λ_ s2=>
    wpAny (model prog w) A (forIn ifs true λc r=>if r=true then do let ok <-isTrue c env (eval c env);pure (ForInStep.yield ok)else pure (ForInStep.yield r)) (λok s3=>
     if ok=true then wpAny (model prog w) A (eval elt env) (λx s4=>
      wpAny (model prog w) A (call (.builtin "list.append") [g,x]) (λ_ s5=>∃ m,m < n/\I m s5) (λ_ _=>False) s4) (λ_ _=>False) s3
     else ∃ m,m < n/\I m s3) (λ_ _=>False) s2) (λ_ _=>False) s1') (λ_ _=>False) s1) (λ_ _=>False) s)
  (n:Nat) (h:I n s) :
  codeAny (model prog w) A (.compLoop (.ListComp elt [⟨a,b,ifs,0⟩] scope pos) 0 it g env) R s:=by
 refine codeAny_loop rfl I (λn s C=>?_) n h
 show wpAny _ A ((compTurn (.ListComp elt [⟨a,b,ifs,0⟩] scope pos) 0 it g env).onRaise (λx=>do noteFrame x env;theTreesLotGoes x)) _ _ s
 refine wpAny_noted ?_
 rw[compTurn_list]
 have D:∀ {α:Type} {t:Sem α} {Q:α->S9->Prop} {E':V9->S9->Prop} {s:S9},wpAny (model prog w) A t Q (λ_ _=>False) s->wpAny (model prog w) A t Q E' s:=λh=>BZ h (λ_ _ q=>q) λ_ _ f=>f.elim
 refine AA (GU (AA (BZ (l n s C) (λr y d=>?_) λ_ _ h'=>h'.elim)))
 cases r with
 | none=>exact AE d
 | some v=>
  refine AA (BZ d (λ_ s1' o=>?_) λ_ _ f=>f.elim)
  refine AA (BZ o (λ_ B k=>AA (BZ k (λok z e=>?_) λ_ _ h'=>h'.elim)) λ_ _ h'=>h'.elim)
  cases ok with
  | false=>exact AE ⟨rfl,e⟩
  | true=>
   exact AA (AA (BZ e (λx u j=>AA (BZ j (λ_ p i=>AE (AE ⟨rfl,i⟩)) λ_ _ h'=>h'.elim)) λ_ _ h'=>h'.elim))
end
theorem HOk.track{w:W9}{h:Hz}{o:HO}(x:HOk P w H h)(d:H a=none)(new:bS P w (upd H a o) h a o):HOk P w (upd H a o) h:=λb u e=>by
 by_cases f:b=a
 .subst f;rw[aL]at e;cases e;exact new
 .rw[aE f]at e
  exact(x b u e).stay (λc v _ q=>q) (λc q=>by rw[aE (a6 q d)];exact q) (λc xs q=>by rw[aE (a6 q d)];exact q) λc xs q=>by rw[aE (a6 q d)];exact q
section
variable{X:Cx}{ap:L9 (Az×Obj)}{Z:St}
structure CompEnd(X:Cx)(ap:List (Az×Obj))(Z:St)(D C:Az)(ys:List V)(H':Hp)(s':S9):Prop where
 inv:Inv X ap Z (upd H' D (.lst ys)) s'
 ns:∃ m,s'.heap.Ns C m
 fp:gI X ap (upd H' D (.lst ys)) C
 nD:H' D=none
theorem CompEnd.gone{D C:Az}{ys:L9 V}{H':Hp}{a:Hz}{c:St}(I:Inv X ap c H s')(fp:gI X ap H C)(f:Heap.SameBut C s'.heap a):Inv X ap c H {s' with heap:=a}:=
 I.turned (it:=C) (t':=s'.toks) (λb o d e=>(f.2 b d).trans e) fp.1 fp.2.1 fp.2.2.2.1 fp.2.2.2.2.1 fp.2.2.2.2.2
theorem aBA{w:W9}{A:U9}{a:Nat}{x:V9}(e:s.heap.get? l=some {cls:=.type "list",dict:=none,data:=.seq items a})(hz:items.size<=sizeLine)
  (hQ:∀ nn' h',h'.get? l=some {cls:=.type "list",dict:=none,data:=.seq (items.push x) nn'}->Heap.SameBut l s.heap h'->Q .none {s with heap:=h'}) :
  wpAny (model prog w) A (call (.builtin "list.append") [.ref l,x]) Q E s:=by
 refine E4 F.slot_list_append ⟨_,e,rfl⟩ F.entry_list_append (F.args_list_append_2 _ _) (PySem.list_append l items a x (by ext)) ⟨e,?_⟩
 exact hQ _ _ (BK _ e rfl) (BU ..)
theorem wC{ac:E2}{pos:Pos}{tn:Nat->Hz->Prop}{J:It}{B:S9}{H2:Hp}
  {RR:V9->Az->Result->S9->Prop} {Q:VK} (hc:X.calm=true) (aa:Caps X scope N js) (O:scope.kind=.function) (t:∀ y∈scope.names,y.2≠.cell)
  (f:∀ x c,cl.lookup x=some c->X.env.cells.lookup x=some c) (ag:∀ x∈scope.names,x.2=.free->∃ c,cl.lookup x.1=some c)
  (I:Inv X ap Z H2 B) (T:Turn X.prog X.w X.K tg J fp it tn) (st2:tn 0 B.heap) (f2:∀ b∈fp,gI X ap H2 b) (n:Nat) (W:Nat->L9 V->Hp->Prop) (hn:n<=sizeLine) (w0:W 0 [] H2)
  (ay:∀ i ys H,W i ys H->ys.length<=i/\((J.stop i H/\∀ p,H p=none->Q (.ref p) (upd H p (.lst ys)))\/(J.go i H/\i < n/\∃ R:O9 V->Hp->Prop,(∀ y H2,R (some y) H2->W (i+1) (ys++[y]) H2)/\(∀ H2,R none H2->W (i+1) ys H2) /\
   ∀ x H',J.yld i H x H'->xW X N scope js tg elt ifs Z x H' R)))
  (bp:∀ D C ys H' s',CompEnd X ap Z D C ys H' s'->Q (.ref D) (upd H' D (.lst ys))->RR (.ref D) C (.ok .next) s') :
  wpAny (model X.prog X.w) X.A (newList []) (λcb s3=>wpAny (model X.prog X.w) X.A (newFunctionEnv scope X.env.globals cl [] X.env.qual none .none (some X.env)) (λcenv s4=>
   codeAny (model X.prog X.w) X.A (.compStart (.ListComp elt [⟨tg,ac,ifs,0⟩] scope pos) 0 (.ref it) cb {cenv with scope:=relabel scope X.env}) (RR cb cenv.locals) s4) E s3) E B:=by
 refine B4 (wpAny_newFunctionEnv t (by intro y hy;simp at hy) (λG F h=>?_) O)
 dsimp only at F h ⊢
 generalize ai:B.heap.push {cls:=.type "list",dict:=none,data:=.seq ([]:L9 V9).toArray}=Hh at F h ⊢
 have hC:Hh.objs.size=B.heap.objs.size+1:=by rw[<-ai,BM]
 have Y:B.heap.objs.size≠Hh.objs.size:=by rw[hC];exact A3 (D3 _)
 have M:B.heap.objs.size<=Hh.objs.size:=by rw[hC];exact GI _
 have S:∀ b o,B.heap.get? b=some o->G.get? b=some o:=λb o e=>h.extBut b o (by rw[hC];exact A3 (GZ (AS e))) (AD _ (ai▸AD _ e))
 have ah:G.get? B.heap.objs.size=some {cls:=.type "list",dict:=none,data:=.seq ([]:L9 V9).toArray}:=h.extBut _ _ Y (AD _ (ai▸AV _ rfl))
 have bc:tn 0 G:=T.keep _ _ _ st2 λb a o e=>S b o e
 have ae:∀ b∈fp,b < B.heap.objs.size:=λb a=>by
  obtain⟨o,e,_⟩:=T.obj _ _ st2 b a
  exact AS e
 have bd:∀ b∈frs X.stack,b < B.heap.objs.size:=λb a=>by
  rcases AW.mp (I.stkSub b a)with z|z
  .rw[z];exact I.lt
  .refine Nat.lt_of_not_le λbu=>I.nofs bu z
 have ba:∀ b∈fp,b≠Hh.objs.size:=λb a z=>BW _ (A0 (ae b a) (z▸M))
 generalize hD:B.heap.objs.size=D at *
 generalize ca:Hh.objs.size=C at *
 let X':=dZ X N scope cl C B H2 fp
 have bf:X'.Ok:=by
  refine⟨I.ok.mod,O,I.ok.glob,I.ok.blt,by show B.heap.objs.size<=C;rw[hD];exact M,λx y c e1 e2=>I.ok.inj x y c (f x c e1) (f y c e2),λx hx=>?_,λx c z=>absurd (show false=true from z) BR,I.ok.hd,I.ok.frames,.inl rfl,λb a=>?_,
   I.bs,A2 I.ok.bsz I.sz,λb o e a=>?_,λb a z=>?_,I.stack,I.stkFree⟩
  .have hm:(x,NameKind.free)∈scope.names:=by
    rcases hx with z|z
    .exact fY (env:=X.env) z (.inl rfl) t
    .exact fY (env:=X.env) z (.inr rfl) t
   exact ag _ hm rfl
  .exact ⟨ba b a,λx c e=>(f2 b a).2.2.2.2.1 x c (f x c e)⟩
  .rcases (f2 b a).2.2.2.1 with z|z
   .exact I.ok.noex b o e z
   .exact absurd (AS (I.ok.bs b o e).1) (G3.mpr z)
  .rcases AW.mp (I.stkSub b z)with q|q
   .exact (f2 b a).2.1 q
   .exact (f2 b a).2.2.1 q
 have av:(kE js Z).length=N.length:=by unfold kE;rw[AB,aa.len]
 have freeC:H2 C=none:=I.hok.fresh (by rw[hD];exact M)
 have P:H2 D=none:=I.hok.fresh (by rw[hD];exact AK _)
 have DnotFs:D∉frs X.stack:=λz=>BW _ (bd D z)
 have DnotFp:D∉fp:=λz=>BW _ (ae D z)
 have I0:∀ tk,Inv X' [] (kE js Z) H2 {B with heap:=G,toks:=tk}:=λtk=>by
  refine⟨bf,rfl,I.bare,Un.kept S,⟨_,F,λi x v e1 e2 e3=>?_⟩,λx c e=>?_,freeC,λx c e=>I.freeC x c (f x c e),λp L=>absurd L (by show ¬ p∈([]++[]:L9 (Az×Obj));simp),I.hok.kept S,av⟩
  .unfold kE at e2
   rw[AC]at e2
   cases q:js[i]? with
   | none=>rw[q]at e2;cases e2
   | some o=>
    rw[q]at e2
    cases o with
    | none=>cases e2
    | some j=>
     have U:(Z[j]?).join=some v:=BL e2
     obtain⟨c1,c2,c3⟩:=aa.get q e1
     have e4:Z[j]? = some (some v):=by
      cases z:Z[j]? with
      | none=>rw[z]at U;cases U
      | some u=>rw[z]at U;have:u=some v:=U;rw[this]
     obtain⟨m,hm,hl⟩:=I.loc
     have bn:Vis X.env.scope x:=by
      rcases c2 with z|z
      · exact .inr (.inl z)
      · exact .inr (.inr z)
     obtain⟨u,r,l⟩:=hl j x v c1 e4 bn
     refine⟨u,r,.inr ⟨c3,?_⟩⟩
     have lc:∃ c,X.env.cells.lookup x=some c/\B.heap.IsCell c (some u):=by
      rcases l with ⟨k,_⟩|⟨_,z⟩
      · rcases c2 with z | z <;> (rw [k]at z; cases z)
      · exact z
     obtain⟨c,e5,o,ho,hd⟩:=lc
     have bq:(x,NameKind.free)∈scope.names:=by
      rcases c3 with z|z
      · exact fY (env := X.env) z (.inl rfl) t
      · exact fY (env := X.env) z (.inr rfl) t
     obtain⟨c',e6⟩:=ag _ bq rfl
     have e7:=f _ _ e6
     rw[e5]at e7;cases e7
     exact⟨c,e6,o,S c o ho,hd⟩
  .obtain ⟨v,o,ho,hd⟩:=I.cell x c (f x c e)
   exact⟨v,o,S c o ho,hd⟩
 have af:∀ {H':Hp} {pl:L9 (Az×Obj)},(∀ b∈fp,H' b=none)->(∀ b∈fp,∀ p∈pl,p.1≠b)->∀ b∈fp,gI X' pl H' b:=λ{H' pl} hn hpl b a=>by
  refine⟨hn b a,ba b a,bf.exfs b a,.inl a,λx c e=>(f2 b a).2.2.2.2.1 x c (f x c e),λp L=>hpl b a p ?_⟩
  have bo:p∈[]++pl:=L
  simpa using bo
 let LI:Nat->S9->Prop:=λk s'=>∃ i ys its nn Z' H',k=n+1 - i/\i<=n/\W i ys H'/\tn i s'.heap/\(∀ b∈fp,H' b=none)/\aZ ys its/\cV (kE js Z) Z' /\
  Inv X' [(D,{cls:=.type "list",dict:=none,data:=.seq its.toArray nn})] Z' H' s'
 have ad:∀ tk,codeAny (model X.prog X.w) X.A (.compLoop (.ListComp elt [⟨tg,ac,ifs,0⟩] scope pos) 0 (.ref it) (.ref D) (compEnvC scope cl C X.env)) (RR (.ref D) C) {B with heap:=G,toks:=tk}:=by
  intro tk
  refine aA9 LI ?_ (n+1) ⟨0,[],[],0,kE js Z,H2,rfl,B8 _,w0,bc,λb a=>(f2 b a).1,.nil,cV.refl _,?_⟩
  .rintro k s3 ⟨i,ys,its,nn,Z3,H3,rfl,hin,w3,st3,fr3,r3,ks,I3⟩
   obtain⟨au,tr⟩:=ay i ys H3 w3
   have ao:=af (pl:=[(D,{cls:=.type "list",dict:=none,data:=.seq its.toArray nn})]) fr3 (λb a p L z=>by
    rw[AM.mp L]at z
    exact DnotFp ((show D=b from z)▸a))
   rcases tr with ⟨stop,q⟩|⟨go,ax,RW,bj,bi,step⟩
   .refine thn (T.done X' rfl rfl rfl hc i _ s3 Z3 H3 _ I3 ao st3 stop) λr s4 s=>?_
    obtain⟨hr,I4⟩:=s
    subst hr
    show RR (.ref D) C (.ok .next) s4
    obtain⟨pe,pn,p1,p2,p3⟩:=I4.pin (D,{cls:=.type "list",dict:=none,data:=.seq its.toArray nn}) (by show _∈[]++_;simp)
    refine bp D C ys H3 s4 ?_ (q D pn)
    have az:HOk X.prog X.w (upd H3 D (.lst ys)) s4.heap:=HOk.track I4.hok pn ⟨A2 au (A2 hin hn),its,nn,r3,pe⟩
    have ak:∀ b u,H2 b=some u->b≠D:=λb u e z=>by rw[z,P]at e;cases e
    have br:Un (frs X.stack) fp H2 (upd H3 D (.lst ys)) B.heap s4.heap:=by
     have ub:=I4.base
     refine⟨ub.keep,ub.slot,λb o e aj hx=>?_,ub.there,λb xs e=>?_,λb o u e=>?_,λb ps e=>?_⟩
     .rw[aE (λz=>by have:=AS e;rw[hD,z]at this;exact BW _ this)]
      exact ub.free b o e aj hx
     .rw[aE (ak b _ e)];exact ub.tups b xs e
     .rw[aE (ak b _ e)];exact ub.frzs b o u e
     .rw[aE (ak b _ e)];exact ub.tbls b ps e
    refine⟨I.call' I4.os br az I4.bare λb a=>⟨(f2 b a).2.2.2.1,(f2 b a).2.1,(f2 b a).2.2.2.2.1,(f2 b a).2.2.2.2.2⟩,?_,?_,pn⟩
    .obtain ⟨m,hm,_⟩:=I4.loc
     exact⟨m,hm⟩
    .refine I.fpOk (by rw[hD];exact M) ?_
     rw[aE (BF Y)]
     exact I4.free
   .refine thn (T.item X' rfl rfl rfl hc i _ s3 Z3 H3 _ I3 ao st3 go) λr s4 s=>?_
    obtain⟨u,hr,h4⟩:=s
    subst hr
    show wpAny _ _ (letOwnedTupleGo tg (.ref it) u) _ _ s4
    refine thn h4 λ_ s5 s=>?_
    obtain⟨x,H5,I5,r5,y5,am,bv⟩:=s
    obtain⟨g,tt,te,hg,ht,he,hq⟩:=step x H5 y5 cl C B H2 fp
    have be:=af (pl:=[(D,{cls:=.type "list",dict:=none,data:=.seq its.toArray nn})]) bv (λb a p L z=>by
     rw[AM.mp L]at z
     exact DnotFp ((show D=b from z)▸a))
    have bw:=I5.pinned be (T.obj _ _ am)
    refine thn (hg _ s5 Z3 H5 x u _ bw r5 (hq Z3 ks)) λ_ s6 s=>?_
    obtain⟨Z6,H6,I6,bg,q6⟩:=s
    refine thn (ht _ s6 Z6 H6 _ I6 q6) λb s7 s=>?_
    obtain⟨H7,I7,q7⟩:=s
    have aw:∀ {s':S9} {H':Hp} {Z':St},Inv X' ([(D,{cls:=.type "list",dict:=none,data:=.seq its.toArray nn})]++qJ fp s5.heap) Z' H' s'->tn (i+1) s'.heap/\(∀ b∈fp,H' b=none):=λ{s' H' Z'} I'=>by
     refine⟨T.keep _ _ _ am λb a o e=>(I'.pin (b,o) (BI _ (BI _ (jV a e)))).1,λb a=>?_⟩
     obtain⟨o,e,d⟩:=T.obj _ _ am b a
     exact(I'.pin (b,o) (BI _ (BI _ (jV a e)))).2.1
    cases b with
    | false=>
     rw[AL BR]at q7 ⊢
     obtain⟨a1,a2⟩:=aw I7
     exact⟨n+1 - (i+1),by ext,i+1,ys,its,nn,Z6,H7,rfl,ax,bi _ q7,a1,a2,r3,bg,I7.unpinned⟩
    | true=>
     rw[AN rfl]at q7 ⊢
     refine thn (he _ s7 Z6 H7 _ I7 q7) λyv s8 s=>?_
     obtain⟨y,H8,I8,r8,q8⟩:=s
     obtain⟨a1,a2⟩:=aw I8
     have I8u:=I8.unpinned
     obtain⟨pe,pn,p1,p2,p3⟩:=I8u.pin (D,{cls:=.type "list",dict:=none,data:=.seq its.toArray nn}) (by show _∈[]++_;simp)
     have bz:s8.heap.IsList D its.toArray:=PySem.IsL.isList pe
     have bh:its.length<=sizeLine:=by rw[<-r3.length];exact A2 au (A2 hin hn)
     refine aBA pe (by simpa using bh) λaj h9 e9 aq=>?_
     have I9:Inv X' [] Z6 H8 {s8 with heap:=h9,toks:=s8.toks}:=by
      refine Inv.turned (ap:=[]) (it:=D) (t':=s8.toks) (I8u.pins_of (pins':=[]) λp L=>absurd L (by simp)) (λb o a e=>(aq.2 b a).trans e) pn Y (.inr (by show B.heap.objs.size<=D;rw[hD];exact AK _)) (λx c e z=>?_) λp L=>absurd L (by show ¬ p∈([]++[]:L9 (Az×Obj));simp)
      obtain⟨v,o,ho,hd⟩:=I.cell x c (f x c e)
      have:=AS ho
      rw[hD,z]at this
      exact BW _ this
     refine⟨n+1 - (i+1),by ext,i+1,ys++[y],its++[yv],aj,Z6,H8,rfl,ax,bj _ _ q8,?_,a2,aZ.append r3 (.cons r8 .nil),bg,?_⟩
     .exact T.keep _ _ _ a1 λb a o e=>(aq.2 b (λz=>DnotFp (z▸a))).trans e
     .refine I9.pins_of λp L=>?_
      obtain rfl:=AM.mp L
      exact⟨by simpa using e9,pn,p1,p2,by simp⟩
  .refine (I0 tk).pins_of λp L=>?_
   obtain rfl:=AM.mp L
   exact⟨ah,P,Y,DnotFs,by simp⟩
 exact codeAny_compStart_list (ad _) (T.self X.A 0 _ _ _ bc (ad _))
noncomputable def cZ(names:L9 (Str×NameKind))(outer:Str->O9 NameKind):Bool:=
 names.all (λy=>y.2 != .cell) && names.all (λy=>y.2 != .local || names.lookup y.1 == some .local) && names.all (λy=>y.2 != .free || outer y.1 == some .cell || outer y.1 == some .free)
theorem cZ.cell{names:L9 (Str×NameKind)}(h:cZ names outer=true):∀ y∈names,y.2≠.cell:=λy a=>by
 unfold cZ at h
 ext
theorem cZ.names{names:L9 (Str×NameKind)}(h:cZ names outer=true):∀ y∈names,y.2=.local->names.lookup y.1=some .local:=λy a e=>by
 unfold cZ at h
 ext
theorem cZ.free{names:L9 (Str×NameKind)}(h:cZ names outer=true):∀ y∈names,y.2=.free->outer y.1=some .cell\/outer y.1=some .free:=λy a e=>by
 unfold cZ at h
 ext
theorem aO6{a:E2}{pos:Pos}{j:TI}(u:X.calm=true)(c:Caps X scope N js)(hok:cZ scope.names X.env.kindOf=true)
  (hi:PI X tg a j) (b:scope.kind=.function:=by rfl) (hs:∀ x,foldedSetIterable a X.env x=pure x:=by intro _;rfl) :
  PE X (.ListComp elt [⟨tg,a,ifs,0⟩] scope pos) (wA X N scope js tg elt ifs j):=by
 intro ap s Z H Q I h
 obtain⟨cl,e1,e2,y⟩:=v9 (env:=X.env) (scope:=scope) λx o l=>I.ok.has _ (cZ.free hok x o l)
 rw[eval_ListComp]
 refine HC (use:=none) rfl hs e1 b (cZ.names hok) (thn (hi ap s Z H _ I h) λv s1 h1=>thn h1 λr E h2=>?_)
 obtain⟨it,fp,B,J,H2,rfl,k,T,f,f2,n,W,z,p,d⟩:=h2
 refine wC (RR:=λe C=>compPost (model X.prog X.w) X.A X.xe none (EP X ap Z Q) e C) (Q:=Q) u c b (cZ.cell hok) e2 y k T f f2 n W z p d ?_
 intro D C ys H' s' i q
 obtain⟨m,t⟩:=i.ns
 exact⟨m,t,λh' g=>⟨.ref D,_,CompEnd.gone (D:=D) (ys:=ys) (H':=H') i.inv i.fp g,rfl,q⟩⟩
theorem aF9{b:E2}{pos c f:Pos}{F:TI}(hN:X.N.Nodup)(E:X.N[i]? = some x)(hx:Loc X.env.scope x)
  (p:swapsWith (.ListComp elt [⟨tg,b,ifs,0⟩] scope pos) (some (.Name x c)) f.line X.env=pure true) (Y:X.calm=true) (g:Caps X scope N js) (hok:cZ scope.names X.env.kindOf=true)
  (hi:PI X tg b F) (d:scope.kind=.function:=by rfl) (o:X.fn x=true\/X.env.scope.names.lookup x=some .local:=by exact .inl rfl) (hs:∀ x,foldedSetIterable b X.env x=pure x:=by intro _;rfl) :
  PS X (.Assign [.Name x c] (.ListComp elt [⟨tg,b,ifs,0⟩] scope pos) f) (kD (wA X N scope js tg elt ifs F) (i6 i)):=by
 intro ap s Z H D I h
 obtain⟨cl,e1,e2,O⟩:=v9 (env:=X.env) (scope:=scope) λx hx o=>I.ok.has _ (cZ.free hok x hx o)
 rw[exec_Assign_Name_used _ _ _ _ p]
 refine AA (GU (AA ?_))
 show wpAny _ X.A (do let _ <-comprehension (.ListComp elt [⟨tg,b,ifs,0⟩] scope pos) scope X.env _ (newList []) false (eval b X.env) (some (assign (.Name x c) X.env))) _ _ s
 refine AA (BZ (HC (use:=some (assign (.Name x c) X.env)) (Q:=λ_ s'=>SP X ap D .next s') rfl hs e1 d (cZ.names hok)
  (thn (hi ap s Z H _ I h) λv s1 h1=>thn h1 λU s2 h2=>?_)) (λ_ s' P=>AE (AE P)) λ_ _ e=>e)
 obtain⟨it,fp,tn,J,H2,rfl,G,T,y,f2,n,W,hn,K,j⟩:=h2
 refine wC (RR:=λl C=>compPost (model X.prog X.w) X.A X.xe (some (assign (.Name x c) X.env)) (λ_ s'=>SP X ap D .next s') l C) (Q:=λv H'=>D.nx (Z.set i (some v)) H') Y g d (cZ.cell hok) e2 O G T y f2 n W hn K j ?_
 intro L C ys H' s' k q
 show wpAny _ X.A (assign (.Name x c) X.env (.ref L)) _ _ s'
 refine wpAny_assign_Name (zJ (v:=.ref L) k.inv hN E hx rfl (λaa t V=>?_) o)
 obtain⟨a,u,S⟩:=V
 have r:C≠a:=by
  rcases S with z|z
  · rw [z]; exact k.fp.2.1
  · exact λR => k.fp.2.2.2.2.1 x a z R.symm
 obtain⟨m,M⟩:=k.ns
 exact⟨m,M.sameBut u r,λh' B=>⟨_,_,CompEnd.gone (D:=L) (ys:=ys) (H':=H') t k.fp B,q⟩⟩
end
noncomputable def aN0(W:Nat->L9 V->Hp->Prop)(i:Nat)(ys:L9 V):O9 V->Hp->Prop
 | some y,H=>W (i+1) (ys++[y]) H
 | none,H=>W (i+1) ys H
theorem aO7{X:Cx}{J:It}{Z:St}{Q:VK}{n:Nat}{H1:Hp}(W:Nat->L9 V->Hp->Prop)(hz:n<=sizeLine)(f:W 0 [] H1)
  (d:∀ i ys H,i<=n->W i ys H->ys.length<=i) (c:∀ i ys H,i < n->W i ys H->J.go i H) (b:∀ ys H,W n ys H->J.stop n H)
  (step:∀ i x ys H H',i < n->W i ys H->J.yld i H x H'->xW X N scope js tg elt ifs Z x H' (aN0 W i ys))
  (done:∀ ys H,W n ys H->∀ p,H p=none->Q (.ref p) (upd H p (.lst ys))) :
  compK X N scope js tg elt ifs Z Q J H1:=by
 refine⟨n,λi ys H=>i<=n/\W i ys H,hz,⟨B8 _,f⟩,?_⟩
 rintro i ys H ⟨hi,w⟩
 refine⟨d i ys H hi w,?_⟩
 by_cases a:i < n
 .exact .inr ⟨c i ys H a w,a,aN0 W i ys,λy H2 q=>⟨a,q⟩,λH2 q=>⟨a,q⟩,λx H' y=>step i x ys H H' a w y⟩
 .have e:i=n:=by ext
  subst e
  exact .inl ⟨b ys H w,done ys H w⟩
mutual
inductive DatV(K:Frag)(H:Hp):V->Dz->Prop
 | non:DatV K H .non .none
 | bl (b:Bool):DatV K H (.bl b) (.bool b)
 | int (i:Int):DatV K H (.int i) (.int i)
 | str (x:Str):DatV K H (.str x) (.str x)
 | lst {a:Az} {xs:List V} {ds:List Dz}:SqL K H a xs->DatVs K H xs ds->DatV K H (.ref a) (.list ds)
 | tup {a:Az} {xs:List V} {ds:List Dz}:SqT K H a xs->DatVs K H xs ds->DatV K H (.ref a) (.tuple ds)
 | pl {a:Az} {ns:List Int}:H a=some (.lst (ns.map V.int))->DatV K H (.ref a) (.dict [(.list (ns.map .int),.none)])
inductive DatVs(K:Frag)(H:Hp):List V->List Dz->Prop
 | nil:DatVs K H [] []
 | cons {x:V} {d:Dz} {xs:List V} {ds:List Dz}:DatV K H x d->DatVs K H xs ds->DatVs K H (x::xs) (d::ds)
end
section
variable{X:Cx}{ap:L9 (Az×Obj)}{Z:St}{H:Hp}{s:S9}
mutual
theorem DatV.reads(I:Inv X ap Z H s):∀ {x:V} {d:Dz} {u:V9},DatV X.K H x d->d.canLay0=true->aR x u->∃ as,Reads s.heap u d as
 | _,_,_,.non,_,r=>by cases r;exact⟨_,.none⟩
 | _,_,_,.bl b,_,r=>by cases r;exact⟨_,.bool b⟩
 | _,_,_,.int i,_,r=>by obtain⟨t,rfl⟩:=r;exact⟨_,.int i t⟩
 | _,_,_,.str x,_,r=>by obtain⟨t,rfl⟩:=r;exact⟨_,.str x t⟩
 | _,_,_,.pl _,y,_=>by cases y
 | _,_,_,.lst h ds,y,r=>by
  cases r
  obtain⟨a,f,⟨o,e,c,n,d⟩,g⟩:∃ a:L9 V9,aZ _ a/\s.heap.IsList _ a.toArray/\_:=by
   obtain⟨a,f,p,g⟩:=I.list h
   exact⟨a,f,p.isList,g⟩
  obtain⟨as,q⟩:=DatVs.reads I ds y f
  exact⟨_,.list e c d (by simpa using q)⟩
 | _,_,_,.tup h ds,y,r=>by
  cases r
  obtain⟨a,f,p,g⟩:=I.tuple h
  obtain⟨o,e,c,n,d⟩:=p
  obtain⟨as,q⟩:=DatVs.reads I ds y f
  exact⟨_,.tuple e c d (by simpa using q)⟩
theorem DatVs.reads(I:Inv X ap Z H s):∀ {xs:L9 V} {ds:L9 Dz} {us:L9 V9},DatVs X.K H xs ds->PyData.canLayAll0 ds=true->aZ xs us->∃ as,ReadsAll s.heap us ds as
 | _,_,_,.nil,_,r=>by cases r;exact⟨_,.nil⟩
 | _,_,_,.cons (d:=d0) (ds:=ds0) h t,y,r=>by
  have a:(d0.canLay0 && PyData.canLayAll0 ds0)=true:=y
  rw[A4]at a
  cases r with
  | cons r1 r2=>
   obtain⟨as,q⟩:=DatV.reads I h a.1 r1
   obtain⟨bs,b⟩:=DatVs.reads I t a.2 r2
   exact⟨_,.cons q b⟩
end
theorem l6{d:Dz}(h:shaped d=true):d.canLay0=true:=by
 have h':(d.canLay0 && decide (d.depth<=64))=true:=h
 simp_all
theorem aTB(c:X.A.units+64 < cLine):OpR X (compareOp .Eq) (λx y H Q=>∃ d e,DatV X.K H x d/\DatV X.K H y e/\shaped d=true/\shaped e=true/\Q (.bl (PyData.eqv d e)) H):=by
 intro ap s Z H x y u v Q I f g h
 obtain⟨d,e,i,j,b,a,q⟩:=h
 obtain⟨k,r1⟩:=i.reads I (l6 b) f
 obtain⟨bs,r2⟩:=j.reads I (l6 a) g
 exact eq_dataH r1 r2 b a c ⟨.bl _,H,I,rfl,q⟩
theorem aTC(c:X.A.units+64 < cLine):OpR X (compareOp .NotEq) (λx y H Q=>∃ d e,DatV X.K H x d/\DatV X.K H y e/\shaped d=true/\shaped e=true/\Q (.bl (!PyData.eqv d e)) H):=by
 intro ap s Z H x y u v Q I f g h
 obtain⟨d,e,i,j,b,a,q⟩:=h
 obtain⟨k,r1⟩:=i.reads I (l6 b) f
 obtain⟨bs,r2⟩:=j.reads I (l6 a) g
 exact ne_dataH r1 r2 b a c ⟨.bl _,H,I,rfl,q⟩
end
theorem SqL.same{K:Frag}{H H':Hp}{a:Az}{xs:L9 V}(e:aC H H')(h:SqL K H a xs):SqL K H' a xs:=aC.seq e h
theorem SqT.same{K:Frag}{H H':Hp}{a:Az}{xs:L9 V}(e:aC H H')(h:SqT K H a xs):SqT K H' a xs:=by
 rcases h with (h|⟨o,h⟩)|h
 · exact .inl (.inl (e _ _ h))
 · exact .inl (.inr ⟨o, e _ _ h⟩)
 · exact .inr h
theorem DatV.same{K:Frag}{H H':Hp}(e:aC H H'){x:V}{d:Dz}(h:DatV K H x d):DatV K H' x d:=
 DatV.rec (motive_1:=λx d _=>DatV K H' x d) (motive_2:=λxs ds _=>DatVs K H' xs ds) .non .bl .int .str (λh _ q=>.lst (h.same e) q) (λh _ q=>.tup (h.same e) q) (λh=>.pl (e _ _ h)) .nil (λ_ _ p q=>.cons p q) h
theorem DatVs.same{K:Frag}{H H':Hp}(e:aC H H'){xs:L9 V}{ds:L9 Dz}(h:DatVs K H xs ds):DatVs K H' xs ds:=
 DatVs.rec (motive_1:=λx d _=>DatV K H' x d) (motive_2:=λxs ds _=>DatVs K H' xs ds) .non .bl .int .str (λh _ q=>.lst (h.same e) q) (λh _ q=>.tup (h.same e) q) (λh=>.pl (e _ _ h)) .nil (λ_ _ p q=>.cons p q) h
theorem aC.upd{H:Hp}{a:Az}{o:HO}(h:H a=none):aC H (upd H a o):=λb u e=>by rw[aE (a6 e h)];exact e
theorem DatVs.length{K:Frag}{H:Hp}:∀ {xs:L9 V} {ds:L9 Dz},DatVs K H xs ds->xs.length=ds.length
 | _,_,.nil=>rfl
 | _,_,.cons _ t=>by simp[DatVs.length t]
theorem DatVs.append{K:Frag}{H:Hp}:∀ {xs ys:L9 V} {ds es:L9 Dz},DatVs K H xs ds->DatVs K H ys es->DatVs K H (xs++ys) (ds++es)
 | _,_,_,_,.nil,h=>h
 | _,_,_,_,.cons a t,h=>.cons a (DatVs.append t h)
theorem DatVs.get{K:Frag}{H:Hp}:∀ {xs:L9 V} {ds:L9 Dz} {i:Nat} {x:V},DatVs K H xs ds->xs[i]? = some x->∃ d,ds[i]? = some d/\DatV K H x d
 | _,_,_,_,.nil,e=>by simp at e
 | _,_,0,_,.cons a t,e=>by simp at e;subst e;exact⟨_,by simp,a⟩
 | _,_,i+1,x,.cons a t,e=>by
  obtain⟨d,h1,h2⟩:=DatVs.get (i:=i) (x:=x) t (by simpa using e)
  exact⟨d,by simpa using h1,h2⟩
theorem DatVs.get'{K:Frag}{H:Hp}:∀ {xs:L9 V} {ds:L9 Dz} {i:Nat} {d:Dz},DatVs K H xs ds->ds[i]? = some d->∃ x,xs[i]? = some x/\DatV K H x d
 | _,_,_,_,.nil,e=>by simp at e
 | _,_,0,_,.cons a t,e=>by simp at e;subst e;exact⟨_,by simp,a⟩
 | _,_,i+1,x,.cons a t,e=>by
  obtain⟨d,h1,h2⟩:=DatVs.get' (i:=i) (d:=x) t (by simpa using e)
  exact⟨d,by simpa using h1,h2⟩
theorem DatVs.drop{K:Frag}{H:Hp}:∀ {xs:L9 V} {ds:L9 Dz} (n:Nat),DatVs K H xs ds->DatVs K H (xs.drop n) (ds.drop n)
 | _,_,0,h=>h
 | _,_,_+1,.nil=>.nil
 | _,_,n+1,.cons _ t=>DatVs.drop n t
theorem DatVs.take{K:Frag}{H:Hp}:∀ {xs:L9 V} {ds:L9 Dz} (n:Nat),DatVs K H xs ds->DatVs K H (xs.take n) (ds.take n)
 | _,_,0,_=>.nil
 | _,_,_+1,.nil=>.nil
 | _,_,n+1,.cons a t=>.cons a (DatVs.take n t)
end L2
variable{outer:L9 Env}
namespace SX
open PySem.W
section
variable{prog:P9}{w:W9}{A:U9}{E:V9->S9->Prop}{h:Hz}{g:Array GenState}{d:Drawn}{t:Nat}{os:OsState}{K:Frag}
variable{nm q:Str}{C N:Az}{bs bm bmB:L9 V9}{hdct:Bool}{sn:L9 Str}{sub:L9 V9}{ab:Bool}{col:O9 Bool}{dd:O9 Az}{k0 k1 k2 k3 k5:O9 V9}{B newId initId:String}
end
end SX
namespace SX
open PySem.W PySem.Builtin PySem.Builtin.ObjectAttr
end SX
variable{Q:Unit->S9->Prop}{fr:O9 Az}
namespace SX
open PySem.W
def uQ(h:Hz)(vs:Array V9)(e:Az)(T:O9 Az):Prop:=
 match T with
 | none=>vs[1]? = some .none
 | some t=>vs[1]? = some (.ref t)/\t≠e/\∃ oT ts x,h.get? t=some oT/\oT.data=.fields ts/\ts[3]? = some x
section
variable{M:Model}{A:U9}{E:V9->S9->Prop}{s:S9}
structure Noted(FL:List Az)(e:Az)(T:Option Az)(C:Az)(od:Option Az)(h h':Heap)(T':Option Az):Prop where
 keep:∀ b o,b∉FL->b≠e->(∀ t,T=some t->b≠t)->h.get? b=some o->h'.get? b=some o
 slot:∀ b o,b∈FL->h.get? b=some o->∃ sl,h'.get? b=some {o with slots:=sl}
 exc:∃ vs,h'.get? e=some ⟨.ref C,od,.fields vs,#[]⟩/\uQ h' vs e T'
 new:(∃ t,T'=some t/\h.objs.size<=t)\/(T'=T/\T≠none)
 there:∀ t o,T=some t->h.get? t=some o->∃ o',h'.get? t=some o'
theorem aLH{base:Hz}{L e C:Az}{T:O9 Az}
  (U:A.frames=some (env::outer)) (W:s.heap.FunFrames base (env::outer)) (Y:env.frame=some L) (N:s.heap.get? e=some ⟨.ref C,od,.fields vs,#[]⟩) (O:uQ s.heap vs e T)
  (h:∀ h' T',T'≠none->Noted ((env::outer).filterMap (·.frame)) e T C od s.heap h' T'->Q () {s with heap:=h'}) :
  wpAny M A (noteFrame (.ref e) env) Q E s:=by
 have ae:∀ b∈(env::outer).filterMap (·.frame),∃ o,s.heap.get? b=some o/\∀ vs,o.data≠.fields vs:=λb j=>(W.mem j).2
 have H:e∉(env::outer).filterMap (·.frame):=λhm=>by
  ext
 have J:1 < vs.size:=by
  unfold uQ at O
  ext
 have G:∀ (n:Hz) (f:V9) (g:Bool),n.FunFrames base (env::outer)->n.objs.size=s.heap.objs.size->n.get? e=some ⟨.ref C,od,.fields vs,#[]⟩->
   (∀ b o,(∀ t,T=some t->b≠t)->s.heap.get? b=some o->n.get? b=some o)->(∀ t o,T=some t->s.heap.get? t=some o->∃ o',n.get? t=some o'/\t∉(env::outer).filterMap (·.frame)/\t≠e)->
   wpAny M A (do let a <-frameOf env;let r <-entryPlaceOf L g;let b <-EntryCells.newEntry f a .none (rawInt L) .none r;setField (.ref e) 1 b) Q E {s with heap:=n}:=by
  intro n f g P S V kp tp
  refine AA (wpAny_frameOf_fun (s:={s with heap:=n}) U P Y λc d=>?_)
  refine AA (wpAny_entryPlaceOf λr D=>?_)
  unfold EntryCells.newEntry newFields
  refine AA (B4 ?_ (D.sizeOk5 _ _ _ _ _))
  have l:c.get? e=some ⟨.ref C,od,.fields vs,#[]⟩:=(d.2.1 e H).trans V
  have k:=AD (h:=c) {cls:=.type "traceback",dict:=none,data:=.fields ([f,.ref L,.none,rawInt L,.none]++(if r.isEmpty then replicate 6 Value.none else r)).toArray} l
  refine DZ k rfl J ?_
  have I:c.objs.size≠e:=BY (AS l)
  have y:=BK (Obj.mapFields (·.setIfInBounds 1 (Value.ref c.objs.size))) k rfl
  have v:=(B7 (c.push {cls:=.type "traceback",dict:=none,data:=.fields ([f,.ref L,.none,rawInt L,.none]++(if r.isEmpty then replicate 6 Value.none else r)).toArray})
   (Obj.mapFields (·.setIfInBounds 1 (Value.ref c.objs.size))) (BF I)).trans (AV c rfl)
  have p:∀ b o,b≠e->c.get? b=some o->
    ((c.push {cls:=.type "traceback",dict:=none,data:=.fields ([f,.ref L,.none,rawInt L,.none]++(if r.isEmpty then replicate 6 Value.none else r)).toArray}).update e (Obj.mapFields (·.setIfInBounds 1 (Value.ref c.objs.size)))).get? b=some o:=
   λb o u j=>by
    rw[B7 _ _ (BF u)]
    exact AD _ j
  refine h _ (some c.objs.size) (by simp) ⟨λb o j u w q=>?_,λb o j q=>?_,⟨vs.setIfInBounds 1 (.ref c.objs.size),?_,?_⟩,.inl ⟨_,rfl,by rw[d.1,S];exact AK _⟩,λt o e1 e2=>?_⟩
  .exact p b o u ((d.2.1 b j).trans (kp b o w q))
  .have w:∀ t,T=some t->b≠t:=λt e1 z=>by
    ext
   obtain⟨sl,X⟩:=d.2.2 b o (kp b o w q)
   ext
  .exact y
  .refine ⟨by simp[J],I,_,_,rawInt L,v,rfl,by first|(simp;done)|(rcases D with rfl|⟨_,_,_,_,_,_,_,rfl⟩<;>simp)⟩
  .obtain ⟨o',X,z2,z3⟩:=tp t o e1 e2
   exact⟨o',p t o' z3 ((d.2.1 t z2).trans X)⟩
 unfold noteFrame
 simp only[Y]
 cases T with
 | none=>
  refine AA (B0 N rfl O ?_)
  simp_all
 | some t=>
  obtain⟨B,F,oT,ts,x,K,m,R⟩:=O
  have ac:t∉(env::outer).filterMap (·.frame):=λhm=>by
   ext
  refine AA (B0 N rfl B ?_)
  rw[AN (show(Value.ref t != Value.none)=true from by simp)]
  refine AA (B0 K m R ?_)
  by_cases Z:(x == rawInt L)=true
  .rw[AN Z]
   refine AE (h s.heap (some t) (by simp) ⟨λb o _ _ _ q=>q,λb o _ q=>⟨o.slots,q⟩,⟨vs,N,B,F,oT,ts,x,K,m,R⟩,.inr ⟨rfl,by simp⟩,λt' o e1 q=>⟨o,q⟩⟩)
  .rw[AL Z]
   refine AA (DZ K m (GV.mp R).1 ?_)
   have i:∀ b,b≠t->(s.heap.update t (Obj.mapFields (·.setIfInBounds 3 Value.none))).get? b=s.heap.get? b:=λb j=>B7 _ _ (BF j)
   have aa:=BK (Obj.mapFields (·.setIfInBounds 3 Value.none)) K (EI (C0 m _))
   refine G (s.heap.update t (Obj.mapFields (·.setIfInBounds 3 Value.none))) _ _ (W.of_keeps λb o j ad=>⟨o,(i b λq=>?_).trans j,rfl⟩) (BU ..).1 ((i e (BF F)).trans N) (λb o j q=>(i b (j t rfl)).trans q) (λt' o e1 q=>?_)
   .grind
   .grind
theorem aGA{e C t:Az}(i:s.heap.get? e=some ⟨.ref C,od,.fields vs,#[]⟩)(g:uQ s.heap vs e (some t))
  (h:∀ h',Heap.SameBut t s.heap h'->uQ h' vs e (some t)->Q () {s with heap:=h'}):wpAny M A (setFlight (.ref e) fr) Q E s:=by
 obtain⟨b,d,oT,k,x,f,a,j⟩:=g
 unfold setFlight
 refine AA (B0 i rfl b ?_)
 rw[AN (show(Value.ref t != Value.none)=true from by simp)]
 have c:=(GV.mp j).1
 refine DZ f a c (h _ (BU ..) ⟨b,d,_,_,_,BK _ f (EI (C0 a _)),C0 a _,Array.getElem?_setIfInBounds_self_of_lt c⟩)
end
end SX
variable{ev:V9}{ds:L9 Dz}
namespace L2
variable{base:Hz}{H:Hp}
def ExN(e C:Az)(od:O9 Az):HO:=.ext λh=>∃ vs,h.get? e=some ⟨.ref C,od,.fields vs,#[]⟩/\vs[1]? = some .none
def ExO(e C:Az)(od:O9 Az):HO:=.ext λh=>∃ vs,h.get? e=some ⟨.ref C,od,.fields vs,#[]⟩
section
variable{P:P9}{w:W9}{H:Hp}{h:Hz}{e C:Az}{od:O9 Az}
theorem aTD(a:h.get? e=some ⟨.ref C,od,.fields vs,#[]⟩):bS P w H h e (ExO e C od):=
 ⟨⟨vs,a⟩,⟨_,a⟩,λh1 h2 ⟨vs,a⟩ k=>⟨vs,k _ a⟩⟩
end
structure FlyAt(X:Cx)(H:Hp)(h:Heap)(e C:Az)(od:Option Az)(traced:Bool):Prop where
 tr:H e=some (ExO e C od)
 tb:∃ vs T,h.get? e=some ⟨.ref C,od,.fields vs,#[]⟩/\SX.uQ h vs e T/\(∀ t,T=some t->H t=none/\X.s₀.heap.objs.size<=t/\∀ p∈X.pn,p.1≠t)/\(traced=true->T≠none)
def Fly(X:Cx)(E:XK)(ev:V9)(s':S9):Prop:=∃ e C od Z H',ev=.ref e/\Inv X [] Z H' s'/\FlyAt X H' s'.heap e C od false/\E (.ref C) (some e) H'
abbrev Cx.fly(X:Cx)(E:XK):Cx:=X.wish (Fly X E)
def aAO(X:Cx):Prop:=X.stack=X.env::X.outer/\X.env.frame=some X.env.locals
section
variable{X:Cx}{Z:St}{H:Hp}{s:S9}{e C:Az}{od:O9 Az}{b:Bool}
theorem aBB(I:Inv X [] Z H s){t:Az}{oT:Obj}{b:Array V9}(e:s.heap.get? t=some oT)(f:oT.data=.fields b):t≠X.env.locals/\(∀ x c,X.env.cells.lookup x=some c->c≠t):=by
 refine⟨λz=>?_,λx c q z=>?_⟩
 .obtain ⟨m,⟨o,es,ep,d,a,_⟩,_⟩:=I.loc
  simp_all
 .obtain ⟨v,o,d,a⟩:=I.cell x c q
  simp_all
theorem uS{R:V9->S9->Prop}(hO:aAO X)(I:Inv X [] Z H s)(f:FlyAt X H s.heap e C od b)(h:∀ s',Inv X [] Z H s'->FlyAt X H s'.heap e C od true->Q () s') :
  wpAny (model X.prog X.w) X.A (noteFrame (.ref e) X.env) Q R s:=by
 obtain⟨d,j⟩:=hO
 obtain⟨vs,T,he,B,O,_⟩:=f.tb
 have D:X.A.frames=some (X.env::X.outer):=by rw[<-d];exact I.ok.frames
 have hl:s.heap.FunFrames X.base (X.env::X.outer):=by have:=I.stack;rw[d]at this;exact this
 have k:(X.env::X.outer).filterMap (·.frame)=X.env.locals::X.fs:=by rw[ER,j];rfl
 refine SX.aLH (T:=T) D hl j he B λh' T' E N=>?_
 rw[k]at N
 have trk:∀ c u,H c=some u->c∉X.env.locals::X.fs:=λc u q z=>by
  have:=I.stkFree c (by unfold frs;rw[d,k];exact z)
  ext
 have nT:∀ c u,H c=some u->∀ t,T=some t->c≠t:=λc u q t e1 z=>by
  ext
 have y:HOk X.prog X.w H h':=λc u q=>by
  by_cases i:c=e
  .subst i
   rw[f.tr]at q;cases q
   obtain⟨g,a,_⟩:=N.exc
   exact aTD a
  .refine (I.hok c u q).stay (λU v F a=>N.keep U v ?_ ?_ ?_ a) (λ_ q=>q) (λ_ _ q=>q) λ_ _ q=>q
   .grind
   .rcases F with z|z
    .grind
    .intro zz;rw[zz,f.tr]at z;cases z
   .grind
 have V:Inv X [] Z H {s with heap:=h',gens:=s.gens,drawn:=s.drawn,toks:=s.toks}:=by
  refine I.step (ch:=T.toList) (λc i=>?_) (λc o h1 h2 G q n=>?_) (λc o h1 h2 G q n=>N.slot c o (AQ _ h2) q) (λ_ _ _ _ n=>n) (λc o G q=>?_) (λ_ _ q=>q) (λ_ _ _ q=>q) (λ_ _ q=>q) (λm S=>?_) y I.bare
  .have e1:T=some c:=by cases T<;>simp at i;rw[i]
   obtain⟨t1,M,t3⟩:=O c e1
   rw[e1]at B
   obtain⟨_,_,oT,ts,x,J,K,_⟩:=B
   obtain⟨a1,a2⟩:=aBB I J K
   ext
  .refine N.keep c o ?_ ?_ ?_ q
   .grind
   .intro z;rw[z,f.tr]at n;cases n
   .grind
  .by_cases i:c=e
   .subst i
    obtain⟨g,a,_⟩:=N.exc
    ext
   .by_cases L:c∈X.env.locals::X.fs
    .obtain ⟨sl,a⟩:=N.slot c o L q
     ext
    .exact ⟨o,N.keep c o L i (λt e1 z=>G (by rw[e1,z];simp)) q⟩
  .obtain ⟨o,es,ep,P,r⟩:=S
   obtain⟨sl,a⟩:=N.slot _ o AX P
   exact⟨_,es,ep,a,r⟩
 refine h _ V ⟨f.tr,?_⟩
 obtain⟨g,a,W⟩:=N.exc
 refine⟨g,T',a,W,λt e1=>?_,λ_=>E⟩
 rcases N.new with ⟨M,e2,l⟩|⟨e2,_⟩
 .rw[e1]at e2;cases e2
  refine⟨I.hok.fresh l,A2 I.sz l,λp Y z=>?_⟩
  have:=AS (I.pin p (CN _ Y)).1
  ext
 .grind
theorem xX{y:V9->S9->Prop}{A:U9}(I:Inv X [] Z H s)(f:FlyAt X H s.heap e C od true)(h:∀ s',Inv X [] Z H s'->FlyAt X H s'.heap e C od true->Q () s') :
  wpAny (model X.prog X.w) A (setFlight (.ref e) fr) Q y s:=by
 obtain⟨vs,T,k,j,u,E⟩:=f.tb
 cases T with
 | none=>exact absurd rfl (E rfl)
 | some t=>
  obtain⟨m,i,n⟩:=u t rfl
  refine SX.aGA k j λh' l a=>?_
  obtain⟨_,g,oT,F,x,c,d,_⟩:=j
  obtain⟨v,B⟩:=aBB I c d
  have D:Inv X [] Z H {s with heap:=h'}:=I.turned (t':=s.toks) (it:=t) (λb o z q=>(l.2 b z).trans q) m v (.inr i) B λp r=>n p (by simpa using r)
  exact h _ D ⟨f.tr,vs,some t,(l.2 e (BF g)).trans k,a,λt' e1=>by cases e1;exact⟨m,i,n⟩,λ_=>by simp⟩
theorem aH3{Q:V9->S9->Prop}{a:V9->S9->Prop}{A:U9}(f:FlyAt X H s.heap e C od true)(h:∀ t,Q (.ref t) s):wpAny (model X.prog X.w) A (field (.ref e) 1) Q a s:=by
 obtain⟨vs,T,c,b,g,d⟩:=f.tb
 cases T with
 | none=>exact absurd rfl (d rfl)
 | some t=>exact B0 c rfl b.1 (h t)
theorem fZ{E:XK}(i:aAO X):PassesOwn (model X.prog X.w) X.A X.env (Fly X E):=by
 rintro j s' ⟨e,C,od,Z,H,rfl,I,f,q⟩
 refine uS i I f λl h f2=>?_
 unfold cameBackBy
 refine AA (aH3 f2 λt=>?_)
 rw[AL (by simp)]
 exact xX h f2 λk g d=>⟨e,C,od,Z,H,rfl,g,⟨d.tr,let ⟨vs,T,a,b,c,_⟩:=d.tb;⟨vs,T,a,b,c,λz=>nomatch z⟩⟩,q⟩
end
def CXe(P:P9)(w:W9):CXT:=λouter H s E ev s'=>∃ e C od H',ev=.ref e/\s'.os=s.os/\AllBare s'.gens/\Un (frs outer) [] H H' s.heap s'.heap/\HOk P w H' s'.heap/\H' e=some (ExO e C od) /\
 (∃ vs T,s'.heap.get? e=some ⟨.ref C,od,.fields vs,#[]⟩/\SX.uQ s'.heap vs e T/\∀ t,T=some t->H' t=none/\s.heap.objs.size<=t)/\E (.ref C) (some e) H'
section
variable{X:Cx}
theorem nE{E f:XK}(l:∀ c e H,E c e H->f c e H):lC (CXe X.prog X.w) (X.fly f) E:=by
 rintro ap Z H s m s' I ⟨e,C,od,H',rfl,os,bare,un,hok,he,⟨vs,T,q1,q2,q3⟩,q⟩
 have d:Inv X ap Z H s:=I.unwish
 have k:Inv X [] Z H s:=d.pins_of λp a=>absurd a (by simp)
 have h:Inv X [] Z H' s':=k.call' os un hok bare (λb j=>absurd j (by simp))
 refine⟨e,C,od,Z,H',rfl,h,⟨he,vs,T,q1,q2,λt e1=>?_,λz=>nomatch z⟩,l _ _ _ q⟩
 obtain⟨i,g⟩:=q3 t e1
 refine⟨i,A2 d.sz g,λp a z=>?_⟩
 have:=AS (d.pin p (CN _ a)).1
 ext
theorem PSs.unfly{E:XK}{st:L9 Stmt}{t:TS}(h:PSs (X.fly E) st t)(hx:∀ e s',Fly X E e s'->X.xe e s'):PSs X st t:=λap s Z H D I a=>
 BZ (h ap s Z H D (I.wish _) a) (λf s' q=>SP.unwish q) hx
end
theorem zO{w:W9}{A:U9}{E:XK}
  (h:Fly (iX (CXe P w) P w K mg base N qual scope f cd A outer s H E) E ev s'):(iX (CXe P w) P w K mg base N qual scope f cd A outer s H E).xe ev s':=by
 obtain⟨e,C,od,Z,H',rfl,I,k,q⟩:=h
 show wpAny (model P w) _ (leaving _ (.ref e)) _ _ s'
 unfold leaving
 have j:aAO (iX (CXe P w) P w K mg base N qual scope f cd A outer s H E):=⟨rfl,rfl⟩
 refine AA (uS j I k λm i f2=>xX i f2 λl d g=>?_)
 obtain⟨vs,T,a,b,c,_⟩:=g.tb
 exact⟨e,C,od,H',rfl,d.os,d.bare,d.base,d.hok,g.tr,⟨vs,T,a,b,λt e1=>⟨(c t e1).1,(c t e1).2.1⟩⟩,q⟩
section
variable{P:P9}{w:W9}{K:Frag}{mg:Str->O9 V9}{base:Hz}
theorem Fun.okX{fd:FuncData}{ps:L9 Str}{sp:Sp}(F:Fun K x qual st f fd)(S:FnScope N ps (aI st))(len:∀ vs H Q E,sp vs H Q E->vs.length=ps.length)
  (a:∀ (cdv:V9) (A:U9) (outer:L9 Env) (s:S9) (H:Hp) (vs:L9 V) (Q:VK) (E:XK),Room k (A.deeper (envOfC qual (aI st) s.heap.objs.size f cdv))->sp vs H Q E->
   ∃ t,PSs ((iX (CXe P w) P w K mg base N qual (aI st) f cdv A outer s H E).fly E) (bF st) t/\t {nx:=λ_ H'=>Q .non H',rt:=Q} (start N vs) H):FnOk P w K mg base (CXe P w) (k+1) f fd ps sp:=by
 obtain⟨i,od,kV,doc,pm,g,cdv,ct,d,rfl,e,b⟩:=F.ex
 refine aF4 e b S len λA outer s H vs Q E hr c=>?_
 obtain⟨t,h,q⟩:=a cdv A outer s H vs Q E hr c
 exact⟨t,h.unfly λ_ _ z=>zO z,q⟩
end
section
variable{X:Cx}
theorem aH4(C:X.calm=true):jW X (.builtin "all") (λxs H Q=>∃ (a:Az) (bs:L9 Bool),xs=[.ref a]/\SqL X.K H a (bs.map V.bl)/\Q (.bl (bs.all id)) H):=by
 intro ap s Z H xs us Q I r h
 obtain⟨a,bs,rfl,t,q⟩:=h
 obtain⟨u,rfl,B⟩:=kZ r
 cases(show u=Value.ref a from B)
 obtain⟨c,l,p,F⟩:=I.list t
 have k:c.length=bs.length:=by rw[<-l.length,AB]
 refine call_all_walk (E7 p.isList ?_)
 have m:a≠s.heap.objs.size:=by
  obtain⟨o,e,_⟩:=p.isList
  exact A3 (AS e)
 refine⟨_,_,_,_,_,_,λi=>bs.getD i true,rfl,Walks.list (show X.A.in1.handled=none from I.ok.hd C) s.heap.objs.size a m c.toArray,⟨⟨_,AV _ rfl,rfl,rfl⟩,p.isList.at λo e=>AD _ e⟩,?_,?_⟩
 .intro i v s' J G f n
  have f:c.toArray[i]? = some v:=f
  have hi:c[i]? = some v:=by simpa using f
  have d:i < bs.length:=by rw[<-k];exact(AJ.mp hi).1
  have E:(bs.map V.bl)[i]? = some (V.bl bs[i]):=by simp[d]
  obtain⟨L,j,g⟩:=l.get E
  rw[hi]at j;cases j
  cases(show v=Value.bool bs[i]from g)
  refine DB ?_
  have e:bs.getD i true=bs[i]:=by rw[AG,AI d];rfl
  rw[<-e];exact n
 .intro h' y D
  have e:(range c.toArray.size).all (λi=>bs.getD i true)=bs.all id:=by
   rw[A6,k,Bool.eq_iff_iff,BO,BO]
   constructor
   .intro h x w
    obtain⟨i,hi,rfl⟩:=EK.mp w
    have:=h i (BC.mpr hi)
    rw[AG,AI hi]at this
    exact this
   .intro h i hi
    have hi:=BC.mp hi
    rw[AG,AI hi]
    exact h _ (D4 hi)
  rw[e]
  refine⟨.bl _,H,?_,rfl,q⟩
  exact I.kept (t':=y) λb o e=>D b o (λz=>by
   have:=AS e
   rw[AM.mp z]at this
   exact BW _ this) (AD _ e)
end
structure DefAt(K:Frag)(mg:Str->Option V9)(x:Str)(st:Stmt)(ps:List Str):Prop where
 ex:∃ f fd,Fun K x x st f fd/\jX K fd ps []/\mg x=some (.ref f)
def Calls(P:P9)(w:W9)(K:Frag)(mg:Str->O9 V9)(base:Hz)(CX:CXT)(k:Nat)(x:Str)(ps:L9 Str)(sp:Sp):Prop:=
 ∃ f fd,FnOk P w K mg base CX k f fd ps sp/\jX K fd ps []/\mg x=some (.ref f)/\keepIn K (.ref f)=true
section
variable{P:P9}{w:W9}{K:Frag}{mg:Str->O9 V9}{base:Hz}{x:Str}{st:Stmt}{N ps:L9 Str}{k:Nat}{sp:Sp}
theorem DefAt.ok(D:DefAt K mg x st ps)(S:FnScope N ps (aI st))(len:∀ vs H Q E,sp vs H Q E->vs.length=ps.length)
  (a:∀ (f:Az) (cdv:V9) (A:U9) (outer:L9 Env) (s:S9) (H:Hp) (vs:L9 V) (Q:VK) (E:XK),Room k (A.deeper (envOfC x (aI st) s.heap.objs.size f cdv))->sp vs H Q E->
   ∃ t,PSs (iX CX0 P w K mg base N x (aI st) f cdv A outer s H E).nox (bF st) t/\t {nx:=λ_ H'=>Q .non H',rt:=Q} (start N vs) H):Calls P w K mg base CX0 (k+1) x ps sp:=by
 obtain⟨f,fd,F,b,m⟩:=D.ex
 exact⟨f,fd,F.ok S len (a f),b,m,F.kp⟩
theorem DefAt.okX(D:DefAt K mg x st ps)(S:FnScope N ps (aI st))(len:∀ vs H Q E,sp vs H Q E->vs.length=ps.length)
  (a:∀ (f:Az) (cdv:V9) (A:U9) (outer:L9 Env) (s:S9) (H:Hp) (vs:L9 V) (Q:VK) (E:XK),Room k (A.deeper (envOfC x (aI st) s.heap.objs.size f cdv))->sp vs H Q E->
   ∃ t,PSs ((iX (CXe P w) P w K mg base N x (aI st) f cdv A outer s H E).fly E) (bF st) t/\t {nx:=λ_ H'=>Q .non H',rt:=Q} (start N vs) H):Calls P w K mg base (CXe P w) (k+1) x ps sp:=by
 obtain⟨f,fd,F,b,m⟩:=D.ex
 exact⟨f,fd,F.okX S len (a f),b,m,F.kp⟩
theorem Calls.imp{CX:CXT}{a:Sp}(C:Calls P w K mg base CX k x ps sp)(h:∀ vs H Q E,a vs H Q E->sp vs H Q E):Calls P w K mg base CX k x ps a:=by
 obtain⟨f,fd,F,b,m,c⟩:=C
 exact⟨f,fd,F.imp h,b,m,c⟩
end
section
variable{X:Cx}{CX:CXT}{k:Nat}{x:Str}{ps:L9 Str}{sp:Sp}{E:XK}{p pos:Pos}{e:E2}{es:L9 E2}{t:TA}
theorem aWC(C:Calls X.prog X.w X.K X.mg X.base CX k x ps sp)(hr:Room k X.A)(d:Gl X x)(hx:lC CX X E)(g:PA X (e::es) t)(a:(x == ("__debug__":Str))=false:=by decide)
  (he:starEach (e::es) X.env=(false,eval e X.env)::starEach es X.env:=by rfl) (hpl:(backTo pos (starEach es X.env)).any (·.1)=false:=by rfl):PE X (.Call (.Name x p) (e::es) [] pos) (aF3 sp [] E t):=by
 obtain⟨f,fd,F,b,m,c⟩:=C
 exact aOW F hr d m c b .nil hx g a he hpl
end
theorem DatV.tup_of{v:V}(h:DatV K H v (.tuple ds)):∃ a xs,v=.ref a/\SqT K H a xs/\DatVs K H xs ds:=by
 cases h with
 | tup h1 h2=>exact⟨_,_,rfl,h1,h2⟩
theorem DatV.lst_of{v:V}(h:DatV K H v (.list ds)):∃ a xs,v=.ref a/\SqL K H a xs/\DatVs K H xs ds:=by
 cases h with
 | lst h1 h2=>exact⟨_,_,rfl,h1,h2⟩
theorem DatV.int_of{v:V}{i:Int}(h:DatV K H v (.int i)):v=.int i:=by cases h;rfl
theorem DatV.str_of{v:V}{i:Str}(h:DatV K H v (.str i)):v=.str i:=by cases h;rfl
theorem DatVs.cons_of{xs:L9 V}{d:Dz}(h:DatVs K H xs (d::ds)):∃ x t,xs=x::t/\DatV K H x d/\DatVs K H t ds:=by
 cases h with
 | cons h1 h2=>exact⟨_,_,rfl,h1,h2⟩
theorem DatVs.nil_of{xs:L9 V}(h:DatVs K H xs []):xs=[]:=by cases h;rfl
theorem cV.nil:cV [] []:=⟨rfl,λ_ _ h=>by simp at h⟩
theorem cV.own{τ Y:St}{u:O9 V}(h:cV τ Y):cV (none::τ) (u::Y):=⟨by simp[h.1],λi v e=>by
 cases i with
 | zero=>simp at e
 | succ i=>simpa using h.2 i v (by simpa using e)⟩
theorem cV.nil_of{Z:St}(h:cV [] Z):Z=[]:=D8.mp h.1
def SqS(K:Frag)(H:Hp)(a:Az)(xs:L9 V):Prop:=SqL K H a xs\/SqT K H a xs
theorem PI.or{X:Cx}{a:E2}{w1 w2:TI}(h1:PI X tg a w1)(h2:PI X tg a w2):PI X tg a (λZ H R=>w1 Z H R\/w2 Z H R):=λap s Z H R I h=>h.elim (h1 ap s Z H R I) (h2 ap s Z H R I)
def aX7(K:Frag)(tl:TE):TI:=λZ H R=>tl Z H λx H1=>∃ a,x=.ref a/\(((∃ xs,SqL K H1 a xs)/\R (Itl K a) H1)\/((∃ xs,SqT K H1 a xs)/\R (Itt K a) H1))
theorem aH5{X:Cx}{l:E2}{tl:TE}(k:PE X l tl):PI X tg l (aX7 X.K tl):=by
 intro ap s Z H R I h
 refine thn (k ap s Z H _ I h) λv s1 g=>?_
 obtain⟨x,H1,c,r1,j⟩:=g
 obtain⟨a,e,q⟩:=j
 subst e
 cases r1
 rcases q with ⟨⟨xs,f⟩,q⟩|⟨⟨xs,f⟩,q⟩
 .obtain ⟨d,n,p,m⟩:=c.list f
  refine E7 p.isList ?_
  refine⟨s1.heap.objs.size,[s1.heap.objs.size],_,_,H1,rfl,c.kept (t':=s1.toks) λb o e=>AD _ e,aHT a _,⟨_,AV _ rfl,rfl,rfl⟩,λb i=>?_,q⟩
  obtain rfl:=AM.mp i
  exact c.fpOk (AK _) (c.hok.fresh (AK _))
 .obtain ⟨d,n,p,m⟩:=c.tuple f
  refine wpAny_pyIter_tuple (show s1.heap.IsTuple a d.toArray from p) ?_
  refine⟨s1.heap.objs.size,[s1.heap.objs.size],_,_,H1,rfl,c.kept (t':=s1.toks) λb o e=>AD _ e,aFY a _,⟨_,AV _ rfl,rfl,rfl⟩,λb i=>?_,q⟩
  obtain rfl:=AM.mp i
  exact c.fpOk (AK _) (c.hok.fresh (AK _))
def aWD(i j:Int):Prop:=0 < j/\j < 2 ^ 64
theorem aLI{X:Cx}:OpR X (binaryOp .FloorDiv) (rI aWD λi j=>.int (i / j)):=opI λi j _ _ _ _ _ a q=>by
 have h1:(0:Int) < j:=a.1
 have h2:j < 2 ^ 64:=a.2
 have b:j.natAbs < 2 ^ 64:=by ext
 have c:j.natAbs.log2 < 64:=(Nat.log2_lt (by ext)).mpr b
 exact floordiv_int (by ext) (by rw[Int.fdiv_eq_ediv_of_nonneg i (by ext)];exact q) (.inl (PyProof.noPylong_of_log2 (by ext)))
theorem aWE{X:Cx}{w:W9}:lC (CXe P w) X E0:=by
 rintro ap Z H s a s' I ⟨e,C,od,H',rfl,os,bare,un,hok,he,hv,q⟩
 ext
section
variable{X:Cx}
def aX8:V->O9 Int->O9 Int->Hp->VK->Prop:=λx lo hi H Q=>∃ z,x=.str z/\z.length<=sizeLine/\Q (.str (Txt.slice z lo hi)) H
theorem aEA{v:V9}(h:IsPart v o):∃ l:O9 (Int×Tok),partValue l=v/\l.map (·.1)=o:=by
 cases h with
 | none=>exact⟨none,rfl,rfl⟩
 | int i t=>exact⟨some (i,t),rfl,rfl⟩
theorem aH6:SlR X aX8:=by
 intro ap s Z H x v p n lo hi sl Q I e c m j h
 obtain⟨z,rfl,f,q⟩:=h
 obtain⟨t,rfl⟩:=e
 obtain⟨l,rfl,b⟩:=aEA m
 obtain⟨u,rfl,k⟩:=aEA j
 obtain⟨o,d,g,i⟩:=c
 refine⟨"str",_,PyProof.Rows.slot_str_getitem.lookup,rfl,?_⟩
 refine wpAny_getItem_str_slice (l:=l) (u:=u) (st:=none) ⟨o,d,g,i⟩ rfl ?_
 have le:=Txt.slice_le z lo hi
 unfold Txt.slice at q le
 unfold sliceMade slicePicked
 rw[b,k]
 simp only[EJ,IJ,Option.map_none,HB]at q le ⊢
 by_cases a:((Builtin.Str.strSliceIndices lo hi 1 z.length).length == z.length)=true
 .rw[AN a]at q ⊢
  exact⟨.str z,H,I,⟨t,rfl⟩,q⟩
 .rw[AL a]at q le ⊢
  exact⟨A2 le f,.str _,H,I.tok _,⟨_,rfl⟩,q⟩
def aH7:V->L9 V->Hp->VK->Prop:=λx vs H Q=>∃ z y i rest,x=.str z/\vs=[.str y]/\Builtin.Str.occurrences z y 0 z.length 1=i::rest/\Q (.int i) H
theorem aBC:MtR X "str.index" aH7:=by
 intro ap s Z H x vs v us Q I a c h
 obtain⟨z,y,i,rest,rfl,rfl,d,q⟩:=h
 obtain⟨t,rfl⟩:=a
 obtain⟨u,rfl,b,rfl⟩:=c.one
 exact call_gives F.slot_str_index rfl F.entry_str_index (F.args_str_index_2 _ _) (gives_str_index z y t b i rest d) ⟨.int i,H,I.tok _,⟨_,rfl⟩,q⟩
def Ity(z:Str):It:=
 ⟨λi _=>i < z.cps.size,λi H x H'=>∃ p c,H p=none/\x=.ref p/\H'=upd H p (.tup [.int i,.str ⟨#[c]⟩])/\z.cps[i]? = some c,λi _=>i=z.cps.size⟩
theorem aGB{w:W9}{k1}{x:Pos}(z:Str)(t:Tok)(T:String)(hT:∀ A:U9,A.handled=none->∀ it,Draws P w A it [it] z.cps.size (λi v=>∃ c u,z.cps[i]? = some c/\v=Value.str {cps:=#[c]} u) λi h=>h.IsStrIter it T z t i)
  (e it:Az) (hei:e≠it):Turn P w K (.Tuple es k1 x) (Ity z) [e,it] e (λi h=>(∃ f,IsEnum h e it i f)/\h.IsStrIter it T z t i) where
 mem:=by simp
 obj:=λi h st b y=>by
  obtain⟨⟨f,s1⟩,o,e2,c,d⟩:=st
  ext
 keep:=λi h h' st k=>by
  obtain⟨⟨f,s1⟩,o,e2,c,d⟩:=st
  exact⟨⟨f,k e (by simp) _ s1⟩,o,k it (by simp) o e2,c,d⟩
 item:=by
  intro X J N S a i ap s Z H E I F st D
  subst J N S
  obtain⟨⟨f,s1⟩,G⟩:=st
  obtain⟨f0,f1,f2,f3,f4,f5⟩:=F e (by simp)
  obtain⟨R,M,g2,g3,g4,g5⟩:=F it (by simp)
  refine HK (hT X.A.in1 (I.ok.hd a) it) s1 G D hei (by simpa using hei) λu h' Q aa so si st ac kp=>?_
  obtain⟨c,tc,L,hu⟩:=aa
  subst hu
  refine⟨_,rfl,GW so λh2 se W=>?_⟩
  have B:s.heap.objs.size≠e:=BY (AS s1)
  have Y:h2.get? s.heap.objs.size=some {cls:=.type "tuple",data:=.seq #[.int i Q,.str ⟨#[c]⟩ tc]}:=(W.2 _ B).trans st
  have U:H s.heap.objs.size=none:=I.hok.fresh (AK _)
  have g:∀ b o,b≠e->b≠it->s.heap.get? b=some o->h2.get? b=some o:=λb o h1 V q=>(W.2 b h1).trans (kp b o h1 V q)
  have C:HOk X.prog X.w H h2:=λb p q=>by
   refine(I.hok b p q).stay (λc v a q'=>g c v ?_ ?_ q') (λ_ q=>q) (λ_ _ q=>q) λ_ _ q=>q
   .grind
   .grind
  have l:HOk X.prog X.w (upd H s.heap.objs.size (.tup [.int i,.str ⟨#[c]⟩])) h2:=HOk.track C U ⟨by show 2<=sizeLine;decide,[.int i Q,.str ⟨#[c]⟩ tc],.cons ⟨_,rfl⟩ (.cons ⟨_,rfl⟩ .nil),⟨_,Y,⟨rfl,rfl⟩,_,rfl⟩⟩
  have j:∀ b p,H b=some p->b≠s.heap.objs.size:=λb p q=>a6 q U
  have I2:Inv X ap Z (upd H s.heap.objs.size (.tup [.int i,.str ⟨#[c]⟩])) {s with heap:=h2,gens:=s.gens,drawn:=s.drawn,toks:=Q+1}:=by
   refine I.step (ch:=[e,it]) (λb y=>?_) (λb o _ _ a q _=>g b o (λz=>a (by simp[z])) (λz=>a (by simp[z])) q) (λb o _ _ a q _=>⟨o.slots,g b o (λz=>a (by simp[z])) (λz=>a (by simp[z])) q⟩)
    (λb o _ q n=>by rw[aE (A3 (AS q))];exact n) (λb o a q=>⟨o,g b o (λz=>a (by simp[z])) (λz=>a (by simp[z])) q⟩) (λb ys q=>by rw[aE (j b _ q)];exact q) (λb o p q=>by rw[aE (j b _ q)];exact q)
    (λb ps q=>by rw[aE (j b _ q)];exact q) (λm hm=>?_) l I.bare
   .grind
   .obtain ⟨o,O,ep,ho,r⟩:=hm
    exact⟨o,O,ep,g _ o (BF f1) (BF M) ho,r⟩
  refine⟨.ref s.heap.objs.size,_,I2,rfl,⟨_,c,U,rfl,rfl,L⟩,⟨⟨_,by simpa using se⟩,?_⟩,λb y=>?_⟩
  .obtain ⟨o,q1,q2,q3⟩:=si
   exact⟨o,(W.2 it hei.symm).trans q1,q2,q3⟩
  .rcases AW.mp y with z|z
   .subst z;rw[aE (BF B)];exact f0
   .obtain rfl:b=it:=by simpa using z
    obtain⟨o,q,_⟩:=G
    rw[aE (A3 (AS q))];exact R
 done:=by
  intro X J N S a i ap s Z H E I F st D
  subst J N S
  obtain⟨⟨f,s1⟩,G⟩:=st
  obtain⟨R,M,g2,g3,g4,g5⟩:=F it (by simp)
  have D:i=z.cps.size:=D
  subst D
  exact HY (hT X.A.in1 (I.ok.hd a) it) s1 G λh' eb=>⟨rfl,I.turned (t':=s.toks) (λb o y q=>eb b o y q) R M g3 g4 g5⟩
 self:=λ_ _ _ _ _ st h=>E8 st.1.choose_spec h
def aH8(ta:TA):TI:=λZ H R=>ta Z H λvs H1=>∃ z,vs=[.str z]/\R (Ity z) H1
theorem aLJ{k1}{d:Pos}{a:E2}{ta:TA}{p pos:Pos}(C:Gl X "enumerate")(B:X.mg "enumerate"=none)(o:PA X [a] ta)(r:starEach [a] X.env=[(false,eval a X.env)]:=by rfl) :
  PI X (.Tuple es k1 d) (.Call (.Name "enumerate" p) [a] [] pos) (aH8 ta):=by
 intro ap s Z H R I h
 refine Call_ (jU I C B GL (B3 (thn (o pos ap s Z H _ I h) λus s1 g=>?_) r rfl))
 obtain⟨vs,H1,f,r1,l⟩:=g
 obtain⟨z,e,q⟩:=l
 subst e
 obtain⟨u,rfl,t,rfl⟩:=kZ r1
 have y:∀ A:U9,A.handled=none->∀ it,Draws X.prog X.w A it [it] z.cps.size (λi v=>∃ c u,z.cps[i]? = some c/\v=Value.str {cps:=#[c]} u) λi h=>h.IsStrIter it (strIterType z) z t i:=λA k it=>by
  unfold strIterType
  split
  · exact Draws.strAscii k it z t
  · exact Draws.strWide k it z t
 refine call_enumerate_str λh' j x n D=>?_
 have m:Inv X ap Z H1 {s1 with heap:=h'}:=f.kept (t':=s1.toks) D
 refine E8 j ?_
 refine⟨s1.heap.objs.size+1,[s1.heap.objs.size+1,s1.heap.objs.size],_,_,H1,rfl,m,aGB z t _ y _ _ (BY (D3 _)),⟨⟨_,j⟩,x⟩,λb E=>?_,q⟩
 rcases AW.mp E with z|z
 .subst z
  exact f.fpOk (GI _) (f.hok.fresh (GI _))
 .obtain rfl:b=s1.heap.objs.size:=by simpa using z
  exact f.fpOk (AK _) (f.hok.fresh (AK _))
end
structure RoomH(k:Nat)(A:Around):Prop where
 dp:A.depth+3 * k+5 < recursionLimit
 un:A.units+16 * k+200 < cLine
theorem Room.h{A:U9}(r:Room k A):RoomH k A:=⟨r.dp,r.un⟩
structure FnOkH(P:Program)(w:World)(K:Frag)(mg:Str->Option V9)(base:Heap)(k:Nat)(f:Az)(fd:FuncData)(ps:List Str)(sp:Sp):Prop where
 len:∀ vs H Q E,sp vs H Q E->vs.length=ps.length
 run:∀ (A:Around) (outer:List Env) (s:S9) (H:Hp) (args:Args) (us:List V9) (vs:List V) (Q:VK),RoomH k A->Env0 P w K mg base A outer s H->BindsTo s fd args (ps.zip us)->aZ vs us->sp vs H Q E0->
  codeAny (model P w) A (.call (.ref f) args) (CR CX0 outer P w H s Q E0) s
theorem FnOkH.ok{w:W9}{fd:FuncData}{ps:L9 Str}{sp:Sp}(F:FnOkH P w K mg base k f fd ps sp)(g:∀ vs H Q E,sp vs H Q E->sp vs H Q E0):FnOk P w K mg base CX0 k f fd ps sp:=
 ⟨F.len,λA outer s H args us vs Q E hr a d b c=>FT (F.run A outer s H args us vs Q hr.h a d b (g _ _ _ _ c)) λr s' h=>by
  cases r with
  | error e=>exact h
  | ok fl=>cases fl<;>exact h⟩
end L2
variable{o:Obj}{fr:L9 Str}{xs:L9 Dz}
namespace Mc
inductive Tn where
 | n (i:Int)|w (x:Str)
noncomputable def Tn.v:Tn->V
 | .n i=>.int i
 | .w x=>.str x
noncomputable def Tn.d:Tn->Dz
 | .n i=>.int i
 | .w x=>.str x
structure Rw where
 l:Tn
 c:List (Int×Int)
 r:Tn
def cellD(c:Int×Int):Dz:=.tuple [.int c.1,.int c.2]
def aO(r:Rw):Dz:=.tuple [r.l.d,.tuple (r.c.map cellD),r.r.d]
def aD(rs:L9 Rw):Dz:=.tuple (rs.map aO)
inductive CellsAt(K:Frag)(H:Hp):List V->List (Int×Int)->Prop
 | nil:CellsAt K H [] []
 | cons {q:Az} {a b:Int} {xs:List V} {cs:List (Int×Int)} (h:SqS K H q [.int a,.int b]) (t:CellsAt K H xs cs):CellsAt K H (.ref q::xs) ((a,b)::cs)
def aWF(K:Frag)(H:Hp)(v:V)(r:Rw):Prop:=∃ p b cs,v=.ref p/\SqS K H p [r.l.v,.ref b,r.r.v]/\SqS K H b cs/\CellsAt K H cs r.c
inductive RowsAt(K:Frag)(H:Hp):List V->List Rw->Prop
 | nil:RowsAt K H [] []
 | cons {v:V} {r:Rw} {xs:List V} {rs:List Rw} (h:aWF K H v r) (t:RowsAt K H xs rs):RowsAt K H (v::xs) (r::rs)
section
variable{K:Frag}{H H':Hp}
theorem CellsAt.len:∀ {xs:L9 V} {cs:L9 (Int×Int)},CellsAt K H xs cs->xs.length=cs.length
 | _,_,.nil=>rfl
 | _,_,.cons h t=>by simp[t.len]
theorem RowsAt.len:∀ {xs:L9 V} {rs:L9 Rw},RowsAt K H xs rs->xs.length=rs.length
 | _,_,.nil=>rfl
 | _,_,.cons h t=>by simp[t.len]
end
theorem aO8(i:Str):(PyData.str i).eqv (.str i)=true:=by rw[PyData.eqv.eq_6];simp
noncomputable def Tn.ok:Tn->Prop
 | .n _=>True
 | .w x=>PyData.strOk x=true
def Rw.ok(r:Rw):Prop:=r.l.ok/\r.r.ok
theorem xY:∀ {xs:L9 Dz},(∀ x∈xs,x.canLay0=true)->PyData.canLayAll0 xs=true
 | [],_=>by rfl
 | x::t,h=>by
  show(x.canLay0 && PyData.canLayAll0 t)=true
  rw[h x (AX ..),xY λy a=>h y (AQ _ a)];rfl
theorem qN:∀ {xs:L9 Dz},(∀ x∈xs,x.depth<=n)->PyData.depthAll xs<=n
 | [],_=>B8 _
 | x::t,h=>by
  show max x.depth (PyData.depthAll t)<=n
  exact Nat.max_le.mpr ⟨h x (AX ..),qN λy a=>h y (AQ _ a)⟩
def Sh(n:Nat)(d:Dz):Prop:=d.canLay0=true/\d.depth<=n
theorem lD(h:∀ x∈xs,Sh n x):Sh (n+1) (.tuple xs):=⟨xY λx a=>(h x a).1,by
 have:=qN λx a=>(h x a).2
 show PyData.depthAll xs+1<=n+1
 ext⟩
theorem sh_lst(h:∀ x∈xs,Sh n x):Sh (n+1) (.list xs):=⟨xY λx a=>(h x a).1,by
 have:=qN λx a=>(h x a).2
 show PyData.depthAll xs+1<=n+1
 ext⟩
theorem oE(n:Nat)(i:Int):Sh n (.int i):=⟨rfl,B8 _⟩
theorem aH9(n:Nat)(h:PyData.strOk x=true):Sh n (.str x):=⟨h,B8 _⟩
theorem aN1(n:Nat){t:Tn}(h:t.ok):Sh n t.d:=by
 cases t with
 | n i=>exact oE n i
 | w x=>exact aH9 n h
theorem Sh.shaped{n:Nat}{d:Dz}(h:Sh n d)(a:n<=64):shaped d=true:=by
 show(d.canLay0 && decide (d.depth<=64))=true
 rw[h.1,A1 (A2 h.2 a)];rfl
section
variable{K:Frag}{H:Hp}
theorem cells_of:∀ {xs:L9 V} {cs:L9 (Int×Int)},DatVs K H xs (cs.map cellD)->CellsAt K H xs cs
 | xs,[],h=>by obtain rfl:=h.nil_of;exact .nil
 | xs,c::cs,h=>by
  obtain⟨x,t,rfl,h1,h2⟩:=h.cons_of
  obtain⟨a,ys,rfl,g,e⟩:=h1.tup_of
  obtain⟨j,t0,rfl,b,d⟩:=e.cons_of
  obtain⟨k,l,rfl,f,i⟩:=d.cons_of
  obtain rfl:=i.nil_of
  obtain rfl:=b.int_of
  obtain rfl:=f.int_of
  exact .cons (.inr g) (cells_of h2)
end
section
variable{K:Frag}{h:Hz}{mg:Str->O9 V9}
theorem mG{ps:L9 Str}{i:V9}{g:O9 Az}{e:Array (O9 V9)}{kV d:V9}(X:K.In h)(G:h.Ns mainGlobals mg)
  (a:nsIn K mainGlobals x=some (some (.ref f))) (l:K.lookup f=some ⟨i,od,.func (fnOf x x (fX st) (bF st) (aI st) .none kV doc pm g d ct),e⟩)
  (c:codeIn K d x=true) (k:keepIn K (.ref f)=true)
  (b:∀ (kV doc pm:V9) (g:O9 Az) (d ct:V9) (us:L9 V9),us.length=ps.length->bindArgs (fnOf x x (fX st) (bF st) (aI st) .none kV doc pm g d ct) ⟨us,[]⟩=pure (ps.zip us)):DefAt K mg x st ps:=by
 have F:=aH2 (st:=st) l c k
 exact⟨f,_,F,F.binds b,FI X G a⟩
end
noncomputable def aY(n c:Nat):Bool:=decide (97<=c/\c < 97+n)
theorem occ_one(x:Str)(c:Nat):(Builtin.Str.occurrences x ⟨#[c]⟩ 0 x.length 1=[]/\∀ i:Nat,x.cps.toList[i]? ≠ some c)\/∃ (i:Nat) (r:L9 Nat),Builtin.Str.occurrences x ⟨#[c]⟩ 0 x.length 1=i::r/\x.cps.toList[i]? = some c/\∀ k:Nat,k < i->x.cps.toList[k]? ≠ some c:=by
 rcases StrLaws.occ_head x ⟨#[c]⟩ 1 (AK _)with ⟨h1,h2⟩|⟨i,r,h1,h2,b⟩
 · exact .inl ⟨h1, λi e => h2 i ((G0 x c i).mpr e)⟩
 · exact .inr ⟨i, r, h1, (G0 x c i).mp h2, λk a e => b k a ((G0 x c k).mpr e)⟩
theorem aO9(h1:1<=n)(h2:n<=3):(Txt.slice "abc" none (some (n:Int))).cps.toList=[97,98,99].take n:=by
 obtain rfl|rfl|rfl:n=1\/n=2\/n=3:=by ext
 all_goals decide +kernel
theorem zP(h1:1<=n)(h2:n<=3):aY n c=true↔∃ i:Nat,(([97,98,99]:L9 Nat).take n)[i]? = some c:=by
 unfold aY
 rw[decide_eq_true_iff]
 constructor
 .intro h
  refine⟨c - 97,?_⟩
  obtain rfl|rfl|rfl:n=1\/n=2\/n=3:=by ext
  .obtain rfl:c=97:=by ext
   rfl
  .obtain rfl|rfl:c=97\/c=98:=by ext
   all_goals rfl
  .obtain rfl|rfl|rfl:c=97\/c=98\/c=99:=by ext
   all_goals rfl
 .rintro ⟨i,e⟩
  obtain⟨hi,b⟩:=AJ.mp e
  have a:=D4 hi
  rw[b]at a
  obtain rfl|rfl|rfl:n=1\/n=2\/n=3:=by ext
  all_goals
   simp at a
   ext
theorem aLK(h1:1<=n)(h2:n<=3):(!(!(Builtin.Str.occurrences (Txt.slice "abc" none (some (n:Int))) ⟨#[c]⟩ 0 (Txt.slice "abc" none (some (n:Int))).length 1).isEmpty)) = !aY n c:=by
 have e:=aO9 h1 h2
 rcases occ_one (Txt.slice "abc" none (some (n:Int))) c with ⟨a,b⟩|⟨i,r,a,b,_⟩
 .rw[a]
  have:aY n c=false:=Bool.eq_false_iff.mpr λz=>by
   obtain⟨i,hi⟩:=(zP h1 h2).mp z
   rw[e]at b
   exact b i hi
  rw[this];rfl
 .rw[a]
  rw[e]at b
  rw[(zP h1 h2).mpr ⟨i,b⟩];rfl
theorem aIA(h:aY 3 c=true):∃ r,Builtin.Str.occurrences "abc" ⟨#[c]⟩ 0 ("abc":Str).length 1=(c - 97)::r:=by
 have h:=A5 h
 refine⟨[],?_⟩
 obtain rfl|rfl|rfl:c=97\/c=98\/c=99:=by ext
 all_goals decide +kernel
end Mc
variable{st:Int×Int}
namespace L2
variable{H:Hp}{φ:Hz->Prop}
section
variable{κ:Type}[DecidableEq κ]
theorem KV.length{a:L9 (κ×V)}{vs:L9 (κ×V9)}(r:KV a vs):a.length=vs.length:=FH r
end
theorem aGC{w:W9}{k:Key}(r:aR (kV k) u):(cD P w).is k u=true:=by
 cases k with
 | inl i=>obtain⟨t,e⟩:=(show ∃ t,u=Value.int i t from r);subst e;exact aDX P w i t
 | inr x=>obtain⟨t,e⟩:=(show ∃ t,u=Value.str x t from r);subst e;exact aDY P w x t
section
variable{X:Cx}{ap:L9 (Az×Obj)}{Z:St}{H:Hp}{s:S9}{a:Az}{y v:V}{u r:V9}{o:O9 V}{A:U9}{E:V9->S9->Prop}
theorem Inv.big(I:Inv X ap Z H s):sysModules < s.heap.objs.size:=by
 have h:mainGlobals < s.heap.objs.size:=(I.mod.glob.keeps I.bk).lt
 exact CV (by decide) h
theorem jJ{h':Hz}{c:HO}(I:Inv X ap Z H s)(g:Mut (H a))(d:Heap.SameBut a s.heap h')(f:∃ q,h'.get? a=some q)(new:bS X.prog X.w (upd H a c) h' a c) :
  Inv X ap Z (upd H a c) {s with heap:=h',toks:=t'}:=
 I.write (x:=a) (e:=a) g (.inl rfl) (λb q h z=>(d.2 b h).trans z) f new
end
def aTE(i:E2):Prop:=∀ ov iv,subscripted i false ov iv=operate [ov,iv] (getItem ov iv)
theorem aPA{w:W9}{A:U9}{b a:E2}{pos:Pos}{T id:String}{Q:V9->S9->Prop}
  (k:typeLookup (.type T) "__getitem__"=pure (some (.builtin id))) (l:aTE a)
  (h:wpAny (model prog w) A (eval b env) (λo s₁=>wpAny (model prog w) A (eval a env) (λi s₂=>s₂.TypeIs o T/\wpAny (model prog w) A (getItem o i) Q E s₂) E s₁) E s) :
  wpAny (model prog w) A (eval (.Subscript b a pos) env) Q E s:=by
 refine Subscript_ (BZ h (λo s₁ f=>BZ f (λi s₂ c=>?_) λ_ _ x=>x) λ_ _ x=>x)
 obtain⟨j,c⟩:=c
 unfold subscriptTail
 refine AA ?_
 rw[getitemInPython_of_ne j.not_modules]
 refine AA (FU j k ?_)
 have e:wpAny (model prog w) A (subscripted a false o i) (λr d=>wpAny (model prog w) A (letTemporaryGo b o r >>= λ_=>pure r) Q E d) E s₂:=by
  rw[l o i]
  exact wpAny_operating (BZ c (λr d g=>AA (wpAny_letTemporaryGo (AE g))) λ_ _ x=>x)
 first
  | exact AE (AA e)
  | exact AA (AE (AA e))
  | exact AA e
structure M1(X:Cx)(o:Expr)(m:Str)(apos:Pos)(e:Expr)(cpos:Pos):Prop where
 base:attributeBase o m X.env (eval o X.env)=eval o X.env
 few:((backTo cpos (starEach [e] X.env)).all (λx=>!x.1) && (backToKw cpos (keywordEach [] X.env)).all (λx=>x.1.isSome)
  && decide (([e]:List Expr).length+([]:List Keyword).length+(if ([]:List Keyword).isEmpty then 0 else 1) < 30))=true
 line:(apos.endLine == cpos.line)=true
 trees:backTo cpos (starEach [e] X.env)=[(false,eval e X.env)]
structure M2(X:Cx)(o:Expr)(m:Str)(apos:Pos)(e f:Expr)(cpos:Pos):Prop where
 base:attributeBase o m X.env (eval o X.env)=eval o X.env
 few:((backTo cpos (starEach [e,f] X.env)).all (λx=>!x.1) && (backToKw cpos (keywordEach [] X.env)).all (λx=>x.1.isSome)
  && decide (([e,f]:List Expr).length+([]:List Keyword).length+(if ([]:List Keyword).isEmpty then 0 else 1) < 30))=true
 line:(apos.endLine == cpos.line)=true
 trees:backTo cpos (starEach [e,f] X.env)=[(false,eval e X.env),(false,eval f X.env)]
theorem hu1{A:U9}(hr:Room k A):A.units+1 < cLine:=CD (Nat.add_le_add_left (by decide:1<=64) _) hr.units
def aBD(K:Frag)(H:Hp)(ks:L9 (L9 Key×Az)):Prop:=∀ p∈ks,SqT K H p.2 (p.1.map kV)
theorem SqT.ext{q:Az}{o:HO}{xs:L9 V}(h:SqT K H q xs)(b:H a=some (.ext φ)):SqT K (upd H a o) q xs:=by
 rcases h with (h|⟨u,h⟩)|h
 .refine .inl (.inl ?_)
  rw[aE (λz=>by rw[z,b]at h;cases h)];exact h
 .refine .inl (.inr ⟨u,?_⟩)
  rw[aE (λz=>by rw[z,b]at h;cases h)];exact h
 .exact .inr h
theorem SqL.ext{q:Az}{o:HO}{xs:L9 V}(h:SqL K H q xs)(b:H a=some (.ext φ)):SqL K (upd H a o) q xs:=by
 rcases h with (h|⟨u,h⟩)|h
 .refine .inl (.inl ?_)
  rw[aE (λz=>by rw[z,b]at h;cases h)];exact h
 .refine .inl (.inr ⟨u,?_⟩)
  rw[aE (λz=>by rw[z,b]at h;cases h)];exact h
 .exact .inr h
mutual
theorem DatV.ext{o:HO}(ha:H a=some (.ext φ)):∀ {x:V} {d:Dz},DatV K H x d->DatV K (upd H a o) x d
 | _,_,.non=>.non
 | _,_,.bl b=>.bl b
 | _,_,.int i=>.int i
 | _,_,.str x=>.str x
 | _,_,.lst h ds=>.lst (h.ext ha) (DatVs.ext ha ds)
 | _,_,.tup h ds=>.tup (h.ext ha) (DatVs.ext ha ds)
 | _,_,.pl h=>.pl (by rw[aE (λz=>by rw[z,ha]at h;cases h)];exact h)
theorem DatVs.ext{o:HO}(ha:H a=some (.ext φ)):∀ {xs:L9 V} {ds:L9 Dz},DatVs K H xs ds->DatVs K (upd H a o) xs ds
 | _,_,.nil=>.nil
 | _,_,.cons h t=>.cons (DatV.ext ha h) (DatVs.ext ha t)
end
theorem aBD.ext{K:Frag}{H:Hp}{a:Az}{φ:Hz->Prop}{o:HO}{b:L9 (L9 Key×Az)}(h:aBD K H b)(d:H a=some (.ext φ)):aBD K (upd H a o) b:=λp c=>SqT.ext (h p c) d
end L2
variable{z:L9 Nat}{sg:Nat}
namespace Mc
variable{rs:L9 Rw}
def Tn.good(n:Int):Tn->Prop
 | .n i=>0<=i/\i < n
 | .w x=>x="by"\/x="out"
def mH(n:Int)(c:Int×Int):Prop:=0<=c.1/\c.1 < n/\(c.2=1\/c.2 = -1)
def Rw.good(n:Int)(r:Rw):Prop:=r.l.good n/\r.r.good n/\∀ c∈r.c,mH n c
theorem Tn.good.ok{n:Int}{t:Tn}(h:t.good n):t.ok:=by
 cases t with
 | n i=>trivial
 | w x=>
  rcases h with rfl|rfl
  · exact(show PyData.strOk _ = true by decide +kernel)
  · exact(show PyData.strOk _ = true by decide +kernel)
theorem Rw.good.ok{n:Int}{r:Rw}(h:r.good n):r.ok:=⟨h.1.ok,h.2.1.ok⟩
structure Mach(rs:List Rw)(sg:Nat):Prop where
 len:1<=rs.length
 len2:rs.length<=1000
 sg1:1<=sg
 sg3:sg<=3
 row:∀ r∈rs,r.good rs.length/\r.c.length=sg
def aK(sg:Nat)(z:L9 Nat):Prop:=z.length<=1000/\∀ c∈z,aY sg c=true
noncomputable def rowAt(rs:L9 Rw)(q:Int):Rw:=rs.getD q.toNat ⟨.n 0,[],.n 0⟩
noncomputable def a5(rs:L9 Rw)(z:L9 Nat)(st:Int×Int):Tn×Int:=
 if st.1=0 then((rowAt rs st.2).l,1)else if st.1=(z.length:Int)+1 then((rowAt rs st.2).r,-1)else
  (.n ((rowAt rs st.2).c.getD (z.getD (st.1.toNat - 1) 97 - 97) (0,0)).1,((rowAt rs st.2).c.getD (z.getD (st.1.toNat - 1) 97 - 97) (0,0)).2)
def dP(rs:L9 Rw)(z:L9 Nat)(st:Int×Int):O9 (Int×Int):=
 match (a5 rs z st).1 with
 | .w _=>none
 | .n q=>some (st.1+(a5 rs z st).2,q)
def hX(rs:L9 Rw)(z:L9 Nat)(st:Int×Int):Prop:=0<=st.1/\st.1<=(z.length:Int)+1/\0<=st.2/\st.2 < (rs.length:Int)
theorem bL{rs:L9 Rw}{q:Int}(h0:0<=q)(h1:q < rs.length):rs[q.toNat]? = some (rowAt rs q):=by
 have h:q.toNat < rs.length:=by ext
 unfold rowAt
 simp_all
theorem aEB(S:aK sg z)(V:hX rs z st)(h0:st.1≠0)(h1:st.1≠(z.length:Int)+1):∃ c,z[st.1.toNat - 1]? = some c/\aY sg c=true/\z.getD (st.1.toNat - 1) 97=c:=by
 obtain⟨a,b,_,_⟩:=V
 have d:st.1.toNat - 1 < z.length:=by ext
 refine⟨z[st.1.toNat - 1],by simp[d],S.2 _ (D4 d),by rw[AG,AI d];rfl⟩
theorem aBE(M:Mach rs sg)(S:aK sg z)(V:hX rs z st)(h0:st.1≠0)(h1:st.1≠(z.length:Int)+1) :
  ∃ c,(rowAt rs st.2).c[z.getD (st.1.toNat - 1) 97 - 97]? = some c/\(rowAt rs st.2).c.getD (z.getD (st.1.toNat - 1) 97 - 97) (0,0)=c/\mH rs.length c:=by
 obtain⟨c,_,b,e⟩:=aEB S V h0 h1
 rw[e]
 have b:=A5 b
 have hr:=M.row _ (AH (bL V.2.2.1 V.2.2.2))
 have a:c - 97 < (rowAt rs st.2).c.length:=by rw[hr.2];ext
 refine⟨(rowAt rs st.2).c[c - 97],by simp[a],by rw[AG,AI a];rfl,hr.1.2.2 _ (D4 a)⟩
theorem o5{f:Int×Int}(M:Mach rs sg)(S:aK sg z)(V:hX rs z st)(h:dP rs z st=some f):hX rs z f:=by
 have hr:=M.row _ (AH (bL V.2.2.1 V.2.2.2))
 obtain⟨a,b,c,d⟩:=id V
 unfold dP a5 at h
 by_cases i:st.1=0
 .simp only[AN i]at h
  have g:=hr.1.1
  cases e:(rowAt rs st.2).l with
  | w x=>rw[e]at h;cases h
  | n q=>
   rw[e]at h g
   cases h
   exact⟨by show 0<=st.1+1;ext,by show st.1+1<=_;ext,g.1,g.2⟩
 .by_cases h1:st.1=(z.length:Int)+1
  .simp only[AL i,AN h1]at h
   have g:=hr.1.2.1
   cases e:(rowAt rs st.2).r with
   | w x=>rw[e]at h;cases h
   | n q=>
    rw[e]at h g
    cases h
    exact⟨by show 0<=st.1 + -1;ext,by show st.1 + -1<=_;ext,g.1,g.2⟩
  .obtain ⟨m,_,e,g⟩:=aBE M S V i h1
   simp only[AL i,AL h1]at h
   rw[e]at h
   cases h
   obtain⟨k,j,o⟩:=g
   refine⟨?_,?_,k,j⟩
   .grind
   .grind
theorem qO:∀ (N:Nat) (l:L9 Nat),l.Nodup->(∀ x∈l,x < N)->l.length<=N
 | 0,l,_,h=>by
  cases l with
  | nil=>exact AK _
  | cons a t=>exact absurd (h a (by simp)) (by ext)
 | N+1,l,hn,h=>by
  have ih:=qO N (l.erase N) (hn.erase N) (λx b=>by
   have:=(hn.mem_erase_iff).mp b
   have h2:=h x this.2
   ext)
  ext
theorem aGD{l:L9 (Int×Int)}(v:l.Nodup)(g:∀ st∈l,hX rs z st):l.length<=(z.length+2) * rs.length:=by
 have p:∀ x y:Int,0<=x->0<=y->x.toNat=y.toNat->x=y:=by ext
 have lt:∀ (x:Int) (n:Nat),x < n->0<=x->x.toNat < n:=by ext
 have t:∀ (x:Int) (n:Nat),x<=n+1->x.toNat+1<=n+2:=by ext
 have h:=qO ((z.length+2) * rs.length) (l.map λst=>st.1.toNat * rs.length+st.2.toNat) ?_ ?_
 .rwa [AB]at h
 .unfold Nodup
  rw[G1]
  refine HD (λ{a b} ha hb hab e=>hab ?_) v
  obtain⟨m,o,f,i⟩:=g a ha
  obtain⟨u,w,k,s⟩:=g b hb
  have c:=lt _ _ i f
  have d:=lt _ _ s k
  have r:=CD (B8 _) c
  have e1:=CQ (· / rs.length) e
  have e2:=CQ (· % rs.length) e
  simp only[Nat.mul_comm _ rs.length,Nat.mul_add_div r,Nat.mul_add_mod,Nat.div_eq_of_lt c,Nat.div_eq_of_lt d,FJ c,FJ d,Nat.add_zero]at e1 e2
  exact Prod.ext (p _ _ m u e1) (p _ _ f k e2)
 .intro x q
  obtain⟨st,j,rfl⟩:=AT.mp q
  obtain⟨m,o,f,i⟩:=g st j
  have:=Nat.mul_le_mul_right rs.length (t _ _ o)
  rw[Nat.add_mul,Nat.one_mul]at this
  exact A0 (GC (lt _ _ i f) _) this
noncomputable def sL(rs:L9 Rw)(z:L9 Nat):Nat->L9 (Int×Int)->Int×Int->L9 (Int×Int)
 | 0,ps,st=>ps++[st]
 | k+1,ps,st=>if st∈ps then ps++[st]else match dP rs z st with
  | none=>ps++[st]
  | some st'=>sL rs z k (ps++[st]) st'
def sM(rs:L9 Rw)(z:L9 Nat):Nat:=(z.length+2) * rs.length
def lT(rs:L9 Rw)(z:L9 Nat):L9 (Int×Int):=sL rs z (sM rs z) [] (0,0)
structure Way(rs:List Rw)(z:List Nat)(ps:List (Int×Int))(st:Int×Int)(k:Nat):Prop where
 nd:ps.Nodup
 val:∀ s∈ps++[st],hX rs z s
 num:ps.length+k=sM rs z
 res:sL rs z k ps st=lT rs z
theorem Way.start(M:Mach rs sg):Way rs z [] (0,0) (sM rs z) where
 nd:=D0
 val:=λs a=>by
  obtain rfl:s=(0,0):=by simpa using a
  have:=M.len
  exact⟨BV _,by show(0:Int)<=_;ext,BV _,by show(0:Int) < _;ext⟩
 num:=by simp
 res:=rfl
theorem Way.here{ps:L9 (Int×Int)}(W:Way rs z ps st k):hX rs z st:=W.val st (by simp)
theorem Way.stop{ps:L9 (Int×Int)}(W:Way rs z ps st k)(h:st∈ps):ps++[st]=lT rs z:=by
 rw[<-W.res]
 cases k with
 | zero=>rfl
 | succ k=>unfold sL;rw[AN h]
theorem Way.more{ps:L9 (Int×Int)}(W:Way rs z ps st k)(h:st∉ps):∃ j,k=j+1:=by
 have d:(ps++[st]).Nodup:=by
  rw[DE]
  exact⟨W.nd,by simp,λa g b c e=>by rw[AM.mp c]at e;exact h (e▸g)⟩
 have:=aGD d W.val
 rw[AY]at this
 have f:=W.num
 unfold sM at f
 simp only[A7,CS]at this
 exact⟨k - 1,by ext⟩
theorem Way.ends{ps:L9 (Int×Int)}(W:Way rs z ps st k)(h:st∉ps)(e:dP rs z st=none):ps++[st]=lT rs z:=by
 obtain⟨j,rfl⟩:=W.more h
 rw[<-W.res]
 unfold sL
 rw[AL h,e]
theorem Way.next{ps:L9 (Int×Int)}{c:Int×Int}(M:Mach rs sg)(S:aK sg z)(W:Way rs z ps st (k+1))(h:st∉ps)(e:dP rs z st=some c):Way rs z (ps++[st]) c k where
 nd:=by
  rw[DE]
  exact⟨W.nd,by simp,λa g b f e=>by rw[AM.mp f]at e;exact h (e▸g)⟩
 val:=λs d=>by
  rcases BD.mp d with q|q
  · exact W.val s q
  · rw [AM.mp q]; exact o5 M S W.here e
 num:=by rw[AY];have:=W.num;simp;ext
 res:=by
  rw[<-W.res]
  conv=>rhs;unfold sL
  rw[AL h,e]
end Mc
namespace L2
theorem oF:∀ {ys:L9 Str} {us:L9 V9},aZ (ys.map V.str) us->StrsAre us ys
 | [],_,.nil=>.nil
 | y::ys,_,.cons r t=>by obtain⟨t',rfl⟩:=r;exact .cons y t' (oF t)
def aN2(K:Frag):V->L9 V->Hp->VK->Prop:=λx vs H Q=>∃ (sep:Str) (a:Az) (ys:L9 Str),x=.str sep/\vs=[.ref a]/\SqL K H a (ys.map V.str)/\(ys.map λy=>y.length).sum+ys.length * sep.length<=16777216/\Q (.str (Txt.join sep ys)) H
theorem aEC{X:Cx}:MtR X "str.join" (aN2 X.K):=by
 intro ap s Z H x vs v us Q I c i h
 obtain⟨e,a,ys,rfl,rfl,g,d,q⟩:=h
 obtain⟨t,rfl⟩:=c
 obtain⟨u,rfl,f⟩:=i.one
 cases(show u=Value.ref a from f)
 obtain⟨b,r,j,_⟩:=I.list g
 exact join_list (items:=b.toArray) j.isList (by simpa using oF r) d λl k=>⟨.str _,H,I.tok _,⟨_,rfl⟩,q⟩
end L2
variable{y:Str}{m:Nat}{S:Type}
namespace Mc
noncomputable def one(c:Nat):Str:=⟨#[c]⟩
theorem aIB(cs:L9 Nat):∀ (a:Array Nat),(foldl (λcb p=>cb++("":Str).cps++p.cps) a (cs.map one)).toList=a.toList++cs:=by
 induction cs with
 | nil=>intro a;simp
 | cons c t ih=>
  intro a
  rw[AU,DS,ih]
  have:("":Str).cps = #[]:=rfl
  rw[this]
  simp[one]
theorem aLL(cs:L9 Nat):(Txt.join "" (cs.map one)).cps.toList=cs:=by
 unfold Txt.join Builtin.Str.glued
 cases cs with
 | nil=>rfl
 | cons c t=>
  show(foldl _ (one c).cps (t.map one)).toList=_
  rw[aIB];rfl
theorem aED(cs:L9 Nat):((cs.map one).map λy=>y.length).sum=cs.length:=by
 induction cs with
 | nil=>rfl
 | cons c t ih=>rw[AU,AU,List.sum_cons,ih,A7];show 1+_=_;ext
theorem aPB(h:x.cps.toList=y.cps.toList):x=y:=by
 cases x;cases y
 simp_all
theorem aEE(cs:L9 Nat):Txt.join "" (cs.map one)=⟨cs.toArray⟩:=aPB (by rw[aLL])
theorem aPC{k:Int}(h1:1<=sg)(d:sg<=3):∃ c,atI ("abc":Str).cps.toList (k % (sg:Int))=some c/\aY sg c=true:=by
 have a:=CT k (show(sg:Int)≠0 by ext)
 have h2:=CF k (show(0:Int) < sg by ext)
 obtain⟨j,b⟩:∃ j:Nat,k % (sg:Int)=j:=⟨(k % (sg:Int)).toNat,by ext⟩
 rw[b]at a h2 ⊢
 refine⟨97+j,?_,A1 (by ext)⟩
 obtain rfl|rfl|rfl:j=0\/j=1\/j=2:=by ext
 all_goals decide +kernel
section
variable{S O:Type}
inductive Ex(st:S->Option (S⊕O)):Nat->S->O->Prop
 | out {s:S} {o:O} (h:st s=some (.inr o)):Ex st 0 s o
 | go {s s':S} {o:O} {n:Nat} (h:st s=some (.inl s')) (t:Ex st n s' o):Ex st (n+1) s o
inductive Rc(st:S->Option (S⊕O)):Nat->S->S->Prop
 | nil {s:S}:Rc st 0 s s
 | cons {s s' s'':S} {n:Nat} (h:st s=some (.inl s')) (t:Rc st n s' s''):Rc st (n+1) s s''
variable{st:S->O9 (S⊕O)}
theorem Ex.det{s:S}{o o':O}(a:Ex st n s o)(b:Ex st c s o'):n=c/\o=o':=by
 induction a generalizing c o' with
 | out h=>
  cases b with
  | out h'=>rw[h]at h';cases h';exact⟨rfl,rfl⟩
  | go h' t=>rw[h]at h';cases h'
 | go h t ih=>
  cases b with
  | out h'=>rw[h]at h';cases h'
  | go h' t'=>
   ext
theorem Rc.ex{s s':S}{o:O}(a:Rc st k s s')(b:Ex st n s o):∃ n',n=n'+k/\Ex st n' s' o:=by
 induction a generalizing n with
 | nil=>exact⟨n,rfl,b⟩
 | cons h t ih=>
  cases b with
  | out h'=>rw[h]at h';cases h'
  | go h' t'=>
   ext
theorem Rc.to{s s':S}{o:O}(a:Rc st k s s')(b:Ex st n s' o):Ex st (n+k) s o:=by
 induction a with
 | nil=>exact b
 | cons h t ih=>exact .go h (ih b)
theorem Rc.snoc{s s' b:S}(a:Rc st k s s')(h:st s'=some (.inl b)):Rc st (k+1) s b:=by
 induction a with
 | nil=>exact .cons h .nil
 | cons h' t ih=>exact .cons h' (ih h)
theorem Rc.round{s:S}{o:O}(a:Rc st (m+1) s s):¬ Ex st n s o:=λb=>by
 obtain⟨c,e,q⟩:=a.ex b
 have:=(b.det q).1
 ext
def Res(st:S->O9 (S⊕O))(s:S)(r:O9 O):Prop:=∀ o,r=some o↔∃ n,Ex st n s o
theorem Res.det{s:S}{r c:O9 O}(a:Res st s r)(b:Res st s c):r=c:=by
 apply Option.ext
 intro o
 exact(a o).trans (b o).symm
theorem Res.out{s:S}{o:O}(h:st s=some (.inr o)):Res st s (some o):=λo'=>by
 constructor
 · intro e; cases e; exact⟨0, .out h⟩
 · rintro ⟨n, q⟩; rw [((Ex.out h).det q).2]
theorem Res.step{s s':S}{r:O9 O}(h:st s=some (.inl s'))(a:Res st s' r):Res st s r:=λo=>by
 rw[a o]
 constructor
 .rintro ⟨n,q⟩;exact⟨n+1,.go h q⟩
 .rintro ⟨n,q⟩
  cases q with
  | out h'=>rw[h]at h';cases h'
  | go h' t=>rw[h]at h';cases h';exact⟨_,t⟩
theorem Res.round{s:S}(a:Rc st (m+1) s s):Res st s none:=λo=>by
 constructor
 · simp_all
 · rintro ⟨n, q⟩; exact absurd q a.round
open Classical in
def aS(st:S->O9 (S⊕O))(s:S):O9 O:=if h:∃ o n,Ex st n s o then some h.choose else none
theorem nF(st:S->O9 (S⊕O))(s:S):Res st s (aS st s):=λo=>by
 unfold aS
 by_cases h:∃ o n,Ex st n s o
 .rw[dif_pos h]
  obtain⟨n,q⟩:=h.choose_spec
  constructor
  · ext
  · rintro ⟨n', q'⟩; rw [(q.det q').2]
 .grind
theorem Res.eq{s:S}{r:O9 O}(a:Res st s r):r=aS st s:=a.det (nF st s)
structure Und2(st:S->Option (S⊕O))(s0:S)(ps:List S)(s:S):Prop where
 nd:ps.Nodup
 back:∀ p∈ps,∃ m,Rc st (m+1) p s
 res:∀ r,Res st s r->Res st s0 r
theorem Und2.start{a:S}:Und2 st a [] a:=⟨D0,λp b=>by simp at b,λr h=>h⟩
theorem Und2.next{c s s':S}{ps:L9 S}(U:Und2 st c ps s)(g:s∉ps)(h:st s=some (.inl s')):Und2 st c (ps++[s]) s' where
 nd:=by
  rw[DE]
  exact⟨U.nd,by simp,λa i b f e=>by rw[AM.mp f]at e;exact g (e▸i)⟩
 back:=λp d=>by
  rcases BD.mp d with q|q
  · obtain⟨m, r⟩ := U.back p q; exact⟨m + 1, r.snoc h⟩
  · rw [AM.mp q]; exact⟨0, .cons h .nil⟩
 res:=λr a=>U.res r (a.step h)
theorem Und2.met{a s:S}{ps:L9 S}(U:Und2 st a ps s)(h:s∈ps):aS st a=none:=by
 obtain⟨m,r⟩:=U.back s h
 exact((U.res _ (Res.round r)).eq).symm
theorem Und2.outs{a s:S}{ps:L9 S}{o:O}(U:Und2 st a ps s)(h:st s=some (.inr o)):aS st a=some o:=((U.res _ (Res.out h)).eq).symm
end
abbrev Th:=O9 (Int×Int)
structure Tb where
 f:List Th
 a:List Th
theorem nG(f:S->Nat)(N:Nat)(l:L9 S)(i:l.Nodup)(d:∀ s∈l,f s < N)(hi:∀ a∈l,∀ b∈l,f a=f b->a=b):l.length<=N:=by
 have h:=qO N (l.map f) ?_ ?_
 .rw[AB]at h;exact h
 .unfold Nodup
  rw[G1]
  exact HD (λ{a b} ha hb hab e=>hab (hi a ha b hb e)) i
 .intro x g
  obtain⟨s,c,rfl⟩:=AT.mp g
  exact d s c
theorem o6{O:Type}{st:S->O9 (S⊕O)}{s s':S}(h:st s=some (.inl s')):aS st s=aS st s':=(((nF st s').step h).eq).symm
theorem cG{O:Type}{st:S->O9 (S⊕O)}{s:S}{o:O}(h:st s=some (.inr o)):aS st s=some o:=((Res.out h).eq).symm
end Mc
variable{c:Az}{n:Str}{vs:L9 V9}{cs:L9 Az}{cm:Str->O9 V9}
namespace L2
variable{H H':Hp}{params:Arguments}
def Its(z:Str):It:=⟨λi _=>i < z.cps.size,λi H x H'=>H'=H/\∃ c,z.cps[i]? = some c/\x=.str ⟨#[c]⟩,λi _=>i=z.cps.size⟩
theorem aBF{w:W9}(z:Str)(t:Tok)(T:String)(G:∀ A:U9,A.handled=none->∀ it,Walks P w A it [it] [it] z.cps.size (SignAt z) λi h=>h.IsStrIter it T z t i)
  (a:∀ (A:U9) (it:Az) (i:Nat) (s:S9) (Q E:V9->S9->Prop),s.heap.IsStrIter it T z t i->Q (.ref it) s->wpAny (model P w) A (pyIter (.ref it)) Q E s)
  (r:["enumerate","zip","dict_itemiterator","dict_reverseitemiterator","odict_iterator","itertools.zip_longest","itertools.pairwise"].contains T=false) (it:Az):Turn P w K tg (Its z) [it] it (λi h=>h.IsStrIter it T z t i) where
 mem:=by simp
 obj:=λi h st b f=>by
  obtain rfl:b=it:=by simpa using f
  obtain⟨o,e,c,d⟩:=st
  simp_all
 keep:=λi h h' st k=>by
  obtain⟨o,e,c,d⟩:=st
  exact⟨o,k it (by simp) o e,c,d⟩
 item:=by
  intro X n x C y i ap s Z H E I m st j
  subst n x C
  obtain⟨F,f1,f2,D,u,p⟩:=m it (by simp)
  refine(G X.A (I.ok.hd y) it).item i s _ E j st λv h' g L l B=>?_
  obtain⟨c,tc,q,rfl⟩:=L
  have M:Inv X ap Z H {s with heap:=h',toks:=g}:=I.turned (t':=g) (it:=it) (λb o f e=>B b o (by simpa using f) e) F f1 D u p
  obtain⟨o,e,J,d⟩:=id l
  exact⟨_,rfl,v5 (s:={s with heap:=h',toks:=g}) e J d r ⟨.str ⟨#[c]⟩,H,M,⟨_,rfl⟩,⟨rfl,c,q,rfl⟩,l,λb f=>(m b f).1⟩⟩
 done:=by
  intro X n x C y i ap s Z H E I m st j
  subst n x C
  obtain⟨F,f1,f2,D,u,p⟩:=m it (by simp)
  have j:i=z.cps.size:=j
  subst j
  exact(G X.A (I.ok.hd y) it).done s _ E st λh' g B=>⟨rfl,I.turned (t':=g) (it:=it) (λb o f e=>B b o (by simpa using f) e) F f1 D u p⟩
 self:=λA i s Q E st h=>a A it i s Q E st h
def aX9(te:TE):TI:=λZ H R=>te Z H λx H1=>∃ z,x=.str z/\R (Its z) H1
theorem aIC{X:Cx}{l:E2}{tl:TE}(n:PE X l tl):PI X tg l (aX9 tl):=by
 intro ap s Z H R I h
 refine thn (n ap s Z H _ I h) λv s1 j=>?_
 obtain⟨x,H1,f,r1,m⟩:=j
 obtain⟨z,e,q⟩:=m
 subst e
 obtain⟨t,rfl⟩:=r1
 refine wpAny_pyIter_strU ?_
 have c:Inv X ap Z H1 {s1 with heap:=s1.heap.push {cls:=.type (strIterType z),data:=.fields #[.str z t,.int 0 0]}}:=f.kept (t':=s1.toks) λb o e=>AD _ e
 have st:(s1.heap.push {cls:=.type (strIterType z),data:=.fields #[.str z t,.int 0 0]}).IsStrIter s1.heap.objs.size (strIterType z) z t 0:=⟨_,AV _ rfl,rfl,rfl⟩
 have a:∀ b∈[s1.heap.objs.size],gI X ap H1 b:=λb p=>by
  obtain rfl:=AM.mp p
  exact f.fpOk (AK _) (f.hok.fresh (AK _))
 by_cases k:(z.cps.all λx=>decide (x < 128))=true
 .have d:strIterType z="str_ascii_iterator":=by unfold strIterType;rw[AN k]
  rw[d]at st c ⊢
  exact⟨s1.heap.objs.size,[s1.heap.objs.size],_,_,H1,rfl,c,aBF z t "str_ascii_iterator" (λA g it=>Walks.strAscii g it z t) (λA it i s Q E st h=>wpAny_pyIter_striter_ascii st h) (by decide) _,st,a,q⟩
 .have d:strIterType z="str_iterator":=by unfold strIterType;rw[AL k]
  rw[d]at st c ⊢
  exact⟨s1.heap.objs.size,[s1.heap.objs.size],_,_,H1,rfl,c,aBF z t "str_iterator" (λA g it=>Walks.strWide g it z t) (λA it i s Q E st h=>wpAny_pyIter_striter_wide st h) (by decide) _,st,a,q⟩
theorem xZ:∀ {xs:L9 V} {ys:L9 V9},xs.length=ys.length->(∀ (i:Nat) x y,xs[i]? = some x->ys[i]? = some y->aR x y)->aZ xs ys
 | [],[],_,_=>.nil
 | [],_::_,h,_=>by simp at h
 | _::_,[],h,_=>by simp at h
 | x::xs,y::ys,h,f=>.cons (f 0 x y rfl rfl) (xZ (by simpa using h) λi a b h1 h2=>f (i+1) a b (by simpa using h1) (by simpa using h2))
structure InK(env:Env)(s₀:S9)(m cm:Str->Option V9)(s:S9):Prop where
 ic:InCall s₀ env.locals m s
 cell:∀ n c,env.cells.lookup n=some c->s.heap.IsCell c (cm n)
 inj:∀ n n' c,env.cells.lookup n=some c->env.cells.lookup n'=some c->n=n'
 ne:∀ n c,env.cells.lookup n=some c->c≠env.locals
 up:∀ n c,env.kindOf n=some .cell->env.cells.lookup n=some c->env.locals < c
section
variable{M:Model}{A:U9}{E:V9->S9->Prop}{s₀ s:S9}{m cm:Str->O9 V9}{env:Env}
theorem InK.stL{v:V9}(x:InK env s₀ m cm s)(j:env.scope.kind=.function)(i:env.kindOf n=some .local)
  (h:∀ s',InK env s₀ (λy=>if y=n then some v else m y) cm s'->Q () s'):wpAny M A (storeName env n v) Q E s:=by
 refine wpAny_storeName_local i x.ic.ns (λh' d a=>h _ ⟨⟨?_,d,λb o e=>?_,x.ic.fresh⟩,λk c f=>?_,x.inj,x.ne,x.up⟩) (by rw[j];rfl)
 .obtain ⟨g,l,rfl⟩:=x.ic.same
  ext
 .exact a.extBut b o (A3 (A0 (AS e) x.ic.fresh)) (x.ic.keep b o e)
 .exact (x.cell k c f).sameBut a (x.ne k c f)
theorem InK.stC{v:V9}(x:InK env s₀ m cm s)(r:env.scope.kind=.function)(j:env.kindOf n=some .cell)
  (i:env.cells.lookup n=some c)
  (h:∀ s',InK env s₀ m (λy=>if y=n then some v else cm y) s'->Q () s'):wpAny M A (storeName env n v) Q E s:=by
 have f:=x.up n c j i
 refine wpAny_storeName_cell r j i (x.cell n c i) λh' q a=>h _ ⟨⟨?_,x.ic.ns.sameBut a (A3 f),λb o e=>?_,x.ic.fresh⟩,λk l g=>?_,x.inj,x.ne,x.up⟩
 .obtain ⟨p,t,rfl⟩:=x.ic.same
  ext
 .exact a.extBut b o (A3 (CV (A0 (AS e) x.ic.fresh) f)) (x.ic.keep b o e)
 .by_cases d:k=n
  .grind
  .rw[AL d]
   exact(x.cell k l g).sameBut a λe=>d (x.inj k n l g (e▸i))
theorem InK.binds(f:Str×V9->PUnit->Sem (ForInStep PUnit))(i:∀ n v u,f (n,v) u=(do storeName env n v;pure (.yield ⟨⟩)))(g:env.scope.kind=.function) :
  ∀ (binds:L9 (Str×V9)) (m cm:Str->O9 V9) (s:S9) (Q:PUnit->S9->Prop),InK env s₀ m cm s->
   (∀ x∈binds,env.kindOf x.1=some .local\/(env.kindOf x.1=some .cell/\(env.cells.lookup x.1).isSome=true))->
   (∀ s',InK env s₀ (bindL env.kindOf binds m) (bindC env.kindOf binds cm) s'->Q ⟨⟩ s')->wpAny M A (forIn binds ⟨⟩ f) Q E s
 | [],m,cm,s,Q,x,_,h=>by rw[GE];exact AE (h s x)
 | (n,v)::r,m,cm,s,Q,x,hkind,h=>by
  rw[EB,i]
  have hr:∀ y∈r,env.kindOf y.1=some .local\/(env.kindOf y.1=some .cell/\(env.cells.lookup y.1).isSome=true):=λy l=>hkind y (AQ _ l)
  rcases hkind (n,v) AX with d|⟨d,j⟩
  .refine AA (AA (x.stL g d λs' k=>AE (InK.binds f i g r _ _ s' Q k hr λb a=>h b ?_)))
   unfold bindL bindC;rw[AN d,AN d];exact a
  .obtain ⟨c,j⟩:=G7.mp j
   have e:¬ env.kindOf n=some .local:=by rw[d];decide
   refine AA (AA (x.stC g d j λs' k=>AE (InK.binds f i g r _ _ s' Q k hr λb a=>h b ?_)))
   unfold bindL bindC;rw[AL e,AL e];exact a
end
theorem jK:∀ (names:L9 (Str×NameKind)) (n:Nat) (cb:L9 (Str×Az)),cellsFrom n names cb=cellsFrom n names []++cb
 | [],_,_=>rfl
 | (x,k)::r,n,cb=>by
  unfold cellsFrom
  split
  · rw [jK r (n + 1) ((x, n) :: cb), jK r (n + 1) [(x, n)], DW]; rfl
  · exact jK r n cb
theorem nH:∀ (names:L9 (Str×NameKind)) (n:Nat) {x:Str} {c:Az},(x,c)∈cellsFrom n names []->(x,NameKind.cell)∈names
 | [],_,_,_,h=>by simp[cellsFrom]at h
 | (y,k)::r,n,x,c,h=>by
  unfold cellsFrom at h
  split at h
  .rename_i a
   rw[jK]at h
   rcases BD.mp h with h|h
   · exact AQ _ (nH r _ h)
   · simp_all
  .exact AQ _ (nH r _ h)
theorem uT:∀ {l l':L9 (Str×α)},(l++l').lookup x=(l.lookup x).or (l'.lookup x)
 | [],l'=>by simp
 | (y,v)::r,l'=>by
  ext
theorem qP{l:L9 (Str×α)}(h:∀ v,(x,v)∉l):l.lookup x=none:=by ext
noncomputable def bU(qual:Str)(scope:Scope)(L f:Az)(cd:V9)(cl:L9 (Str×Az)):Env:=newEnv scope L mainGlobals (cellsFrom (L+1) scope.names cl) (qual++".<locals>.") (some f) cd none builtinsNs
structure ClAt(h:Heap)(scope:Scope)(cl:List (Str×Az))(cm:Str->Option V9):Prop where
 cell:∀ n c,cl.lookup n=some c->h.IsCell c (cm n)
 inj:∀ n n' c,cl.lookup n=some c->cl.lookup n'=some c->n=n'
 off:∀ y∈scope.names,y.2=.cell->cl.lookup y.1=none
section
variable{M:Model}{A:U9}{E:V9->S9->Prop}{s:S9}
theorem aEF{binds:L9 (Str×V9)}{cm:Str->O9 V9}{Q:Env->S9->Prop}
  (w:scope.kind=.function) (C:ClAt s.heap scope cl cm)
  (k:∀ x∈binds,scope.names.lookup x.1=some .local\/scope.names.lookup x.1=some .cell)
  (u:∀ s',InK (bU qual scope s.heap.objs.size f cd cl) s (bindL (bU qual scope s.heap.objs.size f cd cl).kindOf binds λ_=>none) (bindC (bU qual scope s.heap.objs.size f cd cl).kindOf binds λn=>if (cl.lookup n).isSome then cm n else none) s'->Q (bU qual scope s.heap.objs.size f cd cl) s') :
  wpAny M A (newFunctionEnv scope mainGlobals cl binds (qual++".<locals>.") (some f) cd none builtinsNs) Q E s:=by
 simp only[newFunctionEnv,Option.isSome_none,CG,DI]
 refine AA (wpAny_alloc ?_)
 refine AA (wpAny_layCells _ (λname kind cells=>by cases p:kind == NameKind.cell<;>simp[p]) _ _ _ _ ?_)
 have ok:=cellsFrom_ok scope.names (s.heap.push {cls:=.type "frame",data:=.dict #[]}) (s.heap.objs.size+1) [] ⟨λ_ _ y=>(nomatch y),List.Pairwise.nil⟩ (by rw[BM];exact AK _)
 rw[BM]at ok
 rw[show({s with heap:=s.heap.push {cls:=.type "frame",data:=.dict #[]}}:S9).heap.objs.size=s.heap.objs.size+1 from BM ..]
 have j:∀ b o,s.heap.get? b=some o->(pushCells (s.heap.push {cls:=.type "frame",data:=.dict #[]}) scope.names).get? b=some o:=λb o e=>pushCells_keeps _ _ b o (AD _ e)
 have h:(bU qual scope s.heap.objs.size f cd cl).cells=cellsFrom (s.heap.objs.size+1) scope.names []++cl:=jK _ _ _
 have i:∀ n c,(bU qual scope s.heap.objs.size f cd cl).cells.lookup n=some c->((cellsFrom (s.heap.objs.size+1) scope.names []).lookup n=some c/\cl.lookup n=none)\/((cellsFrom (s.heap.objs.size+1) scope.names []).lookup n=none/\cl.lookup n=some c):=λn c e=>by
  rw[h,uT]at e
  cases q:(cellsFrom (s.heap.objs.size+1) scope.names []).lookup n with
  | none=>rw[q]at e;exact .inr ⟨rfl,by simpa using e⟩
  | some d=>
   rw[q]at e
   have l:some d=some c:=by simpa using e
   cases l
   exact .inl ⟨rfl,C.off (n,.cell) (nH _ _ (A8 q)) rfl⟩
 have big:∀ n c,(cellsFrom (s.heap.objs.size+1) scope.names []).lookup n=some c->s.heap.objs.size < c:=λn c e=>(ok.empty n c (A8 e)).2
 have g:∀ n c,cl.lookup n=some c->c < s.heap.objs.size:=λn c e=>(C.cell n c e).lt
 refine AA (InK.binds (s₀:=s) (env:=bU qual scope s.heap.objs.size f cd cl)
  _ (λ_ _ _=>rfl) w binds (λ_=>none) (λn=>if (cl.lookup n).isSome then cm n else none) _ _
  ⟨⟨⟨_,_,rfl⟩,(Heap.Ns.new s.heap (.type "frame")).keeps (pushCells_keeps _ _),j,AK _⟩,λn c e=>?_,λn t c e l=>?_,λn c e=>?_,λn c z e=>?_⟩
  (λx v=>?_) λs' x=>AE (u s' x))
 .rcases i n c e with ⟨q,a⟩|⟨q,a⟩
  .rw[a];exact(ok.empty n c (A8 q)).1
  .rw[a];exact(C.cell n c a).keeps j
 .rcases i n c e with ⟨q,a⟩|⟨q,a⟩<;>rcases i t c l with ⟨r,m⟩|⟨r,m⟩
  .exact name_of_addr ok.apart (A8 q) (A8 r)
  .exact absurd (big _ _ q) (G3.mpr (B5 (g _ _ m)))
  .exact absurd (big _ _ r) (G3.mpr (B5 (g _ _ a)))
  .exact C.inj n t c a m
 .show c≠s.heap.objs.size
  rcases i n c e with ⟨q,a⟩|⟨q,a⟩
  .exact BY (big _ _ q)
  .exact A3 (g _ _ a)
 .show s.heap.objs.size < c
  rcases i n c e with ⟨q,a⟩|⟨q,a⟩
  .exact big _ _ q
  .rw[C.off (n,.cell) (A8 z) rfl]at a;cases a
 .rcases k x v with q|q
  .exact .inl q
  .refine .inr ⟨q,?_⟩
   obtain⟨c,e⟩:=mF (n:=s.heap.objs.size+1) q
   rw[h,uT,e];rfl
end
noncomputable def hid(cs:L9 Az)(H:Hp):Hp:=λb=>if b∈cs then none else H b
noncomputable def shw(cs:L9 Az)(H H':Hp):Hp:=λb=>if b∈cs then H b else H' b
theorem oG(h:b∈cs):hid cs H b=none:=AN h
theorem a9(h:b∉cs):hid cs H b=H b:=AL h
theorem qQ(h:b∈cs):shw cs H H' b=H b:=AN h
theorem dE(h:b∉cs):shw cs H H' b=H' b:=AL h
theorem iG(h:H b=none):hid cs H b=none:=by
 by_cases q:b∈cs
 · exact oG q
 · rw [a9 q]; exact h
theorem o7{o:HO}(h:hid cs H b=some o):H b=some o/\b∉cs:=by
 by_cases q:b∈cs
 · rw [oG q]at h; cases h
 · rw [a9 q]at h; exact⟨h, q⟩
def FnO(f:Az)(o:Obj):HO:=.ext λh=>h.get? f=some o
def dF(c:Az)(o:Obj)(v:V):HO:=.frz o (.ext λh=>∃ u,aR v u/\h.IsCell c (some u))
section
variable{P:P9}{w:W9}{H:Hp}{h:Hz}
theorem FnO.get{f:Az}{o:Obj}(x:HOk P w H h)(e:H f=some (FnO f o)):h.get? f=some o:=(x f _ e).1
theorem dF.get{c:Az}{o:Obj}{v:V}(x:HOk P w H h)(e:H c=some (dF c o v)):h.get? c=some o/\∃ u,aR v u/\h.IsCell c (some u):=⟨(x c _ e).1,(x c _ e).2.1⟩
theorem FnO.ok(e:h.get? f=some o):bS P w H h f (FnO f o):=⟨e,⟨o,e⟩,λh1 h2 q k=>k o q⟩
theorem dF.ok{v:V}(r:aR v u)(e:h.get? c=some o)(a:o.data=.cell (some u)):bS P w H h c (dF c o v):=
 ⟨e,⟨u,r,o,e,a⟩,⟨o,e⟩,λh1 h2 ⟨u,r,o,b,a⟩ k=>⟨u,r,o,k o b,a⟩⟩
end
def Celd(cs:L9 Az)(H:Hp):Prop:=∀ c∈cs,∃ o v,H c=some (dF c o v)
theorem Celd.out{cs:L9 Az}{H:Hp}(h:Celd cs H){b:Az}{o:HO}(e:H b=some o)(n:∀ o' v,o≠dF b o' v):b∉cs:=λz=>by
 obtain⟨o',v,q⟩:=h b z
 ext
theorem HOk.hid{w:W9}{h:Hz}(x:HOk P w H h)(a:Celd cs H):HOk P w (hid cs H) h:=λb u e=>by
 obtain⟨e1,_⟩:=o7 e
 exact(x b u e1).stay (λ_ _ _ q=>q) (λc q=>by rw[a9 (a.out q λ_ v z=>nomatch z)];exact q) (λc _ q=>by rw[a9 (a.out q λ_ v z=>nomatch z)];exact q) λc _ q=>by rw[a9 (a.out q λ_ v z=>nomatch z)];exact q
structure CloScope(N ps fr:List Str)(sc:Scope):Prop where
 kind:sc.kind=.function
 co:sc.isCoroutine=false
 gen:sc.isGenerator=false
 nd:N.Nodup
 pre:N.take (ps++fr).length=ps++fr
 par:∀ x∈ps,sc.names.lookup x=some .local\/sc.names.lookup x=some .cell
 cap:∀ x∈fr,sc.names.lookup x=some .free
 only:∀ y∈sc.names,y.2=.free->y.1∈fr
 off:∀ y∈sc.names,y.2=.cell->y.1∉fr
structure CapAt(H:Hp)(fr:List Str)(cl:List (Str×Az))(vs:List V):Prop where
 len:vs.length=fr.length
 only:∀ n c,cl.lookup n=some c->n∈fr
 inj:∀ n n' c,cl.lookup n=some c->cl.lookup n'=some c->n=n'
 at':∀ (i:Nat) x v,fr[i]? = some x->vs[i]? = some v->∃ c o,cl.lookup x=some c/\H c=some (dF c o v)
theorem CapAt.get{H:Hp}{fr:L9 Str}{cl:L9 (Str×Az)}{vs:L9 V}(a:CapAt H fr cl vs){n:Str}{c:Az}(e:cl.lookup n=some c):∃ o v,H c=some (dF c o v):=by
 obtain⟨i,hi,b⟩:=EK.mp (a.only n c e)
 obtain⟨f,o,d,q⟩:=a.at' i n (vs[i]'(by rw[a.len];exact hi)) (by rw[AI hi,b]) (AI _)
 ext
noncomputable def aT(fr:L9 Str)(cl:L9 (Str×Az)):L9 Az:=fr.filterMap λx=>cl.lookup x
theorem CapAt.celd{vs:L9 V}(a:CapAt H fr cl vs):Celd (aT fr cl) H:=λc b=>by
 obtain⟨x,_,e⟩:=DN.mp b
 exact a.get e
theorem CapAt.same{H':Hp}{vs:L9 V}(a:CapAt H fr cl vs)(s:aC H H'):CapAt H' fr cl vs:=⟨a.len,a.only,a.inj,λi x v h1 h2=>let ⟨c,o,e,q⟩:=a.at' i x v h1 h2;⟨c,o,e,s _ _ q⟩⟩
noncomputable def iQ(CX:CXT)(P:P9)(w:W9)(K:Frag)(mg:Str->O9 V9)(base:Hz)(N fr:L9 Str)(qual:Str)(scope:Scope)(f:Az)(cd:V9)(cl:L9 (Str×Az))(A:U9)(outer:L9 Env)(s:S9)(H:Hp)(E:XK):Cx where
 prog:=P
 w:=w
 K:=K
 mg:=mg
 base:=base
 A:=A.deeper (bU qual scope s.heap.objs.size f cd cl)
 N:=N
 s₀:=s
 H₀:=hid (aT fr cl) H
 env:=bU qual scope s.heap.objs.size f cd cl
 outer:=outer
 stack:=bU qual scope s.heap.objs.size f cd cl::outer
 ex:=[]
 calm:=true
 fn:=λx=>(cl.lookup x).isNone
 pn:=[]
 xe:=λe s'=>wpAny (model P w) (A.deeper (bU qual scope s.heap.objs.size f cd cl)) (leaving (bU qual scope s.heap.objs.size f cd cl) e) (λ_ s''=>CX outer H s E e s'') (λe' s''=>CX outer H s E e' s'') s'
section
variable{CX:CXT}{P:P9}{w:W9}{K:Frag}{mg:Str->O9 V9}{base:Hz}{N ps fr:L9 Str}{qual:Str}{scope:Scope}{f:Az}{cd:V9}{cl:L9 (Str×Az)}{A:U9}{outer:L9 Env}{s s1:S9}{H:Hp}{E:XK}{us:L9 V9}{vs cvs:L9 V}
theorem aEG{h:Hz}(hok:HOk P w H h)(C:CapAt H fr cl cvs):∃ cm:Str->O9 V9,(∀ n c,cl.lookup n=some c->∃ v u,(∃ o,H c=some (dF c o v))/\aR v u/\cm n=some u/\h.IsCell c (some u)):=by
 have a:∀ n,∃ x:O9 V9,∀ c,cl.lookup n=some c->∃ v u,(∃ o,H c=some (dF c o v))/\aR v u/\x=some u/\h.IsCell c (some u):=λn=>by
  cases e:cl.lookup n with
  | none=>exact⟨none,λc z=>nomatch z⟩
  | some c=>
   obtain⟨o,v,q⟩:=C.get e
   obtain⟨_,u,r,z⟩:=dF.get hok q
   exact⟨some u,λd b=>by cases b;exact⟨v,u,⟨o,q⟩,r,rfl,z⟩⟩
 exact⟨λn=>(a n).choose,λn c e=>(a n).choose_spec c e⟩
theorem o8{L:Nat}:(bU qual scope L f cd cl).cells.lookup n=((cellsFrom (L+1) scope.names []).lookup n).or (cl.lookup n):=by
 rw[show(bU qual scope L f cd cl).cells=cellsFrom (L+1) scope.names []++cl from jK _ _ _,uT]
theorem sN{L:Nat}(S:CloScope N ps fr scope)(C:CapAt H fr cl cvs)(e:cl.lookup n=some c):(bU qual scope L f cd cl).cells.lookup n=some c:=by
 rw[o8,qP λv a=>S.off (n,.cell) (nH _ _ a) rfl (C.only n c e)]
 simpa using e
theorem wD(S:CloScope N ps fr scope)(C:CapAt H fr cl cvs)(W:A.handled=none)(d:Env0 P w K mg base A outer s H)(Q:vs.length=ps.length)(r:aZ vs us)
  (R:∀ n c,cl.lookup n=some c->∃ v u,(∃ o,H c=some (dF c o v))/\aR v u/\cm n=some u/\s.heap.IsCell c (some u))
  (x:InK (bU qual scope s.heap.objs.size f cd cl) s (bindL (bU qual scope s.heap.objs.size f cd cl).kindOf (ps.zip us) λ_=>none) (bindC (bU qual scope s.heap.objs.size f cd cl).kindOf (ps.zip us) λn=>if (cl.lookup n).isSome then cm n else none) s1) :
  Inv (iQ CX P w K mg base N fr qual scope f cd cl A outer s H E) [] (start N (vs++cvs)) (hid (aT fr cl) H) s1:=by
 have Z:(ps++fr).length<=N.length:=by have:=CQ length S.pre;rw[B2]at this;ext
 have V:(vs++cvs).length=(ps++fr).length:=by rw[AY,AY,Q,C.len]
 obtain⟨h1,tk,rfl,I⟩:=x.ic.done
 have m:∀ b:Az,b∉(iQ CX P w K mg base N fr qual scope f cd cl A outer s H E).ex:=λb z=>absurd (show b∈([]:L9 Az)from z) (by simp)
 have F:∀ y c,cl.lookup y=none->(bU qual scope s.heap.objs.size f cd cl).cells.lookup y=some c->s.heap.objs.size < c:=λy c n e=>by
  rw[o8,n]at e
  have t:(cellsFrom (s.heap.objs.size+1) scope.names []).lookup y=some c:=by simpa using e
  have ok:=cellsFrom_ok scope.names (s.heap.push {cls:=.type "frame",data:=.dict #[]}) (s.heap.objs.size+1) [] ⟨λ_ _ U=>(nomatch U),List.Pairwise.nil⟩ (by rw[BM];exact AK _)
  rw[BM]at ok
  exact(ok.empty y c (A8 t)).2
 refine⟨⟨d.mod,S.kind,rfl,rfl,AK _,λy z c h1 h2=>x.inj y z c h1 h2,λy j=>?_,λy c G h=>?_,λ_=>W,Around.frames_deeper d.frames,.inr ⟨rfl,rfl⟩,λb z=>absurd z (m b),λb o e=>⟨(d.bs b o e).1,iG (d.bs b o e).2⟩,d.bsz,λb _ _=>m b,λb z=>absurd z (m b),d.funs,λb X=>iG (d.frf b X)⟩,
  rfl,d.bare,Un.kept I,⟨_,x.ic.ns,λi y v h1 h2 h3=>?_⟩,λy c h=>⟨_,x.cell y c h⟩,iG (d.hok.fresh (AK _)),λy c h=>?_,λp g=>absurd (show p∈([]:L9 (Az×Obj))from g) (by simp),(d.hok.hid C.celd).kept I,?_⟩
 .have j:scope.names.lookup y=some .cell\/scope.names.lookup y=some .free:=j
  rcases j with j|j
  .obtain ⟨c,e⟩:=mF (n:=s.heap.objs.size+1) j
   exact⟨c,by show(bU qual scope s.heap.objs.size f cd cl).cells.lookup y=_;rw[o8,e];rfl⟩
  .obtain ⟨i,hi,Y⟩:=EK.mp (S.only _ (A8 j) rfl)
   obtain⟨c,_,e,_⟩:=C.at' i y (cvs[i]'(by rw[C.len];exact hi)) (by rw[AI hi,Y]) (AI _)
   exact⟨c,sN S C e⟩
 .have G:(cl.lookup y).isNone=true:=G
  exact B5 (F y c (Option.isNone_iff_eq_none.mp G) h)
 .have hi:i < (vs++cvs).length:=by
   unfold start at h2
   by_cases hi:i < (vs++cvs).length
   .exact hi
   .rw[BX (by simpa using hi)]at h2
    rw[E5]at h2
    split at h2<;>cases h2
  have D:(vs++cvs)[i]? = some v:=by
   unfold start at h2
   rw[BN (by simpa using hi),AC]at h2
   cases e:(vs++cvs)[i]? with
   | none=>rw[e]at h2;cases h2
   | some a=>rw[e]at h2;cases h2;rfl
  have g:(ps++fr)[i]? = some y:=by
   rw[<-S.pre,EX (by ext)];exact h1
  have M:(ps++fr).Nodup:=by rw[<-S.pre];exact S.nd.sublist (List.take_sublist _ _)
  have B:ps.Nodup:=(DE.mp M).1
  by_cases J:i < ps.length
  .rw[BN (by ext)]at D
   rw[BN J]at g
   obtain⟨u,O,rv⟩:=r.get D
   refine⟨u,rv,?_⟩
   rcases S.par y (AH g)with k|k
   .exact .inl ⟨k,qK B g O k⟩
   .obtain ⟨c,e⟩:=mF (n:=s.heap.objs.size+1) k
    have t:(bU qual scope s.heap.objs.size f cd cl).cells.lookup y=some c:=by rw[o8,e];rfl
    refine .inr ⟨.inl k,c,t,?_⟩
    have q:=x.cell y c t
    rw[qL B g O (by show scope.names.lookup y≠_;rw[k];decide)]at q
    exact q
  .rw[BX (by ext)]at D
   rw[BX (by ext)]at g
   rw[Q]at D
   obtain⟨c,o,e,q⟩:=C.at' _ y v g D
   obtain⟨_,u2,r2,T⟩:=dF.get d.hok q
   have t:=sN (qual:=qual) (f:=f) (cd:=cd) (L:=s.heap.objs.size) S C e
   have l:scope.names.lookup y=some .free:=S.cap y (AH g)
   refine⟨u2,r2,.inr ⟨.inr l,c,t,?_⟩⟩
   exact T.keeps I
 .cases e:cl.lookup y with
  | none=>exact iG (d.hok.fresh (B5 (F y c e h)))
  | some c'=>
   have h':=sN (qual:=qual) (f:=f) (cd:=cd) (L:=s.heap.objs.size) S C e
   have h:(bU qual scope s.heap.objs.size f cd cl).cells.lookup y=some c:=h
   rw[h]at h';cases h'
   exact oG (DN.mpr ⟨y,C.only y c e,e⟩)
 .unfold start
  show _=N.length
  rw[AY,AB,DQ]
  ext
theorem uU{Z:St}(S:CloScope N ps fr scope)(C:CapAt H fr cl cvs)(i:Env0 P w K mg base A outer s H)(J:Inv (iQ CX P w K mg base N fr qual scope f cd cl A outer s H E) ap Z H' s') :
  (∀ c∈aT fr cl,H' c=none)/\Un (frs outer) [] H (shw (aT fr cl) H H') s.heap s'.heap/\HOk P w (shw (aT fr cl) H H') s'.heap:=by
 have un:Un (frs outer) [] (hid (aT fr cl) H) H' s.heap s'.heap:=J.base
 have d:∀ c∈aT fr cl,H' c=none:=λc k=>by
  obtain⟨x,_,e⟩:=DN.mp k
  exact J.freeC x c (sN S C e)
 have out:∀ b,H b=none->b∉aT fr cl:=λb n z=>by
  obtain⟨o,v,q⟩:=C.celd b z
  simp_all
 refine⟨d,⟨λb o e n h1 h2=>un.keep b o e (iG n) h1 h2,λb o e n h1 h2=>un.slot b o e (iG n) h1 h2,λb o e n h2=>by rw[dE (out b n)];exact un.free b o e (iG n) h2,un.there,
  λb xs q=>?_,λb o u q=>?_,λb ps q=>?_⟩,λb u e=>?_⟩
 .have a:=C.celd.out q λ_ v z=>nomatch z
  rw[dE a];exact un.tups b xs (by rw[a9 a];exact q)
 .by_cases a:b∈aT fr cl
  .rw[qQ a];exact q
  .rw[dE a];exact un.frzs b o u (by rw[a9 a];exact q)
 .have a:=C.celd.out q λ_ v z=>nomatch z
  rw[dE a];exact un.tbls b ps (by rw[a9 a];exact q)
 .by_cases a:b∈aT fr cl
  .rw[qQ a]at e
   obtain⟨o,v,q⟩:=C.celd b a
   rw[q]at e;cases e
   obtain⟨j,u,r,m,g,l⟩:=dF.get i.hok q
   rw[j]at g;cases g
   exact dF.ok r (un.keep b o j (oG a) (λz=>by have:=i.frf b z;rw[q]at this;cases this) (by simp)) l
  .rw[dE a]at e
   have h:∀ c o,H' c=some o->c∉aT fr cl:=λc o q z=>by rw[d c z]at q;cases q
   exact(J.hok b u e).stay (λ_ _ _ q=>q) (λc q=>by rw[dE (h c _ q)];exact q) (λc _ q=>by rw[dE (h c _ q)];exact q) λc _ q=>by rw[dE (h c _ q)];exact q
end
section
variable{P:P9}{w:W9}{K:Frag}{mg:Str->O9 V9}{base:Hz}{N ps fr:L9 Str}{qual:Str}{scope:Scope}{f:Az}{cd:V9}{cl:L9 (Str×Az)}{A:U9}{outer:L9 Env}{s:S9}{H:Hp}{E:XK}{cvs:L9 V}
theorem wE(S:CloScope N ps fr scope)(C:CapAt H fr cl cvs)(j:Env0 P w K mg base A outer s H)
  (h:Fly (iQ (CXe P w) P w K mg base N fr qual scope f cd cl A outer s H E) (λc e H'=>(∀ a∈aT fr cl,H' a=none)->E c e (shw (aT fr cl) H H')) ev s'):(iQ (CXe P w) P w K mg base N fr qual scope f cd cl A outer s H E).xe ev s':=by
 obtain⟨e,m,od,Z,H',rfl,I,p,q⟩:=h
 show wpAny (model P w) _ (leaving _ (.ref e)) _ _ s'
 unfold leaving
 have n:aAO (iQ (CXe P w) P w K mg base N fr qual scope f cd cl A outer s H E):=⟨rfl,rfl⟩
 refine AA (uS n I p λu l f2=>xX l f2 λr g i=>?_)
 obtain⟨vs,T,a,b,c,_⟩:=i.tb
 obtain⟨d,un,hok⟩:=uU S C j g
 have k:∀ c o,H' c=some o->c∉aT fr cl:=λc o q z=>by rw[d c z]at q;cases q
 refine⟨e,m,od,_,rfl,g.os,g.bare,un,hok,by rw[dE (k _ _ i.tr)];exact i.tr,⟨vs,T,a,b,λt e1=>⟨?_,(c t e1).2.1⟩⟩,q d⟩
 rw[dE]
 .exact (c t e1).1
 .intro z
  obtain⟨o,v,q⟩:=C.celd t z
  exact absurd (A0 (j.hok.lt q) (c t e1).2.1) (BW _)
end
structure ClSt where
 name:Str
 qual:Str
 params:Arguments
 body:FuncBody
 scope:Scope
noncomputable def ClSt.fd(S:ClSt)(cl:L9 (Str×Az))(doc pm:V9)(c:Az)(ct:V9):FuncData:=
 {name:=S.name,qualname:=S.qual,params:=S.params,body:=S.body,scope:=S.scope,globals:=mainGlobals,closure:=cl,defaults:=.none,kwdefaults:=.none,doc:=doc,pyModule:=pm,annotations:=none,code:=.ref c,closureTuple:=ct,builtins:=builtinsNs}
abbrev ClSt.obj(S:ClSt)(cl:L9 (Str×Az))(doc pm:V9)(c:Az)(ct:V9):Obj:={cls:=.type "function",data:=.func (S.fd cl doc pm c ct)}
section
variable{P:P9}{w:W9}{K:Frag}{mg:Str->O9 V9}{base:Hz}{N ps fr:L9 Str}{S:ClSt}{f c:Az}{cl:L9 (Str×Az)}{A:U9}{outer:L9 Env}{s:S9}{H:Hp}{E:XK}{Q:VK}{cvs vs:L9 V}{us:L9 V9}{args:Args}{doc pm ct:V9}{k:Nat}
theorem aBG(Sc:CloScope N ps fr S.scope):∀ y∈ps.zip us,S.scope.names.lookup y.1=some .local\/S.scope.names.lookup y.1=some .cell:=λ⟨n,v⟩ a=>Sc.par n (ET a).1
theorem aID{h:Hz}(hok:HOk P w H h)(Sc:CloScope N ps fr S.scope)(C:CapAt H fr cl cvs)(d:∀ n c,cl.lookup n=some c->∃ v u,(∃ o,H c=some (dF c o v))/\aR v u/\cm n=some u/\h.IsCell c (some u)):ClAt h S.scope cl cm where
 cell:=λn c e=>by
  ext
 inj:=C.inj
 off:=λy a b=>by
  cases e:cl.lookup y.1 with
  | none=>rfl
  | some c=>exact absurd (C.only _ _ e) (Sc.off y a b)
theorem aIE(hb:S.body=.stmts body)(F:H f=some (FnO f (S.obj cl doc pm c ct)))(M:H c=some (.cod S.qual))(Sc:CloScope N ps fr S.scope)(C:CapAt H fr cl cvs)(hr:Room (k+1) A)
  (d:Env0 P w K mg base A outer s H) (m:BindsTo s (S.fd cl doc pm c ct) args (ps.zip us)) (r:aZ vs us) (L:vs.length=ps.length)
  (g:Room k (A.deeper (bU S.qual S.scope s.heap.objs.size f (.ref c) cl))->∃ t,PSs ((iQ (CXe P w) P w K mg base N fr S.qual S.scope f (.ref c) cl A outer s H E).fly λc e H'=>(∀ a∈aT fr cl,H' a=none)->E c e (shw (aT fr cl) H H')) body t /\
   t {nx:=λ_ H'=>(∀ a∈aT fr cl,H' a=none)->Q .non (shw (aT fr cl) H H'),rt:=λv H'=>(∀ a∈aT fr cl,H' a=none)->Q v (shw (aT fr cl) H H')} (start N (vs++cvs)) (hid (aT fr cl) H)) :
  codeAny (model P w) A (.call (.ref f) args) (CR (CXe P w) outer P w H s Q E) s:=by
 have y:s.heap.NoLimit:=d.mod.nolimit.keeps λb o e=>(d.bs b o e).1
 obtain⟨cm,j⟩:=aEG d.hok C
 have n:s.heap.CodeRec (.ref c) S.qual:=d.hok c _ M
 refine codeAny_call_function hr.depth (FnO.get d.hok F) rfl Sc.co Sc.gen hb n (m _ _ _ _ ?_)
 refine aEF (cm:=cm) Sc.kind (aID d.hok Sc C j) (aBG Sc) λs1 x=>?_
 refine⟨y.keeps x.ic.keep,codeAny_func ?_⟩
 obtain⟨t,D,G⟩:=g (hr.deeper _)
 have I:Inv (iQ (CXe P w) P w K mg base N fr S.qual S.scope f (.ref c) cl A outer s H E) [] (start N (vs++cvs)) (hid (aT fr cl) H) s1:=wD Sc C hr.hd d L r j x
 have p:=D.unfly λ_ _ z=>wE Sc C d z
 refine BZ (p [] s1 _ _ _ I G) (λO s' h=>?_) λe s' h=>h
 have i:∀ {l:St} {H':Hp} {v:V} {u:V9},Inv (iQ (CXe P w) P w K mg base N fr S.qual S.scope f (.ref c) cl A outer s H E) [] l H' s'->aR v u->((∀ a∈aT fr cl,H' a=none)->Q v (shw (aT fr cl) H H'))->CE outer P w H s Q u s':=
  λ{l H' v u} J B q=>by
   obtain⟨R,un,hok⟩:=uU Sc C d J
   exact⟨v,_,J.os,J.bare,un,hok,B,q R⟩
 cases O with
 | ret u=>
  obtain⟨v,l,H',J,B,q⟩:=h
  exact i J B q
 | next=>
  obtain⟨l,H',J,q⟩:=h
  exact i (v:=V.non) (u:=Value.none) J rfl q
 | brk=>
  obtain⟨_,_,_,q⟩:=h
  exact False.elim q
 | cont=>
  obtain⟨_,_,_,q⟩:=h
  exact False.elim q
theorem aLM{body:E2}(hb:S.body=.expr body)(p:H f=some (FnO f (S.obj cl doc pm c ct)))(B:H c=some (.cod S.qual))(Sc:CloScope N ps fr S.scope)(C:CapAt H fr cl cvs)(hr:Room (k+1) A)
  (d:Env0 P w K mg base A outer s H) (i:BindsTo s (S.fd cl doc pm c ct) args (ps.zip us)) (r:aZ vs us) (z:vs.length=ps.length)
  (g:Room k (A.deeper (bU S.qual S.scope s.heap.objs.size f (.ref c) cl))->∃ t,PE ((iQ (CXe P w) P w K mg base N fr S.qual S.scope f (.ref c) cl A outer s H E).fly λc e H'=>(∀ a∈aT fr cl,H' a=none)->E c e (shw (aT fr cl) H H')) body t /\
   t (start N (vs++cvs)) (hid (aT fr cl) H) λv H'=>(∀ a∈aT fr cl,H' a=none)->Q v (shw (aT fr cl) H H')) :
  codeAny (model P w) A (.call (.ref f) args) (CR (CXe P w) outer P w H s Q E) s:=by
 have m:s.heap.NoLimit:=d.mod.nolimit.keeps λb o e=>(d.bs b o e).1
 obtain⟨cm,h⟩:=aEG d.hok C
 have l:s.heap.CodeRec (.ref c) S.qual:=d.hok c _ B
 refine PySem.W.kla_callFunE hr.depth (FnO.get d.hok p) rfl Sc.co Sc.gen hb l (i _ _ _ _ ?_)
 refine aEF (cm:=cm) Sc.kind (aID d.hok Sc C h) (aBG Sc) λs1 x=>?_
 refine⟨m.keeps x.ic.keep,PySem.W.kla_codeExpr ?_⟩
 obtain⟨t,n,y⟩:=g (hr.deeper _)
 have I:Inv (iQ (CXe P w) P w K mg base N fr S.qual S.scope f (.ref c) cl A outer s H E) [] (start N (vs++cvs)) (hid (aT fr cl) H) s1:=wD Sc C hr.hd d z r h x
 refine BZ (n [] s1 _ _ _ (I.wish _) y) (λu s' j=>?_) λe s' j=>wE Sc C d j
 obtain⟨v,H',J,F,q⟩:=j
 obtain⟨D,un,hok⟩:=uU Sc C d J.unwish
 exact⟨v,_,J.os,J.bare,un,hok,F,q D⟩
end
theorem aGE:∀ (names:L9 (Str×NameKind)) (cb:L9 (Str×Az)),(∀ x∈names,x.2=.free->∃ c,env.cells.lookup x.1=some c)->
  (∀ x c,cb.lookup x=some c->env.cells.lookup x=some c)->
  ∃ cl,(forIn names cb λx r=>(if (x.2 == NameKind.free)=true then(do let a <-cellOf env x.1;pure (ForInStep.yield ((x.1,a)::r)))else pure (ForInStep.yield r)):Sem (L9 (Str×Az)))=pure cl /\
   (∀ x c,cl.lookup x=some c->env.cells.lookup x=some c)/\(∀ x∈names,x.2=.free->∃ c,cl.lookup x.1=some c)/\(∀ x c,cb.lookup x=some c->∃ c',cl.lookup x=some c') /\
   (∀ x c,cl.lookup x=some c->(∃ c',cb.lookup x=some c')\/(x,NameKind.free)∈names):=by
 intro names
 induction names with
 | nil=>intro cb _ h;exact⟨cb,rfl,h,λx l=>absurd l (by simp),λx c e=>⟨c,e⟩,λx c e=>.inl ⟨c,e⟩⟩
 | cons x r ih=>
  intro cb g h
  obtain⟨n,k⟩:=x
  by_cases m:k=.free
  .subst m
   obtain⟨c,f⟩:=g (n,.free) AX rfl
   have f:env.cells.lookup n=some c:=f
   obtain⟨cl,e1,e2,o,i,p⟩:=ih ((n,c)::cb) (λy b=>g y (AQ _ b)) (λy d e=>by
    rw[CI]at e
    cases q:y == n with
    | true=>rw[q]at e;cases e;have:=HP q;subst this;exact f
    | false=>rw[q]at e;exact h y d e)
   refine⟨cl,?_,e2,λy b j=>?_,λy d e=>?_,λy d e=>?_⟩
   .rw[EB]
    simp only[EJ,DJ]
    unfold cellOf
    simp only[f,pure_bind]
    exact e1
   .rcases AW.mp b with z|z
    · simp_all
    · ext
   .by_cases q:y=n
    · simp_all
    · exact i y d (by rw [CI, DR q]; exact e)
   .grind
  .obtain ⟨cl,e1,e2,o,i,p⟩:=ih cb (λy b=>g y (AQ _ b)) h
   ext
structure ClOf(cells:List (Str×Az))(sc:Scope)(cl:List (Str×Az)):Prop where
 of:∀ x c,cl.lookup x=some c->cells.lookup x=some c
 all:∀ x∈sc.names,x.2=.free->∃ c,cl.lookup x.1=some c
 only:∀ x c,cl.lookup x=some c->(x,NameKind.free)∈sc.names
theorem aBH(a:∀ x∈scope.names,x.2=.free->∃ c,env.cells.lookup x.1=some c) :
  ∃ cl,closureFor scope env=pure cl/\ClOf env.cells scope cl:=by
 obtain⟨cl,e1,e2,b,_,d⟩:=aGE scope.names [] a (λx c e=>by simp at e)
 refine⟨cl,?_,e2,b,λx c e=>?_⟩
 .unfold closureFor
  ext
 .grind
theorem aIF{pos:Pos}{r:L9 V9}(l:L9 V9)(h:TriplesOk l):codeAmong pos (l++r)=(codeAmong pos l).or (codeAmong pos r):=by
 fun_induction TriplesOk l with
 | case1=>simp[codeAmong]
 | case2 a t b u x rest ih=>
  simp only[CY,codeAmong]
  split
  · rfl
  · exact ih h
 | case3 l h1 h2=>exact h.elim
structure Tb(mg:Str->Option V9)(base:Heap)(c0 P0:Az):Prop where
 hd:CodeHd base c0 P0
 bt:∃ bm ob,mg "__builtins__"=some (.ref bm)/\bm≠builtinsNs/\base.get? bm=some ob/\ob.cls=.type "module"/\ob.dict=some builtinsNs/\ob.data=.plain
section
variable{X:Cx}{ap:L9 (Az×Obj)}{Z:St}{H:Hp}{s:S9}{c0 P0:Az}{qs:L9 (Pos×Str)}{pos:Pos}{q:Str}
theorem aIG{ps:Array V9}{h h':Hz}(t:HOk X.prog X.w H h)(m:H P0=some (.tbl qs))(A:h.get? P0=some (tabObj ps))(l:TriplesOk ps.toList)(f:∀ p∈qs,codeAmong p.1 ps.toList=none\/∃ c,codeAmong p.1 ps.toList=some (.ref c)/\H c=some (.cod p.2))
  (y:∀ p∈qs,p.1.line=pos.line->p.1.col=pos.col->p.2=q) (x:codeAmong pos ps.toList=none) (a:H c=none) (hx:Heap.ExtBut P0 h h') (j:h'.CodeRec (.ref c) q) (i:h'.get? P0=some (tabObj (ps ++ #[rawInt pos.line,rawInt pos.col,.ref c]))) :
  HOk X.prog X.w (upd H c (.cod q)) h':=λb u e=>by
 have B:P0≠c:=λz=>by rw[<-z,m]at a;cases a
 by_cases s:b=c
 .subst s;rw[aL]at e;cases e;exact j
 .rw[aE s]at e
  by_cases k:b=P0
  .subst k
   rw[m]at e;cases e
   refine⟨_,i,?_,λp o=>?_⟩
   .rw[Array.toList_append];exact TriplesOk_snoc _ _ _ _ l
   .rw[Array.toList_append,aIF _ l]
    rcases f p o with z|⟨d,z,n⟩
    .rw[z]
     show(codeAmong p.1 [rawInt pos.line,rawInt pos.col,.ref c])=none\/_
     by_cases g:p.1.line=pos.line/\p.1.col=pos.col
     .refine .inr ⟨c,?_,?_⟩
      .show codeAmong p.1 [rawInt pos.line,rawInt pos.col,.ref c]=_
       rw[<-g.1,<-g.2]
       exact codeAmong_snoc [] trivial rfl
      .rw[y p o g.1 g.2];exact aL
     .refine .inl ?_
      simp only[codeAmong,rawInt]
      ext
    .refine .inr ⟨d,by rw[z];rfl,?_⟩
     rw[aE (a6 n a)];exact n
  .refine (t b u e).stay (λd v C r=>hx d v ?_ r) (λd r=>by rw[aE (a6 r a)];exact r) (λd _ r=>by rw[aE (a6 r a)];exact r) λd _ r=>by rw[aE (a6 r a)];exact r
   ext
def Mkd(H:Hp)(q:Str)(c:Az)(H1:Hp):Prop:=(H c=some (.cod q)/\H1=H)\/(H c=none/\H1=upd H c (.cod q))
theorem aEH {S : ClSt} {M : Model} {A : U9} {E : V9 -> S9 -> Prop} {Q : V9 -> S9 -> Prop}  (I : Inv X ap Z H s) (d : X.env.code = .ref c0) (T : Tb X.mg X.base c0 P0) (Y : H P0 = some (.tbl qs)) (hq : (pos, S.qual) ∈ qs)
    (hu : ∀ p ∈ qs, p.1.line = pos.line -> p.1.col = pos.col -> p.2 = S.qual) (v : ∀ x ∈ S.scope.names, x.2 = .free -> ∃ c, X.env.cells.lookup x.1 = some c)
    (h : ∀ f c cl doc pm ct H1 s', Mkd H S.qual c H1 -> H1 f = none -> ClOf X.env.cells S.scope cl -> Inv X ap Z (upd H1 f (FnO f (S.obj cl doc pm c ct))) s' -> Q (.ref f) s') :
    wpAny M A (makeFunction S.name S.qual S.params S.body S.scope X.env [] [] [] pos g) Q E s := by
  obtain⟨cl, m, R⟩ := aBH v
  obtain⟨ps, j, J, r⟩ := (show bS X.prog X.w H s.heap P0 (.tbl qs)from I.hok P0 _ Y)
  have C : CodeHd s.heap c0 P0 := T.hd.keeps I.bk
  have G : s.heap.Ns mainGlobals X.mg := I.mod.glob.keeps I.bk
  have O : mainGlobals ≠ P0 := λz => by
    obtain⟨o, es, ep, e, hd, _⟩ := G
    ext
  obtain⟨bm, ob, b1, b2, b3, b4, b5, b6⟩ := T.bt
  have B := I.bk _ _ b3
  have aa : bm ≠ P0 := λz => by rw [z, j]at B; cases B; cases b4
  have ac : bm ≠ mainGlobals := λz => by
    obtain⟨o, es, ep, e, hd, _⟩ := G
    simp_all
  have U : s.heap.BuiltinsAt X.mg P0 := ⟨bm, ob, b1, b2, ac, aa, B, b4, b5, b6⟩
  rcases r _ hq with D | ⟨c, hf, hc⟩
  · have k : ∀ (i : Az) (a doc : V9) (h' : Hz) (q : Tok), Heap.ExtBut P0 s.heap h' -> s.heap.objs.size <= i -> i < h'.objs.size -> h'.CodeRec (.ref i) S.qual -> h'.get? P0 = some (tabObj (ps ++ #[rawInt pos.line, rawInt pos.col, .ref i])) ->
        Q (.ref h'.objs.size) { s with heap := h'.push (S.obj cl doc ((X.mg "__name__").getD .none) i a), toks := q } := by
      intro i a doc h' q V y N L P
      have hn : H i = none := I.hok.fresh y
      have t : HOk X.prog X.w (upd H i (.cod S.qual)) h' := aIG I.hok Y j J r hu D hn V L P
      have l : (upd H i (.cod S.qual)) h'.objs.size = none := t.fresh (AK _)
      refine h h'.objs.size i cl doc ((X.mg "__name__").getD .none) a _ _ (.inr ⟨hn, rfl⟩) l R ?_
      have F : ∀ b o, H b = some o -> b ≠ i /\ b ≠ h'.objs.size := λb o e => ⟨a6 e hn, λz => by
        rw [z]at e
        rw [aE (BY N), e]at l; cases l⟩
      have nP : ∀ b, H b = none -> b ≠ P0 := λb n z => by rw [z, Y]at n; cases n
      refine I.un ⟨λb o e n _ _ => AD _ (V b o (nP b n) e), λb o e n _ _ => ⟨o.slots, AD _ (V b o (nP b n) e)⟩, λb o e n _ => ?_, λb o e _ => ?_, λb xs e => ?_, λb o u e => ?_, λb qs e => ?_⟩ ?_
      · have hb := AS e
        rw [aE (A3 (A0 hb (A2 y (B5 N)))), aE (A3 (A0 hb y))]; exact n
      · by_cases z : b = P0
        · subst z; exact⟨_, AD _ P⟩
        · exact⟨o, AD _ (V b o z e)⟩
      · rw [aE (F b _ e).2, aE (F b _ e).1]; exact e
      · rw [aE (F b _ e).2, aE (F b _ e).1]; exact e
      · rw [aE (F b _ e).2, aE (F b _ e).1]; exact e
      · exact t.laid (λb u e => AD _ e) (AK _) (FnO.ok (AV _ rfl))
    obtain⟨name, qual, params, body, scope⟩ := S
    cases body with
    | stmts body => exact PySem.W.makeFunction_K m I.ok.glob G d C j J D O U k
    | expr body => exact PySem.W.kla_makeFunction m I.ok.glob G d C j J D O U λi a h' q => k i a .none h' q
  · have k : ∀ (a doc : V9) (h' : Hz) (q : Tok), (∀ b o, s.heap.get? b = some o -> h'.get? b = some o) -> s.heap.objs.size <= h'.objs.size ->
        Q (.ref h'.objs.size) { s with heap := h'.push (S.obj cl doc ((X.mg "__name__").getD .none) c a), toks := q } := by
      intro a doc h' q hk K
      refine h h'.objs.size c cl doc ((X.mg "__name__").getD .none) a H _ (.inl ⟨hc, rfl⟩) (I.hok.fresh K) R ?_
      exact I.laid (λb u e => AD _ (hk b u e)) K (FnO.ok (AV _ rfl))
    obtain⟨name, qual, params, body, scope⟩ := S
    cases body with
    | stmts body => exact PySem.W.makeFunction_hit m I.ok.glob G d C j J hf U k
    | expr body => exact PySem.W.kla_makeFunctionHit m I.ok.glob G d C j J hf U λa h' q => k a .none h' q
def tMk(cells:L9 (Str×Az))(S:ClSt)(P0:Az)(qs:L9 (Pos×Str)):TE:=λZ H Q=>H P0=some (.tbl qs)/\∀ f c cl doc pm ct H1,Mkd H S.qual c H1->H1 f=none->ClOf cells S.scope cl->Q (.ref f) (upd H1 f (FnO f (S.obj cl doc pm c ct)))
theorem wF(b:X.env.code=.ref c0)(T:Tb X.mg X.base c0 P0)(k:qualnameIn X.env x x=q)(n:(pos,q)∈qs)
  (r:∀ p∈qs,p.1.line=pos.line->p.1.col=pos.col->p.2=q) (a:∀ y∈scope.names,y.2=.free->X.env.kindOf y.1=some .cell\/X.env.kindOf y.1=some .free)
  (g:params.defaults=[]) (d:params.kw_defaults=[]) (o:annTrees params none X.env=[])
  (hN:X.N.Nodup) (hi:X.N[i]? = some x) (hx:Loc X.env.scope x) (l:X.fn x=true\/X.env.scope.names.lookup x=some .local:=by exact .inl rfl) :
  PS X (.FunctionDef x params body [] none [] scope none x pos) (kD (tMk X.env.cells ⟨x,q,params,.stmts body,scope⟩ P0 qs) (i6 i)):=by
 intro ap s Z H D I h
 obtain⟨m,h⟩:=h
 refine PySem.W.nestDef_K g d o ?_
 rw[k]
 refine aEH (S:=⟨x,q,params,.stmts body,scope⟩) I b T m n r (λy u j=>I.ok.has _ (a y u j)) λf c cl doc pm ct H1 s' t B w A=>?_
 exact uN A hN hi hx (v:=.ref f) rfl (λz e=>⟨_,_,e,h f c cl doc pm ct H1 t B w⟩) l
theorem aIH{body:E2}(b:X.env.code=.ref c0)(T:Tb X.mg X.base c0 P0)(g:X.env.qual++("<lambda>":Str)=q)(i:(pos,q)∈qs)
  (k:∀ p∈qs,p.1.line=pos.line->p.1.col=pos.col->p.2=q) (a:∀ y∈scope.names,y.2=.free->X.env.kindOf y.1=some .cell\/X.env.kindOf y.1=some .free)
  (d:defaultsOf params X.env=([],[])) :
  PE X (.Lambda params body scope pos) (tMk X.env.cells ⟨"<lambda>",q,params,.expr body,scope⟩ P0 qs):=by
 intro ap s Z H Q I h
 obtain⟨j,h⟩:=h
 refine PySem.W.kla_eval d ?_
 rw[g]
 exact aEH (S:=⟨"<lambda>",q,params,.expr body,scope⟩) I b T j i k (λy m e=>I.ok.has _ (a y m e)) λf c cl doc pm ct H1 s' l r n o=>⟨.ref f,_,o,rfl,h f c cl doc pm ct H1 l r n⟩
end
abbrev Cv:=L9 (Az×Obj×V)
noncomputable def pub(cv:Cv)(H:Hp):Hp:=λb=>match cv.lookup b with
 | some p=>some (dF b p.1 p.2)
 | none=>H b
noncomputable def cL(cv:Cv):L9 Az:=cv.map (·.1)
theorem gY{c:Cv}:b∈cL c↔∃ p,c.lookup b=some p:=by
 unfold cL
 induction c with
 | nil=>simp
 | cons a r ih=>
  obtain⟨x,p⟩:=a
  rw[AU,AW,ih,CI]
  by_cases h:b=x
  .subst h;simp
  .rw[DR h]
   simp[h]
theorem qR{a:Cv}{H:Hp}{p:Obj×V}(h:a.lookup b=some p):pub a H b=some (dF b p.1 p.2):=by unfold pub;rw[h]
theorem dG{a:Cv}(h:b∉cL a):pub a H b=H b:=by
 unfold pub
 cases e:a.lookup b with
 | none=>rfl
 | some p=>exact absurd (gY.mpr ⟨p,e⟩) h
theorem kF{a:Cv}(c:∀ b∈cL a,H b=none):aC H (pub a H):=λb o e=>by
 rw[dG λz=>by rw[c b z]at e;cases e];exact e
theorem aN3{w:W9}{fs:L9 Az}{d:Cv}{H1:Hp}{h h':Hz}(l:∀ b∈cL d,H b=none)(k:HOk P w (pub d H) h)(un:Un fs [] (pub d H) H1 h h')(hk1:HOk P w H1 h') :
  Un fs [] H (hid (cL d) H1) h h'/\HOk P w (hid (cL d) H1) h':=by
 have inn:∀ b,b∈cL d->∃ o v,h.get? b=some o/\h'.get? b=some o/\H1 b=some (dF b o v):=λb a=>by
  obtain⟨⟨o,v⟩,e⟩:=gY.mp a
  have z:=qR (H:=H) e
  have i:=un.frzs b o _ z
  exact⟨o,v,(dF.get k z).1,(dF.get hk1 i).1,i⟩
 have out:∀ b u,H b=some u->b∉cL d:=λb u e z=>by rw[l b z]at e;cases e
 refine⟨⟨λb o e n h1 h2=>?_,λb o e n h1 h2=>?_,λb o e n h2=>?_,un.there,λb xs q=>?_,λb o u q=>?_,λb ps q=>?_⟩,λb u e=>?_⟩
 .by_cases a:b∈cL d
  .grind
  .exact un.keep b o e (by rw[dG a];exact n) h1 h2
 .by_cases a:b∈cL d
  .obtain ⟨o',v,g,j,_⟩:=inn b a
   rw[e]at g;cases g;exact⟨o.slots,j⟩
  .exact un.slot b o e (by rw[dG a];exact n) h1 h2
 .by_cases a:b∈cL d
  .exact oG a
  .rw[a9 a];exact un.free b o e (by rw[dG a];exact n) h2
 .have a:=out b _ q
  rw[a9 a];exact un.tups b xs (by rw[dG a];exact q)
 .have a:=out b _ q
  rw[a9 a];exact un.frzs b o u (by rw[dG a];exact q)
 .have a:=out b _ q
  rw[a9 a];exact un.tbls b ps (by rw[dG a];exact q)
 .obtain ⟨e1,a⟩:=o7 e
  have f:∀ c o,H1 c=some o->(∀ o' v,o≠dF c o' v)->c∉cL d:=λc o q n z=>by
   ext
  exact(hk1 b u e1).stay (λ_ _ _ q=>q) (λc q=>by rw[a9 (f c _ q λ_ _ z=>nomatch z)];exact q) (λc _ q=>by rw[a9 (f c _ q λ_ _ z=>nomatch z)];exact q) λc _ q=>by rw[a9 (f c _ q λ_ _ z=>nomatch z)];exact q
structure PubRel(X:Cx)(Z:St)(H:Hp)(js:List Nat)(cv:Cv):Prop where
 at':∀ b o v,cv.lookup b=some (o,v)->∃ x j,j∈js/\X.N[j]? = some x/\X.env.cells.lookup x=some b/\Z[j]? = some (some v)
 all:∀ j∈js,∃ x c o v,X.N[j]? = some x/\X.env.cells.lookup x=some c/\Z[j]? = some (some v)/\cv.lookup c=some (o,v)
 free:∀ b∈cL cv,H b=none
 inj:∀ x y c,X.env.cells.lookup x=some c->X.env.cells.lookup y=some c->x=y
section
variable{X:Cx}{ap:L9 (Az×Obj)}{Z:St}{H:Hp}{s:S9}
def aBI(X:Cx)(Z:St)(j:Nat):Prop:=∃ x v,X.N[j]? = some x/\X.env.kindOf x=some .cell/\X.fn x=true/\Z[j]? = some (some v)
theorem aII(I:Inv X ap Z H s):∀ (js:L9 Nat),(∀ j∈js,aBI X Z j)->∃ cv,PubRel X Z H js cv/\∀ b o v,cv.lookup b=some (o,v)->(∃ u,s.heap.get? b=some o/\o.data=.cell (some u)/\aR v u)/\X.s₀.heap.objs.size<=b/\∃ x,X.env.cells.lookup x=some b
 | [],_=>⟨[],⟨λb o v e=>by simp at e,λj hj=>by simp at hj,λb hb=>by simp[cL]at hb,I.ok.inj⟩,λb o v e=>by simp at e⟩
 | j::js,hj=>by
  obtain⟨cv,R,ok⟩:=aII I js λD h'=>hj D (AQ _ h')
  obtain⟨x,v,q,f,O,n⟩:=hj j AX
  obtain⟨m,U,M⟩:=I.loc
  obtain⟨u,r,l⟩:=M j x v q n (.inr (.inl f))
  rcases l with ⟨i,_⟩|⟨_,c,d,o,G,L⟩
  .rw[f]at i;cases i
  .have h:=I.ok.cab x c O d
   by_cases g:c∈cL cv
   .obtain ⟨⟨o',a⟩,e⟩:=gY.mp g
    obtain⟨p,D,P,w,y,A⟩:=R.at' c o' a e
    have t:x=p:=I.ok.inj x p c d y
    subst t
    refine⟨cv,⟨λb o v e=>?_,λk f=>?_,R.free,R.inj⟩,ok⟩
    .obtain ⟨x,j,h1,h2⟩:=R.at' b o v e
     exact⟨x,j,AQ _ h1,h2⟩
    .rcases AW.mp f with z|z
     .subst z
      obtain⟨u2,r2,T⟩:=M D x a w A (.inr (.inl (by assumption)))
      obtain⟨⟨N,F,K,Q⟩,_⟩:=ok c o' a e
      rw[G]at F;cases F
      rw[L]at K
      have:u=N:=by cases K;rfl
      subst this
      have C:v=a:=aR.inj r Q
      subst C
      exact⟨x,c,_,v,q,d,n,e⟩
     .exact R.all k z
   .refine ⟨(c,o,v)::cv,⟨λb o' a e=>?_,λk f=>?_,λb hb=>?_,R.inj⟩,λb o' a e=>?_⟩
    .rw[CI]at e
     by_cases hb:b=c
     .subst hb
      simp only[EJ]at e
      cases e
      exact⟨x,j,AX,q,d,n⟩
     .rw[DR hb]at e
      obtain⟨x,j,h1,h2⟩:=R.at' b o' a e
      exact⟨x,j,AQ _ h1,h2⟩
    .rcases AW.mp f with z|z
     .subst z
      exact⟨x,c,o,v,q,d,n,by rw[CI];simp⟩
     .obtain ⟨p,J,o',a,h1,h2,S,E⟩:=R.all k z
      refine⟨p,J,o',a,h1,h2,S,?_⟩
      rw[CI,DR (show J≠c from λz=>by rw[z]at E;exact g (gY.mpr ⟨_,E⟩))];exact E
    .have B:b=c\/b∈cL cv:=by simpa[cL] using hb
     rcases B with z|z
     .subst z;exact I.freeC x b d
     .exact R.free b z
    .rw[CI]at e
     by_cases hb:b=c
     .subst hb
      simp only[EJ]at e
      cases e
      exact⟨⟨u,G,L,r⟩,h,x,d⟩
     .rw[DR hb]at e
      exact ok b o' a e
theorem aPD(I:Inv X ap Z H s){js:L9 Nat}{d:Cv}(R:PubRel X Z H js d)(ok:∀ b o v,d.lookup b=some (o,v)->(∃ u,s.heap.get? b=some o/\o.data=.cell (some u)/\aR v u)/\X.s₀.heap.objs.size<=b/\∃ x,X.env.cells.lookup x=some b) :
  Env0 X.prog X.w X.K X.mg X.base X.A X.stack s (pub d H) where
 frames:=I.ok.frames
 mod:=I.ok.mod
 bs:=λb o e=>⟨(I.bs b o e).1,by
  rw[dG]
  .exact (I.bs b o e).2
  .intro z
   obtain⟨⟨o',v⟩,q⟩:=gY.mp z
   have h1:=(ok b o' v q).2.1
   have h2:=AS e
   exact absurd (A0 h2 (A2 I.ok.bsz h1)) (BW _)⟩
 bsz:=A2 I.ok.bsz I.sz
 funs:=I.stack
 frf:=λb a=>by
  rw[dG]
  .exact I.stkFree b a
  .intro z
   obtain⟨⟨o',v⟩,q⟩:=gY.mp z
   obtain⟨_,h1,x,g⟩:=ok b o' v q
   rcases AW.mp (I.stkSub b a)with f|f
   .exact I.cne x b g f
   .obtain ⟨_,o,i,_⟩:=I.ok.funs.mem f
    exact absurd (A0 (AS i) h1) (BW _)
 hok:=λb u e=>by
  by_cases a:b∈cL d
  .obtain ⟨⟨o,v⟩,q⟩:=gY.mp a
   rw[qR q]at e;cases e
   obtain⟨⟨u,h1,h2,h⟩,_⟩:=ok b o v q
   exact dF.ok h h1 h2
  .rw[dG a]at e
   exact(I.hok b u e).stay (λ_ _ _ q=>q) (λc q=>kF R.free _ _ q) (λc _ q=>kF R.free _ _ q) λc _ q=>kF R.free _ _ q
 bare:=I.bare
def aIJ(X:Cx)(js:L9 Nat)(sp:Sp)(E:XK)(t:TA):TE:=λZ H Q=>t Z H λvs H1=>(∀ j∈js,aBI X Z j)/\∀ cv,PubRel X Z H1 js cv->sp vs (pub cv H1) (λv H2=>Q v (hid (cL cv) H2)) (λc e H2=>E c e (hid (cL cv) H2)/\∀ a,e=some a->a∉cL cv)
theorem wG{ps:L9 Str}{sp:Sp}{E:XK}{p pos:Pos}{t:TA}{js:L9 Nat}(C:Calls X.prog X.w X.K X.mg X.base (CXe X.prog X.w) k x ps sp)(hr:Room k X.A)(V:Gl X x)(hx:lC (CXe X.prog X.w) X E)(N:PA X (e::es) t)(B:(x == ("__debug__":Str))=false:=by decide)
  (he:starEach (e::es) X.env=(false,eval e X.env)::starEach es X.env:=by rfl) (hpl:(backTo pos (starEach es X.env)).any (·.1)=false:=by rfl):PE X (.Call (.Name x p) (e::es) [] pos) (aIJ X js sp E t):=by
 obtain⟨f,fd,F,b,m,W⟩:=C
 intro ap s Z H Q I h
 refine CZ (xP I V m ?_ B)
 refine GK (h₀:=X.base) I.ok.mod.kin W (thn (N pos ap s Z H _ I h) λus s1 ⟨vs,H1,g,r,l,q⟩=>⟨g.kIn,?_⟩) he hpl
 obtain⟨n,R,ok⟩:=aII g js l
 have i:=q n R
 have o:=aPD g R ok
 have P:us.length=ps.length:=by rw[<-r.length];exact F.len _ _ _ _ i
 have G:=b s1 us g.kIn (by simpa using P)
 rw[C8]at G
 refine wpAny_call (FT (F.run X.A X.stack s1 _ ⟨us,[]⟩ us vs _ _ hr o G r i) λM s' j=>?_)
 cases M with
 | error ev=>
  obtain⟨e,C,od,H',rfl,os,a,un,hok,z,⟨y,T,J,L,D⟩,U,O⟩:=j
  obtain⟨d,c⟩:=aN3 R.free o.hok un hok
  refine hx ap Z H1 s1 (.ref e) s' g ⟨e,C,od,hid (cL n) H',rfl,os,a,d,c,?_,⟨y,T,J,L,λt e1=>?_⟩,U⟩
  .rw[a9 (O e rfl)];exact z
  .exact ⟨iG (D t e1).1,(D t e1).2⟩
 | ok fl=>
  cases fl with
  | ret u=>
   obtain⟨v,H',os,a,un,hok,Y,S⟩:=j
   obtain⟨d,c⟩:=aN3 R.free o.hok un hok
   exact g.after ⟨v,hid (cL n) H',os,a,d,c,Y,S⟩
  | next=>exact False.elim j
  | brk=>exact False.elim j
  | cont=>exact False.elim j
end
noncomputable def aBJ(Ps:L9 Az)(qs:L9 (Pos×Str)):Hp:=λb=>if b∈Ps then some (.tbl qs)else none
def aBK(mg:Str->O9 V9)(h base:Hz)(T:Hp)(qs:L9 (Pos×Str))(xs:L9 Str):Prop:=
 ∀ x∈xs,∃ c0 P0,T P0=some (.tbl qs)/\Tb mg base c0 P0/\∀ f o fd,mg x=some (.ref f)->h.get? f=some o->o.data=.func fd->fd.code=.ref c0
theorem aIK{w:W9}{mb:Str->O9 V9}{CX:CXT}{fa:Az}{fd:FuncData}{c:S9}{ns:L9 Int}{qs:L9 (Pos×Str)}{xs:L9 Str}{tb:Str->Az×Az}
  (X:∀ x∈xs,CodeHd c.heap (tb x).1 (tb x).2/\c.heap.get? (tb x).2=some (tabObj #[])) (ad:∀ x∈xs,∀ f o fd,mg x=some (.ref f)->c.heap.get? f=some o->o.data=.func fd->fd.code=.ref (tb x).1)
  (aj:∃ bm ob,mg "__builtins__"=some (.ref bm)/\bm≠builtinsNs/\c.heap.get? bm=some ob/\ob.cls=.type "module"/\ob.dict=some builtinsNs/\ob.data=.plain) (hNT:noTabs K=true)
  (KX:K.In c.heap) (M:c.heap.Ns mainGlobals mg) (hb:c.heap.Ns builtinsNs mb) (ai:∀ x:Str,x≠"__name__"->mb x=bootBuiltins x) (O:c.heap.NoLimit) (hg:c.gens = #[])
  (Y:c.heap.get? a=some {cls:=.type "list",data:=.seq vs.toArray}) (hi:IntsAre vs ns) (hl:ns.length<=sizeLine) (hr:Room k callerA)
  (F:∀ (base:Hz) (T:Hp),K.In base->base.Ns mainGlobals mg->aBK mg c.heap base T qs xs->∃ sp,FnOk P w K mg base CX k fa fd [x] sp/\∀ H:Hp,aC T H->SqL K H a (ns.map V.int)->sp [.ref a] H (λv _=>v=.bl true) λ_ _ _=>False) (hbind:∀ (s:S9) (u:V9),BindsTo s fd ⟨[u],[]⟩ [(x,u)])
  (hCX:∀ H e s',CX [] H c (λ_ _ _=>False) e s'->False) :
  codeAny (model P w) callerA (.call (.ref fa) ⟨[.ref a],[]⟩) (λr s'=>r=.ok (.ret (.bool true))/\OldK c.heap s'.heap/\s'.os=c.os/\AllBare s'.gens) c:=by
 have rv:=zN hi
 have S:=hi.length
 let Ps:L9 Az:=xs.map λx=>(tb x).2
 have l:∀ b∈Ps,c.heap.get? b=some (tabObj #[])/\isCodeTable c.heap b:=λb hb=>by
  obtain⟨y,G,rfl⟩:=AT.mp hb
  exact⟨(X y G).2,((X y G).1.tab (X y G).2).isCodeTable⟩
 have E:a∉Ps:=λz=>by have:=(l a z).1;rw[Y]at this;cases this
 have aa:∀ b∈Ps,K.lookup b=none:=λb hb=>by
  cases e:K.lookup b with
  | none=>rfl
  | some o=>
   have e2:=KX b o e
   rw[(l b hb).1]at e2
   cases e2
   have h2:=BO.mp hNT (b,_) (PySem.W.mem_of_lookupK e)
   ext
 have C:∀ H:Hp,(∀ b∈Ps,H b=some (.tbl qs))->(∀ b,H b≠none->b=a\/b∈Ps)->(H a=none\/∃ o xs,H a=some (.frz o (.lst xs)))->SqL K H a (ns.map V.int)->HOk P w H c.heap->(H a≠none->K.lookup a=none)->
   codeAny (model P w) callerA (.call (.ref fa) ⟨[.ref a],[]⟩) (λr s'=>r=.ok (.ret (.bool true))/\OldK c.heap s'.heap/\s'.os=c.os/\AllBare s'.gens) c:=by
  intro H hP hA hO hS U hK
  have g:∀ {b:Az} {o:Obj},c.heap.get? b=some o->H b=none->(n6 c.heap H).get? b=some o:=λe n=>aK5 e n
  have i:∀ {b:Az} {o:Obj},c.heap.get? b=some o->(∀ vs,o.data≠.seq vs)->o≠tabObj #[]->H b=none:=λ{b o} e d d2=>by
   ext
  have ag:∀ {b:Az} {o:Obj} {es:Array DictEntry} {ep:Nat},c.heap.get? b=some o->o.data=.dict es ep->H b=none:=λ{b o es ep} e d=>i e (λvs z=>by rw[d]at z;cases z) λz=>by rw[z]at d;cases d
  have B:∀ {b:Az} {m:Str->O9 V9},c.heap.Ns b m->(n6 c.heap H).Ns b m:=λ{b m} ⟨o,es,ep,e,d,r⟩=>⟨o,es,ep,g e (ag e d),d,r⟩
  have R:K.In (n6 c.heap H):=λb o e=>g (KX b o e) (by
   cases q:H b with
   | none=>rfl
   | some u=>
    rcases hA b (by rw[q];simp)with e'|e'
    .grind
    .rw[aa b e']at e;cases e)
  have hM:Mod K mg (n6 c.heap H):=⟨R,B M,⟨mb,B hb,ai⟩,let ⟨mc,h1,h2⟩:=O;⟨mc,B h1,h2⟩⟩
  have e0:Env0 P w K mg (n6 c.heap H) callerA [] c H:=⟨rfl,hM,λb o e=>aOR e,EZ (aHR _ _),trivial,λb hb=>absurd (show b∈([]:L9 Az)from hb) (by simp),U,.of_eq hg⟩
  have ac:aBK mg c.heap (n6 c.heap H) (aBJ Ps qs) qs xs:=λy G=>by
   refine⟨(tb y).1,(tb y).2,AN (AT.mpr ⟨y,G,rfl⟩),⟨?_,?_⟩,ad y G⟩
   .obtain ⟨o,vs,J,tf,I,tg,ah,N,tt,e1,r1,r2,r3⟩:=(X y G).1
    exact⟨o,vs,J,tf,I,tg,ah,N,tt,g e1 (i e1 (λvs z=>by rw[r2]at z;cases z) λz=>by rw[z]at r1;cases r1),r1,r2,r3⟩
   .grind
  have af:aC (aBJ Ps qs) H:=λb o e=>by
   unfold aBJ at e
   ext
  obtain⟨sp,FO,ae⟩:=F _ _ R (B M) ac
  refine FT (FO.run callerA [] c H ⟨[.ref a],[]⟩ [.ref a] [.ref a] _ _ hr e0 (hbind c (.ref a)) (.cons rfl .nil) (ae H af hS)) λr s' h=>?_
  cases r with
  | error e=>exact(hCX H e s' h).elim
  | ok fl=>
   cases fl with
   | next=>exact False.elim h
   | brk=>exact False.elim h
   | cont=>exact False.elim h
   | ret u=>
    obtain⟨v,H',os,L,un,A,r',q⟩:=h
    have q':v=.bl true:=q
    subst q'
    obtain rfl:u=Value.bool true:=r'
    have kept:∀ b o,c.heap.get? b=some o->b∉Ps->s'.heap.get? b=some o:=λb o e hb=>by
     cases q:H b with
     | none=>exact un.keep b o e q (by intro z;exact absurd (show b∈([]:L9 Az)from z) (by simp)) (by simp)
     | some u=>
      rcases hA b (by rw[q];simp)with z|z
      .subst z
       rcases hO with z|⟨ob,xs,z⟩
       .grind
       .have Q:=un.frzs b ob _ z
        obtain⟨e1,_⟩:=U b _ z
        obtain⟨e2,_⟩:=A b _ Q
        ext
      .grind
    refine⟨rfl,⟨λb o e=>?_,λb o e=>?_⟩,os,L⟩
    .by_cases hb:b∈Ps
     .obtain ⟨ps,e2,_⟩:=(show bS P w H' s'.heap b (.tbl qs)from A b _ (un.tbls b _ (hP b hb)))
      have e1:=(l b hb).1
      rw[e]at e1;cases e1
      exact .inr (.inl ⟨(l b hb).2,rfl,#[],ps,rfl,by rw[Array.empty_append];exact e2⟩)
     .exact .inl (kept b o e hb)
    .by_cases hb:b∈Ps
     .obtain ⟨ps,e2,_⟩:=(show bS P w H' s'.heap b (.tbl qs)from A b _ (un.tbls b _ (hP b hb)))
      ext
     .grind
 have t:∀ (H:Hp) b,b∈Ps->bS P w H c.heap b (.tbl qs):=λH b hb=>⟨#[],(l b hb).1,trivial,λp _=>.inl rfl⟩
 cases Z:K.lookup a with
 | some o=>
  have e:=KX a o Z
  rw[Y]at e
  cases e
  refine C (aBJ Ps qs) (λb hb=>AN hb) (λb z=>?_) (.inl (AL E)) (.inr ⟨_,vs.toArray,_,Z,rfl,rfl,rfl,by rw[A6,S];exact hl,by simpa using rv⟩) (λb u z=>?_) λz=>absurd (AL E) z
  .by_cases hb:b∈Ps
   .grind
   .exact absurd (AL hb) z
  .by_cases hb:b∈Ps
   .have D:=(AN hb).symm.trans z
    cases D
    exact t _ b hb
   .have D:=(AL hb).symm.trans z
    cases D
 | none=>
  refine C (λb=>if b=a then some (.frz {cls:=.type "list",data:=.seq vs.toArray} (.lst (ns.map V.int)))else aBJ Ps qs b) (λb hb=>?_) (λb z=>?_) (.inr ⟨_,_,AN rfl⟩) (.inl (.inr ⟨{cls:=.type "list",data:=.seq vs.toArray},AN rfl⟩)) (λb u z=>?_) λ_=>Z
  .rw[AL (show ¬ b=a from λz=>E (by rw[<-z];exact hb))];exact AN hb
  .by_cases hb:b=a
   .exact .inl hb
   .rw[AL hb]at z
    by_cases j:b∈Ps
    .exact .inr j
    .exact absurd (AL j) z
  .by_cases hb:b=a
   .have D:=(AN hb).symm.trans z
    cases D
    subst hb
    exact⟨Y,by rw[AB];exact hl,vs,_,rv,Y⟩
   .have D:=(AL hb).symm.trans z
    by_cases j:b∈Ps
    .have Q:=(AN j).symm.trans D
     cases Q
     exact t _ b j
    .have Q:=(AL j).symm.trans D
     cases Q
theorem aPE{p:P9}{b:L9 Str}{g:ExcName->O9 V9}{l:Str->O9 V9}{h:Hz}(T:Top p b g mg l h)(xs:L9 Str)(hx:∀ x∈xs,∃ d∈recsOf p,d.name=x) :
  ∃ tb:Str->Az×Az,(∀ x∈xs,CodeHd h (tb x).1 (tb x).2/\h.get? (tb x).2=some (tabObj #[]))/\∀ x∈xs,∀ f o fd,mg x=some (.ref f)->h.get? f=some o->o.data=.func fd->fd.code=.ref (tb x).1:=by
 have e:∀ x,∃ t:Az×Az,x∈xs->(CodeHd h t.1 t.2/\h.get? t.2=some (tabObj #[]))/\∀ f o fd,mg x=some (.ref f)->h.get? f=some o->o.data=.func fd->fd.code=.ref t.1:=λx=>by
  by_cases n:x∈xs
  .obtain ⟨d,q,rfl⟩:=hx x n
   obtain⟨a,o,fd,c,m,h1,h2,r,s,j,i⟩:=T.tab d q
   refine⟨(c,m),λ_=>⟨⟨PySem.W.CodeHd.of j i,i.2⟩,λf o' k e1 e2 u=>?_⟩⟩
   simp_all
  .simp_all
 exact⟨λx=>(e x).choose,λx hx=>((e x).choose_spec hx).1,λx hx=>((e x).choose_spec hx).2⟩
theorem walk_ofT{l:OpenLaw}{n:Nat}{c:L9 Str}{L:(Str->O9 V9)->Hz->Prop}{D:W9->Hz->Prop}{d:DefRec}{K:Params->Frag}{CX:W9->CXT}{qs:L9 (Pos×Str)}{xs:L9 Str}
  (t:∀ x∈xs,∃ d∈recsOf q,d.name=x) (hNT:∀ w:W9,noTabs (K w.params)=true)
  (O:l.most=some n) (A:n<=sizeLine) (y:d.params.defaults=[]) (hr:Room k callerA)
  (M:∀ (w:W9) (h:Hz),D w h->(K w.params).In h)
  (F:∀ (w:W9) (mg:Str->O9 V9) (fa:Az) (h:Hz),(K w.params).In h->h.Ns mainGlobals mg->mg d.name=some (.ref fa)->
   ∃ fd:FuncData,(∀ (s:S9) (u:V9),BindsTo s fd ⟨[u],[]⟩ [(x,u)]) /\
    ∀ (base:Hz) (T:Hp),(K w.params).In base->base.Ns mainGlobals mg->aBK mg h base T qs xs->∃ sp,FnOk l.prog w (K w.params) mg base (CX w) k fa fd [x] sp /\
     ∀ (H:Hp) (a:Az) (ns:L9 Int),ns.length<=n->aC T H->SqL (K w.params) H a (ns.map V.int)->sp [.ref a] H (λv _=>v=.bl true) λ_ _ _=>False)
  (r:∀ (w:W9) (H:Hp) (s:S9) (e:V9) (s':S9),CX w [] H s (λ_ _ _=>False) e s'->False) :
  WalkO q c L D l.row.toRowW d [] (λf vs=>PySem.call f vs):=by
 refine Att.attach_call O y λw s₀ j mg Q fa o pm cd doc a vs ns G Yq R U N B m i p J=>?_
 have C:=M w _ Yq
 obtain⟨fd,I,Y⟩:=F w mg fa _ C G.T.g B
 obtain⟨tb,E,z⟩:=aPE G.T xs t
 refine aIK (qs:=qs) E z G.T.bmain (hNT w) C G.T.g G.T.b G.T.builtins G.T.nolimit J m i (A2 p A) hr (λbase T P X S=>?_) I λH e s'=>r w H j e s'
 ext
end L2
variable{Q:V9->S9->Prop}{c n:Nat}{st:Stmt}{q:E2}{rest:L9 E2}{is:L9 Nat}
namespace Fl
mutual
noncomputable def eD:Dz->Bool
 | .none=>true
 | .int _=>true
 | .str x=>PyData.strOk x
 | .tuple xs=>cH xs
 | _=>false
noncomputable def cH:L9 Dz->Bool
 | []=>true
 | x::t=>eD x && cH t
end
mutual
noncomputable def hZ(w:W9):Dz->Int
 | .none=>reduceHash 0xFCA86420
 | .int i=>hashInt i
 | .str x=>hashStr w x
 | .tuple xs=>reduceHash (Builtin.Tuple.tupleHashOf (l7 w xs))
 | _=>0
noncomputable def l7(w:W9):L9 Dz->L9 Int
 | []=>[]
 | x::t=>hZ w x::l7 w t
end
mutual
noncomputable def f6:Dz->Nat
 | .tuple xs=>mI xs+1
 | _=>1
noncomputable def mI:L9 Dz->Nat
 | []=>0
 | x::t=>f6 x+mI t
end
mutual
theorem oH:∀ {d:Dz},eD d=true->d.canLay0=true
 | .none,_=>rfl
 | .int _,_=>rfl
 | .str x,h=>h
 | .tuple xs,h=>by
  have h':cH xs=true:=h
  exact aBL h'
theorem aBL:∀ {xs:L9 Dz},cH xs=true->PyData.canLayAll0 xs=true
 | [],_=>rfl
 | x::t,h=>by
  have h':(eD x && cH t)=true:=h
  rw[A4]at h'
  show(x.canLay0 && PyData.canLayAll0 t)=true
  rw[oH h'.1,aBL h'.2];rfl
end
mutual
theorem x3:∀ {d e:Dz},eD d=true->eD e=true->(PyData.eqv d e=true↔d=e)
 | .none,e,_,he=>by cases e<;>simp[PyData.eqv]<;>cases he
 | .int i,e,_,he=>by cases e<;>simp[PyData.eqv]<;>cases he
 | .str x,e,_,he=>by cases e<;>simp[PyData.eqv]<;>cases he
 | .tuple xs,e,hd,he=>by
  have hd':cH xs=true:=hd
  cases e with
  | tuple ys=>
   have a:cH ys=true:=he
   have:=aBM hd' a
   show PyData.eqvAll xs ys=true↔_
   rw[this]
   exact⟨λz=>by rw[z],λz=>by cases z;rfl⟩
  | _=>simp[PyData.eqv]<;>cases he
theorem aBM:∀ {xs ys:L9 Dz},cH xs=true->cH ys=true->(PyData.eqvAll xs ys=true↔xs=ys)
 | [],ys,_,_=>by cases ys<;>simp[PyData.eqvAll]
 | x::t,ys,hx,hy=>by
  have hx':(eD x && cH t)=true:=hx
  rw[A4]at hx'
  cases ys with
  | nil=>simp[PyData.eqvAll]
  | cons y u=>
   have c:(eD y && cH u)=true:=hy
   rw[A4]at c
   rw[PyData.eqvAll,A4,x3 hx'.1 c.1,aBM hx'.2 c.2]
   exact⟨λ⟨a,b⟩=>by rw[a,b],λz=>by cases z;exact⟨rfl,rfl⟩⟩
end
noncomputable instance decPyData:DecidableEq Dz:=λa b=>Classical.propDecidable (a=b)
theorem aEI{d e:Dz}(b:eD d=true)(a:eD e=true):PyData.eqv d e=decide (d=e):=by
 by_cases h:d=e
 .rw[A1 h,(x3 b a).mpr h]
 .rw[BA h]
  cases q:PyData.eqv d e with
  | false=>rfl
  | true=>exact absurd ((x3 b a).mp q) h
theorem aGF(xs:L9 Dz):f6 (.tuple xs)=mI xs+1:=by rw[f6]
theorem zQ(A:U9):A.in1.units=A.units+1:=rfl
def lE(prog:P9)(w:W9)(E:V9->S9->Prop)(d:Dz):Prop:=∀ (v:V9) (as:L9 Az) (A:U9) (s:S9) (Q:Int->S9->Prop),eD d=true->Reads s.heap v d as->A.units+d.depth < cLine->Q (hZ w d) {s with toks:=s.toks+f6 d}->
 wpAny (model prog w) A (pyHash v) Q E s
theorem aTF{prog:P9}{w:W9}{E:V9->S9->Prop}:∀ (xs:L9 Dz) (ih:∀ x∈xs,lE prog w E x) (vs:L9 V9) (as:L9 Az) (A:U9) (s:S9) (b:Array Int) (Q:Array Int->S9->Prop),cH xs=true->ReadsAll s.heap vs xs as->A.units+PyData.depthAll xs < cLine->
  (∀ b',b'.toList=b.toList++l7 w xs->Q b' {s with toks:=s.toks+mI xs})->
  wpAny (model prog w) A (forIn vs b λx r=>do let h <-pyHash x;pure PUnit.unit;pure (ForInStep.yield (r.push h))) Q E s:=by
 intro xs
 induction xs with
 | nil=>
  intro ih vs as A s b Q _ x _ h
  cases x
  exact AE (h b (by simp[l7]))
 | cons k xs ih0=>
  intro ih vs as A s b Q f x c h
  cases x with
  | @cons v vs _ _ as bs x1 x2=>
   have a:(eD k && cH xs)=true:=f
   rw[A4]at a
   have d:A.units+max k.depth (PyData.depthAll xs) < cLine:=c
   rw[EB]
   refine AA (AA (ih k AX _ _ A s _ a.1 x1 (by ext) ?_))
   refine AA (AE (AE ?_))
   refine ih0 (λx e=>ih x (AQ _ e)) _ _ A {s with toks:=s.toks+f6 k} _ Q a.2 x2 (by ext) λb' g=>?_
   have q:=h b' (by rw[g];simp[l7])
   rw[show mI (k::xs)=f6 k+mI xs by rw[mI],<-Nat.add_assoc]at q
   exact q
theorem zR(w:W9)(i:Int):hZ w (.int i)=hashInt i:=by rw[hZ]
theorem nI(w:W9)(i:Str):hZ w (.str i)=hashStr w i:=by rw[hZ]
theorem aIL(w:W9)(xs:L9 Dz):hZ w (.tuple xs)=reduceHash (Builtin.Tuple.tupleHashOf (l7 w xs)):=by rw[hZ]
theorem aGG(i:Int):f6 (.int i)=1:=by unfold f6;rfl
theorem aGH(i:Str):f6 (.str i)=1:=by unfold f6;rfl
theorem aLN{prog:P9}{w:W9}{E:V9->S9->Prop}(i:Int):lE prog w E (.int i):=λv a A s Q _ r _ h=>by
 rw[zR,aGG]at h
 cases r
 exact wpAny_pyHash_int h
theorem aLO{prog:P9}{w:W9}{E:V9->S9->Prop}(i:Str):lE prog w E (.str i):=λv a A s Q _ r _ h=>by
 rw[nI,aGH]at h
 cases r
 exact wpAny_pyHash_str h
theorem aLP{prog:P9}{w:W9}{E:V9->S9->Prop}(xs:L9 Dz)(e:∀ x∈xs,lE prog w E x):lE prog w E (.tuple xs):=λv d A s Q i r f h=>by
 rw[aIL,aGF]at h
 cases r with
 | @tuple a o vs n _ d h1 h2 h3 h4=>
  have c:cH xs=true:=i
  have g:A.units+(PyData.depthAll xs+1) < cLine:=f
  refine pyHash_slot (T:="tuple") ⟨o,h1,h2⟩ F.slot_tuple_hash F.entry_tuple_hash (F.args_tuple_hash_1 _) (beq_builtin_none _) (.inr (by ext)) ?_
  show wpAny _ _ (Builtin.Tuple.tupleItemsOf (.ref a) >>= _) _ _ s
  refine AA (wpAny_tupleItemsOf h1 h3 ?_)
  refine AA ?_
  rw[<-Array.forIn_toList]
  refine aTF xs e vs.toList d A.in1 s #[] _ c h4 (by rw[zQ];ext) λb j=>?_
  show wpAny _ _ (retInt (Builtin.Tuple.tupleHashOf b.toList)) _ _ _
  rw[j]
  exact AA (wpAny_mkInt (AE ⟨_,_,rfl,h⟩))
theorem aGI(w:W9):hZ w .none=reduceHash 0xFCA86420:=by rw[hZ]
theorem aDZ:f6 .none=1:=by unfold f6;rfl
theorem aLQ{prog:P9}{w:W9}{E:V9->S9->Prop}:lE prog w E .none:=λv c A s Q _ r b h=>by
 rw[aGI,aDZ]at h
 generalize a:reduceHash 0xFCA86420=g at h
 cases r
 refine pyHash_slot (T:="NoneType") rfl F.slot_NoneType_hash F.entry_NoneType_hash (F.args_NoneType_hash_1 _) (beq_builtin_none _) (.inr (by ext)) (AA (AE (AA (wpAny_mkInt (AE ⟨0xFCA86420,_,rfl,?_⟩)))))
 rw[a]
 exact h
theorem aTG{prog:P9}{w:W9}{E:V9->S9->Prop}:∀ (n:Nat) (d:Dz),sizeOf d<=n->lE prog w E d:=by
 intro n
 induction n with
 | zero=>intro d h;cases d<;>simp at h
 | succ n ih=>
  intro d h
  cases d with
  | none=>exact aLQ
  | int i=>exact aLN i
  | str x=>exact aLO x
  | tuple xs=>
   refine aLP xs λx e=>ih x ?_
   have:=List.sizeOf_lt_of_mem e
   ext
  | bool b=>exact λv c A s Q a=>nomatch a
  | list xs=>exact λv c A s Q a=>nomatch a
  | dict xs=>exact λv c A s Q a=>nomatch a
theorem aTH{prog:P9}{w:W9}{E:V9->S9->Prop}(d:Dz):lE prog w E d:=aTG (sizeOf d) d (AK _)
theorem aPF{M:Model}{A:U9}{E:V9->S9->Prop}{s:S9}:∀ (n:Nat) (d:Dz) (v:V9) (as:L9 Az) (Q:Bool->S9->Prop),eD d=true->Reads s.heap v d as->d.depth<=n->Q true s->wpAny M A (eqIsQuiet n v) Q E s:=by
 intro n
 induction n with
 | zero=>
  intro d v as Q c r f h
  cases d with
  | none=>cases r;rw[DX _ rfl];exact AE h
  | int i=>cases r;rw[DX _ rfl];exact AE h
  | str x=>cases r;rw[DX _ rfl];exact AE h
  | tuple xs=>
   have g:PyData.depthAll xs+1<=0:=f
   ext
  | bool b=>exact nomatch c
  | list xs=>exact nomatch c
  | dict xs=>exact nomatch c
 | succ n ih=>
  intro d v as Q c r f h
  cases d with
  | none=>cases r;rw[DX _ rfl];exact AE h
  | int i=>cases r;rw[DX _ rfl];exact AE h
  | str x=>cases r;rw[DX _ rfl];exact AE h
  | bool b=>exact nomatch c
  | list xs=>exact nomatch c
  | dict xs=>exact nomatch c
  | tuple xs=>
   cases r with
   | @tuple a o vs m _ as h1 h2 h3 h4=>
    have j:cH xs=true:=c
    have g:PyData.depthAll xs+1<=n+1:=f
    have k:s.TypeIs (.ref a) "tuple":=⟨o,h1,h2⟩
    unfold eqIsQuiet
    refine AA (FU k F.slot_tuple_eq.lookup ?_)
    show wpAny _ _ (isInstance (.ref a) (.type "tuple") >>= _) _ _ s
    refine AA (HE k isSubtype_tuple_tuple ?_)
    simp only[Bool.not_true,CG,DI]
    refine AA (C3 h1 h3 ?_)
    refine AA ?_
    show wpAny _ _ (forIn vs _ _) _ _ s
    rw[<-Array.forIn_toList]
    refine wpAny_forIn_list _ (λrest r s'=>r.1=none/\s'=s/\∃ ys bs,cH ys=true/\PyData.depthAll ys<=n/\ReadsAll s.heap rest ys bs) _ ?_ ?_ _ _ ⟨rfl,rfl,xs,_,j,by ext,h4⟩
    .rintro v rest r s' ⟨hr,rfl,ys,bs,hy,hdy,ry⟩
     cases ry with
     | @cons _ _ y yt cs ds r1 r2=>
      have e:(eD y && cH yt)=true:=hy
      rw[A4]at e
      have l:max y.depth (PyData.depthAll yt)<=n:=hdy
      refine AA (ih y v _ _ e.1 r1 (by ext) ?_)
      simp only[Bool.not_true,CG,DI]
      exact AE ⟨rfl,rfl,yt,_,e.2,by ext,r2⟩
    .rintro ⟨r1,r2⟩ s' ⟨hr,rfl,_⟩
     simp only at hr
     subst hr
     exact AE h
def aYA(h:Hz)(d:Dz)(a:Az):Prop:=eD d=true/\d.depth<=8/\∃ as,Reads h (.ref a) d as
theorem aGJ{h h':Hz}{a:Az}{o:Obj}{es:Array DictEntry}{ep:Nat}(q:h.get? a=some o)(k:o.data=.dict es ep)(l:Heap.SameBut a h h'){v:V9}{d:Dz}{e:L9 Az}(c:eD d=true)(r:Reads h v d e):Reads h' v d e:=by
 refine Reads.rec (motive_1:=λv d e _=>eD d=true->Reads h' v d e) (motive_2:=λvs xs e _=>cH xs=true->ReadsAll h' vs xs e) ?_ ?_ ?_ ?_ ?_ ?_ ?_ ?_ ?_ r c
 .exact λ_=>.none
 .intro b c;cases c
 .exact λi t _=>.int i t
 .exact λi t _=>.str i t
 .intro b o' vs n xs e h1 h2 f j g c;cases c
 .intro b o' vs n xs e h1 h2 f j g c
  exact .tuple ((l.2 b (λz=>by subst z;rw[q]at h1;cases h1;rw[k]at f;cases f)).trans h1) h2 f (g c)
 .intro b o' p n m e bs h1 h2 f j s i1 i2 c;cases c
 .exact λ_=>.nil
 .intro v vs d ds e bs r1 r2 i1 i2 c
  exact .cons (i1 ((A4 ..).mp c).1) (i2 ((A4 ..).mp c).2)
def gJ(prog:P9)(w:W9):HeapKind prog w Dz where
 is:=aYA
 hash:=hZ w
 draws:=f6
 room:=λA=>A.units+9 < cLine
 inj:=λ{h a x y} hx hy=>by
  obtain⟨k1,_,as,r1⟩:=hx
  obtain⟨k2,_,bs,r2⟩:=hy
  exact PySem.SeqAt.Reads.unique x y _ _ _ (oH k1) r1 r2
 keeps:=λ{h h' k a d o es ep} hx ho hd hs=>by
  obtain⟨k1,k2,as,r1⟩:=hx
  exact⟨k1,k2,as,aGJ ho hd hs k1 r1⟩
 pyHash:=λ{A E s k a Q} hu hk h=>by
  obtain⟨k1,k2,as,r1⟩:=hk
  exact aTH k _ as A s Q k1 r1 (by ext) h
 eqBool:=λ{A E s x y a b Q} hu hx hy h=>by
  obtain⟨k1,k2,as,r1⟩:=hx
  obtain⟨l1,l2,bs,r2⟩:=hy
  refine PySem.SeqAt.eqAt_reads x y A s _ _ as bs r1 r2 (oH k1) (oH l1) ?_ prog w E Q ?_
  .have:min x.depth y.depth<=8:=A2 (EU _ _) k2
   ext
  .rw[aEI k1 l1];exact h
 quiet:=λ{A E s k a Q} hk h=>by
  obtain⟨k1,k2,as,r1⟩:=hk
  exact aPF 8 k _ as Q k1 r1 k2 h
abbrev Ent:=Dz×V×V
def nJ(w:W9)(p:Ent)(en:DictEntry):Prop:=en.hash=hZ w p.1/\aR p.2.1 en.key/\aR p.2.2 en.val
def bB(w:W9)(a:Az)(es:L9 Ent)(ep:Nat):HO:=.ext λh=>(a == sysModules)=false/\∃ o ar,h.get? a=some o/\o.ExactDict/\o.data=.dict ar ep/\Paired (nJ w) es ar.toList
theorem f7{P:P9}{w:W9}{H:Hp}{h:Hz}{a:Az}{es:L9 Ent}{ep:Nat}(c:(a == sysModules)=false)(b:∃ o ar,h.get? a=some o/\o.ExactDict/\o.data=.dict ar ep/\Paired (nJ w) es ar.toList):bS P w H h a (bB w a es ep):=
 ⟨⟨c,b⟩,let ⟨o,_,e,_⟩:=b;⟨o,e⟩,λh1 h2 ⟨q,o,es,e,r⟩ d=>⟨q,o,es,d _ e,r⟩⟩
noncomputable def fF:Dz->Bool
 | .tuple xs=>eD (.tuple xs) && decide ((PyData.tuple xs).depth<=8)
 | _=>false
noncomputable def jY:Dz->Bool
 | .int _=>true
 | .str _=>true
 | _=>false
def bH(k:Dz)(ks:L9 Dz):Bool:=(fF k && ks.all fF) || (jY k && ks.all jY)
theorem aPG{d:Dz}(h:fF d=true):∃ xs,d=.tuple xs/\eD d=true/\d.depth<=8:=by
 cases d with
 | tuple xs=>
  have h':(eD (.tuple xs) && decide ((PyData.tuple xs).depth<=8))=true:=h
  simp_all
 | _=>cases h
def keyPy:Key->Dz
 | .inl i=>.int i
 | .inr x=>.str x
theorem x5{d:Dz}(h:jY d=true):∃ k,d=keyPy k:=by
 cases d with
 | int i=>exact⟨.inl i,rfl⟩
 | str i=>exact⟨.inr i,rfl⟩
 | _=>cases h
theorem zS{a b:Key}(h:keyPy a=keyPy b):a=b:=by
 cases a<;>cases b<;>cases h<;>rfl
theorem x6{K:Frag}{H:Hp}{v:V}{k:Key}(h:DatV K H v (keyPy k)):v=kV k:=by
 cases k with
 | inl i=>exact h.int_of
 | inr x=>exact h.str_of
theorem aBN{P:P9}{w:W9}(k:Key):hZ w (keyPy k)=(cD P w).hash k:=by
 cases k with
 | inl i=>exact zR w i
 | inr x=>exact nI w x
def x8:Ent->(Dz×Az×V9)->Prop:=λe x=>e.1=x.1/\e.2.1=.ref x.2.1/\aR e.2.2 x.2.2
def x9:Ent->(Key×V9)->Prop:=λe x=>e.1=keyPy x.1/\e.2.1=kV x.1/\aR e.2.2 x.2
theorem aIM{P:P9}{w:W9}:∀ {es:L9 Ent} {ens:L9 DictEntry},Paired (nJ w) es ens->(∀ e∈es,∃ b,e.2.1=.ref b)->∃ xs,ens=xs.map (entryOfKey (gJ P w))/\Paired x8 es xs
 | _,_,.nil,_=>⟨[],rfl,.nil⟩
 | e::es,en::ens,.cons h t,hb=>by
  obtain⟨xs,h1,h2⟩:=aIM (P:=P) t λe m=>hb e (AQ _ m)
  obtain⟨b,a⟩:=hb e AX
  obtain⟨k,j,l⟩:=h
  rw[a]at j
  obtain⟨c,i,f⟩:=en
  have g:i=Value.ref b:=j
  have d:c=hZ w e.1:=k
  subst g d
  exact⟨(e.1,b,f)::xs,by rw[AU,h1];rfl,.cons ⟨rfl,a,l⟩ h2⟩
theorem mJ{P:P9}{w:W9}:∀ {es:L9 Ent} {xs:L9 (Dz×Az×V9)},Paired x8 es xs->Paired (nJ w) es (xs.map (entryOfKey (gJ P w)))
 | _,_,.nil=>.nil
 | _,_,.cons h t=>.cons ⟨by rw[h.1];rfl,by rw[h.2.1];rfl,h.2.2⟩ (mJ t)
theorem aBO{P:P9}{w:W9}:∀ {es:L9 Ent} {ens:L9 DictEntry},Paired (nJ w) es ens->(∀ e∈es,∃ k,e.1=keyPy k/\e.2.1=kV k)->∃ xs,Pairs (cD P w) ens xs/\Paired x9 es xs/\∀ en∈ens,∃ k,(cD P w).is k en.key=true/\en.hash=(cD P w).hash k
 | _,_,.nil,_=>⟨[],.nil,.nil,λ_ h=>by cases h⟩
 | e::es,en::ens,.cons h t,hb=>by
  obtain⟨xs,h1,h2,h3⟩:=aBO (P:=P) t λe g=>hb e (AQ _ g)
  obtain⟨k,b,a⟩:=hb e AX
  obtain⟨f,i,j⟩:=h
  have hi:(cD P w).is k en.key=true:=aGC (by rw[<-a];exact i)
  refine⟨(k,en.val)::xs,.cons hi rfl h1,.cons ⟨b,a,j⟩ h2,λd c=>?_⟩
  rcases AW.mp c with z|z
  · subst z; exact⟨k, hi, by rw [f, b, aBN (P := P)]⟩
  · exact h3 d z
theorem aPH{P:P9}{w:W9}{k:Key}{v:V9}(h:(cD P w).is k v=true):aR (kV k) v:=by
 rcases keyIs_shape h with ⟨i,t,rfl,rfl⟩|⟨x,t,rfl,rfl⟩
 · exact⟨t, rfl⟩
 · exact⟨t, rfl⟩
theorem mK{P:P9}{w:W9}:∀ {es:L9 Ent} {xs:L9 (Key×V9)} {ens:L9 DictEntry},Paired x9 es xs->Pairs (cD P w) ens xs->(∀ en∈ens,∃ k,(cD P w).is k en.key=true/\en.hash=(cD P w).hash k)->Paired (nJ w) es ens
 | _,_,_,.nil,.nil,_=>.nil
 | _,_,_,.cons h t,.cons p1 p2 ps,hk=>by
  obtain⟨k,hk1,hk2⟩:=hk _ AX
  obtain rfl:=(cD P w).inj _ _ _ hk1 p1
  refine .cons ⟨by rw[hk2,h.1,aBN (P:=P)],by rw[h.2.1];exact aPH hk1,by rw[p2];exact h.2.2⟩ (mK t ps λen a=>hk en (AQ _ a))
def atE(es:L9 Ent)(k:Dz):O9 V:=(es.find? λe=>decide (e.1=k)).map (·.2.2)
def jZ(es:L9 Ent)(k:Dz)(kv v:V):L9 Ent:=if (atE es k).isSome then es.map (λe=>if e.1=k then(e.1,e.2.1,v)else e)else es++[(k,kv,v)]
theorem mL{k:Dz}:∀ {es:L9 Ent} {xs:L9 (Dz×Az×V9)},Paired x8 es xs->iE (atE es k) ((atKey xs k).map (·.2))
 | _,_,.nil=>trivial
 | e::es,x::xs,.cons h t=>by
  have ih:=mL (k:=k) t
  unfold atE atKey at ih ⊢
  rw[DT,DT,h.1]
  by_cases q:x.1=k
  · rw [A1 q]; exact h.2.2
  · rw [BA q]; exact ih
theorem lF{k:Key}:∀ {es:L9 Ent} {xs:L9 (Key×V9)},Paired x9 es xs->iE (atE es (keyPy k)) (valueAt xs k)
 | _,_,.nil=>trivial
 | e::es,x::xs,.cons h t=>by
  have ih:=lF (k:=k) t
  unfold atE valueAt at ih ⊢
  rw[DT,DT,h.1]
  by_cases q:x.1=k
  · rw [A1 q, A1 (by rw [q])]; exact h.2.2
  · rw [BA q, BA (λz => q (zS z))]; exact ih
theorem jL{o:O9 V}{u:O9 V9}(h:iE o u):o.isSome=u.isSome:=by
 cases o<;>cases u<;>first|rfl|exact h.elim
theorem o9{α β:Type}{f:α->β->Prop}{g:α->α}{k:β->β}(hg:∀ a b,f a b->f (g a) (k b)):∀ {xs:L9 α} {ys:L9 β},Paired f xs ys->Paired f (xs.map g) (ys.map k)
 | _,_,.nil=>.nil
 | _,_,.cons h t=>.cons (hg _ _ h) (o9 hg t)
theorem pA{α β:Type}{f:α->β->Prop}{a:α}{b:β}(h:f a b):∀ {xs:L9 α} {ys:L9 β},Paired f xs ys->Paired f (xs++[a]) (ys++[b])
 | _,_,.nil=>.cons h .nil
 | _,_,.cons q t=>.cons q (pA h t)
theorem aAP{k:Dz}{b:Az}{v:V}{u:V9}{es:L9 Ent}{xs:L9 (Dz×Az×V9)}(r:aR v u)(h:Paired x8 es xs):Paired x8 (jZ es k (.ref b) v) (storedH xs k b u):=by
 have q:=jL (mL (k:=k) h)
 rw[G2]at q
 unfold jZ storedH
 rw[q]
 cases(atKey xs k).isSome with
 | true=>
  rw[AN rfl,AN rfl]
  refine o9 (λe x a=>?_) h
  unfold putAt
  rw[a.1]
  by_cases z:x.1=k
  · rw [AN z, AN z]; exact⟨rfl, a.2.1, r⟩
  · simp_all
 | false=>rw[AL (by decide),AL (by decide)];exact pA ⟨rfl,rfl,r⟩ h
theorem aN4{k:Key}:∀ {xs:L9 (Key×V9)},xs.any (λkv=>decide (kv.1=k))=(valueAt xs k).isSome
 | []=>rfl
 | x::xs=>by
  have ih:=aN4 (k:=k) (xs:=xs)
  unfold valueAt at ih ⊢
  rw[List.any_cons,DT]
  by_cases q:x.1=k
  · rw [A1 q]; rfl
  · rw [BA q, Bool.false_or]; exact ih
theorem aAQ{k:Key}{v:V}{u:V9}{es:L9 Ent}{xs:L9 (Key×V9)}(r:aR v u)(h:Paired x9 es xs):Paired x9 (jZ es (keyPy k) (kV k) v) (stored xs k u):=by
 have q:=jL (lF (k:=k) h)
 unfold jZ stored
 rw[q,aN4]
 cases(valueAt xs k).isSome with
 | true=>
  rw[AN rfl,AN rfl]
  refine o9 (λe x a=>?_) h
  by_cases z:x.1=k
  · rw [AN z, AN (by rw [a.1, z])]; exact⟨by rw [a.1], a.2.1, r⟩
  · rw [AL z, AL (λy => z (zS (a.1.symm.trans y)))]; exact a
 | false=>rw[AL (by decide),AL (by decide)];exact pA ⟨rfl,rfl,r⟩ h
section
variable{X:Cx}{ap:L9 (Az×Obj)}{Z:L2.St}{H:Hp}{s:S9}{a:Az}{es:L9 Ent}{k:Dz}{kv v:V}{ku u:V9}{A:U9}{E:V9->S9->Prop}
structure DicAt(X:Cx)(H:Hp)(a:Az)(es:List Ent)(k:Dz)(kv:V):Prop where
 o:∃ ep,H a=some (bB X.w a es ep)
 ks:∀ e∈es,DatV X.K H e.2.1 e.1
 nd:(es.map (·.1)).Nodup
 dk:DatV X.K H kv k
 one:bH k (es.map (·.1))=true
theorem wH{f:α->β->Prop}{y:β}:∀ {xs:L9 α} {ys:L9 β},Paired f xs ys->y∈ys->∃ x,x∈xs/\f x y
 | _,_,.nil,h=>by cases h
 | _,_,.cons q t,h=>by
  rcases AW.mp h with z|z
  .grind
  .obtain ⟨x,h1,h2⟩:=wH t z
   ext
theorem lU{γ:Type}{f:α->β->Prop}{g:α->γ}{k:β->γ}(h:∀ a b,f a b->g a=k b):∀ {xs:L9 α} {ys:L9 β},Paired f xs ys->xs.map g=ys.map k
 | _,_,.nil=>rfl
 | _,_,.cons q t=>by rw[AU,AU,h _ _ q,lU h t]
theorem qS{f:α->β}:∀ {xs:L9 α},(xs.map f).Nodup->xs.Nodup
 | [],_=>D0
 | x::t,h=>by
  rw[AU,C9]at h
  exact C9.mpr ⟨λz=>h.1 (DH z),qS h.2⟩
theorem DicAt.cases (D : DicAt X H a es k kv) (I : Inv X ap Z H s) (J : aR kv ku) : (a == sysModules) = false /\
    ((∃ b xs, kv = .ref b /\ ku = .ref b /\ Paired x8 es xs /\ (gJ X.prog X.w).is s.heap k b /\ s.heap.DictOfH (gJ X.prog X.w) a xs) \/
     (∃ kk xs, k = keyPy kk /\ kv = kV kk /\ Paired x9 es xs /\ (cD X.prog X.w).is kk ku = true /\ s.heap.DictOf (cD X.prog X.w) a xs)) := by
  obtain⟨ep, T⟩ := D.o
  obtain⟨⟨B, o, ar, h1, h2, L, M⟩, _, _⟩ := (show bS X.prog X.w H s.heap a (bB X.w a es ep)from I.hok a _ T)
  refine⟨B, ?_⟩
  have f := D.one
  unfold bH at f
  rw [CU, A4, A4, BO, BO]at f
  rcases f with ⟨z, y⟩ | ⟨z, y⟩
  · have m : ∀ (d : Dz) (v : V), fF d = true -> DatV X.K H v d -> ∃ j, v = .ref j /\ (gJ X.prog X.w).is s.heap d j := λd v B G => by
      obtain⟨ws, rfl, F, Q⟩ := aPG B
      obtain⟨j, vs, rfl, _, _⟩ := G.tup_of
      obtain⟨N, r⟩ := G.reads I (oH F) (u := .ref j) rfl
      exact⟨j, rfl, F, Q, N, r⟩
    obtain⟨b, rfl, A⟩ := m _ _ z D.dk
    cases(show ku = Value.ref b from J)
    obtain⟨xs, l, c⟩ := aIM (P := X.prog) M λe i => by
      obtain⟨j, e1, _⟩ := m e.1 e.2.1 (y _ (DH i)) (D.ks e i)
      exact⟨j, e1⟩
    refine .inl ⟨b, xs, rfl, rfl, c, A, o, ar, ep, h1, h2, L, l, λx R => ?_, ?_⟩
    · obtain⟨e, i, t⟩ := wH c R
      obtain⟨j, e1, q⟩ := m e.1 e.2.1 (y _ (DH i)) (D.ks e i)
      rw [t.2.1]at e1
      cases e1
      rw [<- t.1]; exact q
    · rw [<- lU (g := λe : Ent => e.1) (λa b h => h.1) c]; exact D.nd
  · obtain⟨kk, rfl⟩ := x5 z
    have n := x6 D.dk
    obtain⟨xs, l, c, E⟩ := aBO (P := X.prog) M λe i => by
      obtain⟨O, p⟩ := x5 (y _ (DH i))
      have q := D.ks e i
      rw [p]at q
      exact⟨O, p, x6 q⟩
    refine .inr ⟨kk, xs, rfl, n, c, aGC (by rw [<- n]; exact J), o, ar, ep, h1, h2, L, λS C => E S (by simpa using C), l, ?_⟩
    have : es.map (·.1) = (xs.map (·.1)).map keyPy := by rw [AZ]; exact lU (g := λe : Ent => e.1) (λa b h => h.1) c
    have nd := D.nd
    rw [this]at nd
    exact qS nd
theorem jM{A:U9}(a:A.units+64 < cLine):(gJ X.prog X.w).room A.in1:=by show A.in1.units+9 < cLine;rw[zQ];ext
theorem aTI(f:A.units+64 < cLine)(D:DicAt X H a es k kv)(I:Inv X ap Z H s)(i:aR kv ku)(h:∀ s',Inv X ap Z H s'->Q (.bool (atE es k).isSome) s'):wpAny (model X.prog X.w) A (compareOp .In ku (.ref a)) Q E s:=by
 obtain⟨e,⟨b,xs,rfl,rfl,c,d,dd⟩|⟨g,xs,rfl,rfl,c,d,dd⟩⟩:=D.cases I i
 .refine wpAny_in_heap (jM f) d e dd ?_
  have q:=jL (mL (k:=k) c)
  rw[G2]at q
  rw[<-q];exact h _ (I.tok _)
 .refine wpAny_in_of d e dd.mapOf ?_
  rw[<-jL (lF (k:=g) c)];exact h _ (I.tok _)
theorem aPI(f:A.units+64 < cLine)(D:DicAt X H a es k kv)(I:Inv X ap Z H s)(i:aR kv ku)(h:∀ s',Inv X ap Z H s'->Q (.bool (!(atE es k).isSome)) s'):wpAny (model X.prog X.w) A (compareOp .NotIn ku (.ref a)) Q E s:=by
 obtain⟨e,⟨b,xs,rfl,rfl,c,d,dd⟩|⟨g,xs,rfl,rfl,c,d,dd⟩⟩:=D.cases I i
 .refine wpAny_notIn_heap (jM f) d e dd ?_
  have q:=jL (mL (k:=k) c)
  rw[G2]at q
  rw[<-q];exact h _ (I.tok _)
 .refine wpAny_notIn_of d e dd.mapOf ?_
  rw[<-jL (lF (k:=g) c)];exact h _ (I.tok _)
theorem aPJ(j:A.units+64 < cLine)(D:DicAt X H a es k kv)(I:Inv X ap Z H s)(m:aR kv ku)(i:atE es k=some v)(h:∀ w' s',Inv X ap Z H s'->aR v w'->Q w' s'):wpAny (model X.prog X.w) A (getItem (.ref a) ku) Q E s:=by
 obtain⟨o,⟨b,xs,rfl,rfl,e,g,dd⟩|⟨l,xs,rfl,rfl,e,g,dd⟩⟩:=D.cases I m
 .have q:=mL (k:=k) e
  rw[i]at q
  obtain⟨w',f,c⟩:=iE.some_of q
  obtain⟨p,n,d⟩:=HZ.mp f
  refine wpAny_getItem_heap (jM j) g dd n ?_
  rw[d];exact h w' _ (I.tok _) c
 .have q:=lF (k:=l) e
  rw[i]at q
  obtain⟨w',f,c⟩:=iE.some_of q
  exact wpAny_getItem_of g dd.mapOf f (h w' _ (I.tok _) c)
theorem aPK{Q:Unit->S9->Prop}(y:A.units+64 < cLine)(D:DicAt X H a es k kv)(I:Inv X ap Z H s)(B:aR kv ku)(x:aR v u)(hz:es.length<=sizeLine)(h:∀ ep s',Inv X ap Z (upd H a (bB X.w a (jZ es k kv v) ep)) s'->Q () s') :
  wpAny (model X.prog X.w) A (setItem (.ref a) ku u) Q E s:=by
 obtain⟨t,⟨b,xs,rfl,rfl,e,g,dd⟩|⟨C,xs,rfl,rfl,e,g,dd⟩⟩:=D.cases I B
 .have m:xs.length<=sizeLine:=by rw[<-Paired.length e];exact hz
  refine wpAny_setItem_heap (hsz:=m) (jM y) g dd λh' c j=>?_
  obtain⟨f,ar,ep,d,h2,i,n,_,r⟩:=c
  obtain⟨l,p⟩:=D.o
  refine h ep _ (jJ I (by rw[p];exact True.intro) j ⟨f,d⟩ (f7 t ⟨f,ar,d,h2,i,?_⟩))
  rw[n]
  exact mJ (aAP x e)
 .have m:xs.length<=sizeLine:=by rw[<-Paired.length e];exact hz
  refine wpAny_setItem_pairs (hsz:=m) g dd λh' c j=>?_
  obtain⟨f,ar,ep,d,h2,i,n,r,_⟩:=c
  obtain⟨l,p⟩:=D.o
  refine h ep _ (jJ I (by rw[p];exact True.intro) j ⟨f,d⟩ (f7 t ⟨f,ar,d,h2,i,?_⟩))
  exact mK (aAQ x e) r λz q=>n z (by simpa using q)
end
structure Er where
 c:Str
 fs:List (Str×Dz)
inductive R(α:Type) where
 | bad|ok (a:α)|ex (e:Er)
noncomputable def R.bind{α β:Type}:R α->(α->R β)->R β
 | .bad,_=>.bad
 | .ok a,f=>f a
 | .ex e,_=>.ex e
@[simp] theorem R.bind_ok{α β:Type}(a:α)(f:α->R β):(R.ok a).bind f=f a:=id rfl
@[simp] theorem R.bind_bad{α β:Type}(f:α->R β):(R.bad:R α).bind f=.bad:=id rfl
@[simp] theorem R.bind_ex{α β:Type}(e:Er)(f:α->R β):(R.ex e:R α).bind f=.ex e:=id rfl
inductive A where
 | d (x:Dz)|l (xs:List Dz)|m (a0:List (Dz×Dz))|x (e:Er)|g (k n:Nat) (f:List Dz->R Dz)|k (q:Str)|f (a0:List (Dz×Dz))|o (e:Er)|w (a:Az)
abbrev Sg:=L9 (O9 A)
structure Gb where
 B:Az->Hp->Nat->Nat->(List Dz->R Dz)->Prop
 T:Hp
 w:World
structure Ct where
 K:Frag
 mg:Str->Option V9
 w:World
 F0:Hp
 H0:Hp
 g:Gb
 cells:List (Str×Az)
 cls:Str->Option ClSt
theorem uV{w:W9}{p:Az}{es:L9 Ent}{ep:Nat}{q:Str}(h:bB w p es ep=.cod q):False:=by unfold bB at h;cases h
theorem a7(H:Hp):aC H H:=λ_ _ h=>h
theorem aP{H H':Hp}(s:aC H H'){a:Az}(h:H' a=none):H a=none:=by
 cases e:H a with
 | none=>rfl
 | some o=>rw[s a o e]at h;cases h
def lV(H:Hp)(a:Az):Prop:=H a=none\/∃ q,H a=some (.cod q)
theorem lV.back{H H1:Hp}{a:Az}(s:aC H H1)(h:lV H1 a):lV H a:=by
 cases e:H a with
 | none=>exact .inl e
 | some o=>
  have e1:=s a o e
  rcases h with z|⟨q,z⟩
  · ext
  · rw [e1]at z; cases z; exact .inr ⟨q, e⟩
structure Ext(F H F' H':Hp):Prop where
 hh:aC H H'
 ff:aC F F'
 fh:aC F' H'
 nw:∀ a,F a=none->F' a≠none->lV H a
theorem Ext.refl{F H:Hp}(h:aC F H):Ext F H F H:=⟨a7 H,a7 F,h,λa e n=>absurd e n⟩
theorem Ext.trans{F H c H1 d H2:Hp}(a:Ext F H c H1)(b:Ext c H1 d H2):Ext F H d H2:=
 ⟨λx o e=>b.hh x o (a.hh x o e),λx o e=>b.ff x o (a.ff x o e),b.fh,λx e n=>by
  cases q:c x with
  | none=>exact(b.nw x q n).back a.hh
  | some o=>exact a.nw x e (by rw[q];exact λz=>nomatch z)⟩
theorem Ext.stay{F H a H':Hp}(s:Ext F H a H'){p:Az}{o:HO}(c:F p=none)(h2:H p=some o)(b:∀ q,o≠.cod q):a p=none:=by
 cases q:a p with
 | none=>rfl
 | some o=>
  rcases s.nw p c (by rw[q];exact λz=>nomatch z)with z|⟨d,z⟩
  · ext
  · ext
theorem aLR{F H:Hp}{p:Az}{o:HO}(s:aC F H):aC (upd F p o) (upd H p o):=λa u e=>by
 by_cases q:a=p
 · subst q; rw [aL]at e ⊢; exact e
 · rw [aE q]at e ⊢; exact s a u e
theorem Ext.new{F H:Hp}{p:Az}{o:HO}(s:aC F H)(b:H p=none):Ext F H (upd F p o) (upd H p o):=
 ⟨aC.upd b,aC.upd (aP s b),aLR s,λa e n=>by
  by_cases q:a=p
  · subst q; exact .inl b
  · rw [aE q]at n; exact absurd e n⟩
theorem Ext.own{F H:Hp}{p:Az}{o:HO}(s:aC F H)(b:H p=none):Ext F H F (upd H p o):=
 ⟨aC.upd b,a7 F,λa u e=>by
  rw[aE (a6 (s a u e) b)];exact s a u e,λa e n=>absurd e n⟩
def kG(K:Frag)(mg:Str->O9 V9)(F:Hp)(e:Er)(a C:Az):Prop:=mg e.c=some (.ref C)/\∃ od,F a=some (ExO a C od)/\((e.fs=[]/\od=none)\/∃ d fvs,od=some d/\F d=some (.xd fvs)/\fvs.map (·.1)=e.fs.map (·.1)/\DatVs K F (fvs.map (·.2)) (e.fs.map (·.2)))
theorem kG.same{K:Frag}{mg:Str->O9 V9}{F b:Hp}{e:Er}{a C:Az}(s:aC F b)(h:kG K mg F e a C):kG K mg b e a C:=by
 obtain⟨m,od,h1,h2⟩:=h
 refine⟨m,od,s _ _ h1,h2.imp id ?_⟩
 rintro ⟨d,fvs,e1,e2,e3,e4⟩
 exact⟨d,fvs,e1,s _ _ e2,e3,e4.same s⟩
def aGK(K:Frag)(mg:Str->O9 V9)(F:Hp)(e:Er)(a:Az):Prop:=∃ C dx fvs,mg e.c=some (.ref C)/\F a=some (.ins C dx fvs)/\fvs.map (·.1)=e.fs.map (·.1)/\DatVs K F (fvs.map (·.2)) (e.fs.map (·.2))
theorem aGK.same{K:Frag}{mg:Str->O9 V9}{F c:Hp}{e:Er}{a:Az}(s:aC F c)(h:aGK K mg F e a):aGK K mg c e a:=by
 obtain⟨C,dx,b,h1,h2,f,d⟩:=h
 exact⟨C,dx,b,h1,s _ _ h2,f,d.same s⟩
structure MapRel(K:Frag)(F:Hp)(es:List Ent)(a0:List (Dz×Dz)):Prop where
 k1:es.map (·.1)=a0.map (·.1)
 k2:DatVs K F (es.map (·.2.1)) (a0.map (·.1))
 vs:DatVs K F (es.map (·.2.2)) (a0.map (·.2))
 nd:(a0.map (·.1)).Nodup
theorem MapRel.same{K:Frag}{F b:Hp}{es:L9 Ent}{a:L9 (Dz×Dz)}(s:aC F b)(h:MapRel K F es a):MapRel K b es a:=⟨h.k1,h.k2.same s,h.vs.same s,h.nd⟩
def AF(g:Gb)(K:Frag)(mg:Str->O9 V9)(F:Hp):A->V->Prop
 | .d x,v=>DatV K F v x
 | .x e,v=>∃ a C,v=.ref a/\kG K mg F e a C
 | .g k n G,v=>∃ f F1,v=.ref f/\aC F1 F/\g.B f F1 k n G
 | .f a0,v=>∃ p es,v=.ref p/\(∃ ep,F p=some (bB g.w p es ep))/\MapRel K F es a0
 | .o e,v=>∃ a,v=.ref a/\aGK K mg F e a
 | .w a,v=>v=.ref a
 | _,_=>False
theorem AF.same{g:Gb}{K:Frag}{mg:Str->O9 V9}{F F':Hp}(s:aC F F'):∀ {a:A} {v:V},AF g K mg F a v->AF g K mg F' a v
 | .d x,v,h=>DatV.same s h
 | .x e,v,⟨a,C,h1,h2⟩=>⟨a,C,h1,h2.same s⟩
 | .g k n G,v,⟨f,F1,h1,h2,h3⟩=>⟨f,F1,h1,λa o z=>s a o (h2 a o z),h3⟩
 | .f a0,v,⟨p,es,h1,⟨ep,h2⟩,h3⟩=>⟨p,es,h1,⟨ep,s _ _ h2⟩,h3.same s⟩
 | .o e,v,⟨a,h1,h2⟩=>⟨a,h1,h2.same s⟩
 | .w a,v,h=>h
noncomputable def A.own:A->Bool
 | .l _=>true
 | .m _=>true
 | _=>false
def AO(c:Ct)(F H:Hp):A->V->Prop
 | .l xs,v=>∃ p vs,v=.ref p/\H p=some (.lst vs)/\F p=none/\c.H0 p=none/\DatVs c.K F vs xs
 | .m a0,v=>∃ p es,v=.ref p/\(∃ ep,H p=some (bB c.w p es ep))/\F p=none/\c.H0 p=none/\MapRel c.K F es a0
 | .k q,v=>∃ S f cl doc pm cc ct,c.cls q=some S/\v=.ref f/\F f=some (FnO f (S.obj cl doc pm cc ct))/\F cc=some (.cod S.qual)/\ClOf c.cells S.scope cl
 | a,v=>AF c.g c.K c.mg F a v
theorem AO.ext{c:Ct}{F H b H':Hp}(s:Ext F H b H'):∀ {a:A} {v:V},AO c F H a v->AO c b H' a v
 | .d x,v,h=>DatV.same s.ff h
 | .x e,v,h=>AF.same (g:=c.g) (K:=c.K) (mg:=c.mg) (a:=.x e) s.ff h
 | .g k n G,v,h=>AF.same (g:=c.g) (K:=c.K) (mg:=c.mg) (a:=.g k n G) s.ff h
 | .f a0,v,h=>AF.same (g:=c.g) (K:=c.K) (mg:=c.mg) (a:=.f a0) s.ff h
 | .o e,v,h=>AF.same (g:=c.g) (K:=c.K) (mg:=c.mg) (a:=.o e) s.ff h
 | .w a,v,h=>h
 | .k q,v,⟨S,f,cl,doc,pm,cc,ct,h0,h1,h2,h3,h4⟩=>⟨S,f,cl,doc,pm,cc,ct,h0,h1,s.ff _ _ h2,s.ff _ _ h3,h4⟩
 | .l xs,v,⟨p,vs,h1,h2,h3,h4,h5⟩=>⟨p,vs,h1,s.hh _ _ h2,s.stay h3 h2 (λ_ z=>nomatch z),h4,h5.same s.ff⟩
 | .m a0,v,⟨p,vs,h1,⟨ep,h2⟩,h3,h4,h5⟩=>⟨p,vs,h1,⟨ep,s.hh _ _ h2⟩,s.stay h3 h2 (λ_ z=>uV z),h4,h5.same s.ff⟩
theorem AO.at{c:Ct}{F H:Hp}{a:A}{v:V}(h:AO c F H a v)(o:a.own=true):∃ p o,v=.ref p/\H p=some o/\F p=none/\c.H0 p=none:=by
 cases a with
 | l xs=>obtain⟨p,vs,h1,h2,i,b,j⟩:=h;exact⟨p,_,h1,h2,i,b⟩
 | m xs=>obtain⟨p,vs,h1,⟨ep,h2⟩,i,b,j⟩:=h;exact⟨p,_,h1,h2,i,b⟩
 | d x=>cases o
 | x e=>cases o
 | g k n f=>cases o
 | k S=>cases o
 | f S=>cases o
 | o S=>cases o
 | w S=>cases o
theorem AO.off{c:Ct}{F H:Hp}{p:Az}{o:HO}:∀ {a:A} {v:V},AO c F H a v->v≠.ref p->AO c F (upd H p o) a v
 | .l xs,v,⟨q,vs,h1,h2,h3,h4,h5⟩,n=>⟨q,vs,h1,by rw[aE (λz=>n (by rw[h1,z]))];exact h2,h3,h4,h5⟩
 | .m xs,v,⟨q,vs,h1,⟨ep,h2⟩,h3,h4,h5⟩,n=>⟨q,vs,h1,⟨ep,by rw[aE (λz=>n (by rw[h1,z]))];exact h2⟩,h3,h4,h5⟩
 | .d x,v,h,_=>h
 | .x e,v,h,_=>h
 | .g k n G,v,h,_=>h
 | .k S,v,h,_=>h
 | .f S,v,h,_=>h
 | .o S,v,h,_=>h
 | .w S,v,h,_=>h
structure Ab(c:Ct)(Y:Sg)(Z:L2.St)(F H:Hp):Prop where
 len:Y.length=Z.length
 fh:aC F H
 slot:∀ (i:Nat) (a:A),Y[i]? = some (some a)->∃ v,Z[i]? = some (some v)/\AO c F H a v
 apart:∀ (i j:Nat) (a b:A),i≠j->Y[i]? = some (some a)->Y[j]? = some (some b)->a.own=true->b.own=true->Z[i]? ≠ Z[j]?
 f0:aC c.F0 F
 h0:aC c.H0 H
 n0:∀ a,c.F0 a=none->F a≠none->lV c.H0 a
 t0:aC c.g.T c.F0
theorem Ab.all{c:Ct}{Y:Sg}{Z:L2.St}{F H:Hp}(b:Ab c Y Z F H):Ext c.F0 c.H0 F H:=⟨b.h0,b.f0,b.fh,b.n0⟩
theorem Ab.ext{c:Ct}{Y:Sg}{Z:L2.St}{F H d H':Hp}(b:Ab c Y Z F H)(e:Ext F H d H'):Ab c Y Z d H' where
 len:=b.len
 fh:=e.fh
 slot:=λi a h=>let ⟨v,h1,h2⟩:=b.slot i a h;⟨v,h1,h2.ext e⟩
 apart:=b.apart
 f0:=λx o h=>e.ff x o (b.f0 x o h)
 h0:=λx o h=>e.hh x o (b.h0 x o h)
 n0:=λa h n=>by
  cases q:F a with
  | none=>exact(e.nw a q n).back b.h0
  | some o=>exact b.n0 a h (by rw[q];exact λz=>nomatch z)
 t0:=b.t0
def XW(c:Ct)(E:XK)(e:Er):Prop:=∀ a C F' H',Ext c.F0 c.H0 F' H'->kG c.K c.mg F' e a C->E (.ref C) (some a) H'
def Rk{α:Type}(c:Ct)(E:XK)(F H:Hp)(r:R α)(k:α->Prop):Prop:=match r with
 | .bad=>False
 | .ok a=>k a
 | .ex e=>XW c E e
abbrev VR(α:Type):=α->V->Hp->Hp->Hp->Prop
def tV{α:Type}(Rel:VR α)(c:Ct)(E:XK)(f:Sg->R α):TE:=λZ H Q=>∃ Y F,Ab c Y Z F H/\Rk c E F H (f Y) λd=>∀ v F' H',Ext F H F' H'->Rel d v H F' H'->Q v H'
def bC(c:Ct):VR Dz:=λd v _ F _=>DatV c.K F v d
def aM(K:Frag)(F H:Hp)(v:V)(d:Dz):Prop:=DatV K F v d\/∃ p vs xs,v=.ref p/\d=.list xs/\H p=some (.lst vs)/\DatVs K F vs xs
def aU(c:Ct):VR Dz:=λd v _ F H=>aM c.K F H v d
def aLS(c:Ct):VR A:=λa v _ F _=>AF c.g c.K c.mg F a v
def uW(c:Ct):VR (L9 Dz):=λxs v H F H'=>∃ p vs,v=.ref p/\H p=none/\H' p=some (.lst vs)/\F p=none/\DatVs c.K F vs xs
abbrev PD(X:Cx)(c:Ct)(E:XK)(e:E2)(f:Sg->R Dz):Prop:=PE X e (tV (bC c) c E f)
abbrev PR(X:Cx)(c:Ct)(E:XK)(e:E2)(f:Sg->R Dz):Prop:=PE X e (tV (aU c) c E f)
abbrev PV(X:Cx)(c:Ct)(E:XK)(e:E2)(f:Sg->R A):Prop:=PE X e (tV (aLS c) c E f)
abbrev PN(X:Cx)(c:Ct)(E:XK)(e:E2)(f:Sg->R (L9 Dz)):Prop:=PE X e (tV (uW c) c E f)
theorem PE.imp{X:Cx}{e:E2}{t t':TE}(h:PE X e t)(i:∀ Z H Q,t' Z H Q->t Z H Q):PE X e t':=λap s Z H Q I q=>h ap s Z H Q I (i Z H Q q)
theorem PT.imp{X:Cx}{e:E2}{t t':TT}(h:PT X e t)(i:∀ Z H Q,t' Z H Q->t Z H Q):PT X e t':=λap s Z H Q I q=>h ap s Z H Q I (i Z H Q q)
theorem PS.imp{X:Cx}{e:Stmt}{t t':TS}(h:PS X e t)(i:∀ D Z H,t' D Z H->t D Z H):PS X e t':=λap s Z H D I q=>h ap s Z H D I (i D Z H q)
theorem PSs.imp{X:Cx}{e:L9 Stmt}{t t':TS}(h:PSs X e t)(i:∀ D Z H,t' D Z H->t D Z H):PSs X e t':=λap s Z H D I q=>h ap s Z H D I (i D Z H q)
def aN5{α:Type}(Rel:VR α):Prop:=∀ d v H F H1 F2 H2,Ext F H1 F2 H2->Rel d v H F H1->Rel d v H F2 H2
theorem aM.ext{K:Frag}{F H a H':Hp}{v:V}{d:Dz}(e:Ext F H a H')(h:aM K F H v d):aM K a H' v d:=by
 rcases h with h|⟨p,vs,xs,h1,h2,c,b⟩
 · exact .inl (h.same e.ff)
 · exact .inr ⟨p, vs, xs, h1, h2, e.hh _ _ c, b.same e.ff⟩
theorem qT(c:Ct):aN5 (aU c):=λd v H F H1 a H2 e h=>aM.ext e h
theorem aM.heap{K:Frag}{F H:Hp}{v:V}{d:Dz}(s:aC F H)(h:aM K F H v d):DatV K H v d:=by
 rcases h with h|⟨p,vs,xs,h1,h2,b,a⟩
 · exact h.same s
 · subst h1 h2; exact .lst (SqL.of b) (a.same s)
section
variable{X:Cx}{c:Ct}{E:XK}{α β γ:Type}{Ra:VR α}{Rb:VR β}{Rc:VR γ}{Z:L2.St}{H:Hp}{Q:VK}
theorem Rk.ok{F:Hp}{a:α}{k:α->Prop}(h:Rk c E F H (.ok a) k):k a:=h
theorem Rk.imp{F:Hp}{r:R α}{k b:α->Prop}(h:Rk c E F H r k)(i:∀ a,r=.ok a->k a->b a):Rk c E F H r b:=by
 cases r with
 | bad=>exact h
 | ok a=>exact i a rfl h
 | ex e=>exact h
theorem Rk.bind{F:Hp}{r:R α}{f:α->R β}{k:β->Prop}(h:Rk c E F H (r.bind f) k):Rk c E F H r λa=>Rk c E F H (f a) k:=by
 cases r with
 | bad=>exact h
 | ok a=>exact h
 | ex e=>exact h
theorem Rk.ext{F b H':Hp}{r:R α}{k:α->Prop}(e:Ext F H b H')(h:Rk c E F H r k):Rk c E b H' r k:=by
 cases r with
 | bad=>exact h
 | ok a=>exact h
 | ex x=>exact h
end
def aBP{α:Type}(Rel:VR α):Prop:=∀ d v H H1 F' H',aC H H1->Rel d v H1 F' H'->Rel d v H F' H'
theorem j2(c:Ct):aBP (bC c):=λ_ _ _ _ _ _ _ h=>h
theorem aN6(c:Ct):aBP (uW c):=λ_ _ _ _ _ _ s h=>by
 obtain⟨p,vs,h1,h2,a⟩:=h
 exact⟨p,vs,h1,aP s h2,a⟩
section
variable{X:Cx}{c:Ct}{E:XK}{α β γ:Type}{Ra:VR α}{Rb:VR β}{Rc:VR γ}
def Op1(c:Ct)(Ra:VR α)(Rb:VR β)(g:α->R β)(r:V->Hp->VK->Prop):Prop:=
 ∀ (H0 F H:Hp) (a:α) (b:β) (v:V) (Q:VK),aC F H->Ra a v H0 F H->g a=.ok b->(∀ w F' H',Ext F H F' H'->Rb b w H F' H'->Q w H')->r v H Q
def Op2(c:Ct)(Ra:VR α)(Rb:VR β)(Rc:VR γ)(g:α->β->R γ)(r:R2):Prop:=
 ∀ (H0 H1 F H:Hp) (a:α) (b:β) (d:γ) (v u:V) (Q:VK),aC F H->Ra a v H0 F H->Rb b u H1 F H->g a b=.ok d->(∀ w F' H',Ext F H F' H'->Rc d w H F' H'->Q w H')->r v u H Q
def lG(g:α->R β):Prop:=∀ a e,g a≠.ex e
def b7(g:α->β->R γ):Prop:=∀ a b e,g a b≠.ex e
theorem tV1{f:Sg->R α}{g:α->R β}{r:V->Hp->VK->Prop}(o:Op1 c Ra Rb g r)(l:lG g)(k:aBP Rb){Z:L2.St}{H:Hp}{Q:VK}(h:tV Rb c E (λY=>(f Y).bind g) Z H Q) :
  tV Ra c E f Z H λv H1=>r v H1 Q:=by
 obtain⟨Y,F,ab,h⟩:=h
 refine⟨Y,F,ab,(Rk.bind h).imp λa p q v m H1 e1 n=>?_⟩
 cases d:g a with
 | bad=>rw[d]at q;exact q.elim
 | ex e=>exact absurd d (l a e)
 | ok b=>
  rw[d]at q
  exact o H m H1 a b v Q e1.fh n d λw j H' e2 i=>q w j H' (e1.trans e2) (k _ _ _ _ _ _ e1.hh i)
theorem tV2{f:Sg->R α}{k:Sg->R β}{g:α->β->R γ}{r:R2}(s:Op2 c Ra Rb Rc g r)(p:b7 g)(n:aN5 Ra)(m:aBP Rc){Z:L2.St}{H:Hp}{Q:VK}(h:tV Rc c E (λY=>(f Y).bind λa=>(k Y).bind λb=>g a b) Z H Q) :
  tOp r (tV Ra c E f) (tV Rb c E k) Z H Q:=by
 obtain⟨Y,F,ab,h⟩:=h
 refine⟨Y,F,ab,(Rk.bind h).imp λa G q v B H1 e1 C=>?_⟩
 refine⟨Y,B,ab.ext e1,((Rk.bind q).ext e1).imp λb D q u l H2 e2 y=>?_⟩
 cases i:g a b with
 | bad=>rw[i]at q;exact q.elim
 | ex e=>exact absurd i (p a b e)
 | ok d=>
  rw[i]at q
  exact s H H1 l H2 a b d v u Q e2.fh (n _ _ _ _ _ _ _ e2 C) y i λw t H' A j=>q w t H' ((e1.trans e2).trans A) (m _ _ _ _ _ _ (λx o z=>e2.hh x o (e1.hh x o z)) j)
end
section
variable{K:Frag}{F H:Hp}{v:V}
theorem DatV.bl_of{b:Bool}(h:DatV K H v (.bool b)):v=.bl b:=by cases h;rfl
theorem DatV.non_of(h:DatV K H v .none):v=.non:=by cases h;rfl
theorem aM.int_of{i:Int}(h:aM K F H v (.int i)):v=.int i:=by
 rcases h with h|⟨_,_,_,_,h,_⟩
 · exact h.int_of
 · cases h
theorem aM.str_of{i:Str}(h:aM K F H v (.str i)):v=.str i:=by
 rcases h with h|⟨_,_,_,_,h,_⟩
 · exact h.str_of
 · cases h
theorem aM.bl_of{i:Bool}(h:aM K F H v (.bool i)):v=.bl i:=by
 rcases h with h|⟨_,_,_,_,h,_⟩
 · exact DatV.bl_of h
 · cases h
theorem aM.non_of(h:aM K F H v .none):v=.non:=by
 rcases h with h|⟨_,_,_,_,h,_⟩
 · exact DatV.non_of h
 · cases h
theorem aM.tup_of(s:aC F H)(h:aM K F H v (.tuple xs)):∃ a vs,v=.ref a/\SqT K F a vs/\SqT K H a vs/\DatVs K F vs xs:=by
 rcases h with h|⟨_,_,_,_,h,_⟩
 .obtain ⟨a,vs,h1,h2,b⟩:=h.tup_of
  exact⟨a,vs,h1,h2,h2.same s,b⟩
 .cases h
theorem aM.lst_of(s:aC F H)(h:aM K F H v (.list xs)):∃ a vs,v=.ref a/\SqL K H a vs/\DatVs K F vs xs:=by
 rcases h with h|⟨p,vs,ys,h1,h2,b,c⟩
 .obtain ⟨a,vs,h1,h2,b⟩:=h.lst_of
  exact⟨a,vs,h1,h2.same s,b⟩
 .cases h2
  exact⟨p,vs,h1,SqL.of b,c⟩
theorem aBQ{vs:L9 V}{i:Int}{d:Dz}(h:DatVs K F vs xs)(e:atI xs i=some d):∃ x,atI vs i=some x/\DatV K F x d:=by
 unfold atI at e ⊢
 rw[h.length]
 cases q:ixN xs.length i with
 | none=>rw[q]at e;cases e
 | some j=>
  rw[q]at e
  exact h.get' (i:=j) e
end
noncomputable def eV(i:Nat):Sg->R Dz:=λY=>match Y[i]? with
 | some (some (.d x))=>.ok x
 | _=>.bad
noncomputable def rV(i:Nat):Sg->R Dz:=λY=>match Y[i]? with
 | some (some (.d x))=>.ok x
 | some (some (.l xs))=>.ok (.list xs)
 | _=>.bad
noncomputable def vV(i:Nat):Sg->R A:=λY=>match Y[i]? with
 | some (some (.d x))=>.ok (.d x)
 | some (some (.x e))=>.ok (.x e)
 | some (some (.g k n f))=>.ok (.g k n f)
 | some (some (.f a0))=>.ok (.f a0)
 | _=>.bad
def eC(d:Dz):Sg->R Dz:=λ_=>.ok d
section
variable{X:Cx}{c:Ct}{E:XK}{e a b:E2}
theorem aTJ(h:PE X e (iW i)):PD X c E e (eV i):=PE.imp h λZ H Q ⟨Y,F,ab,k⟩=>by
 unfold eV at k
 split at k
 .rename_i x a
  obtain⟨v,h1,h2⟩:=ab.slot i _ a
  exact⟨v,h1,k v F H (Ext.refl ab.fh) h2⟩
 .exact k.elim
theorem aTK(h:PE X e (iW i)):PR X c E e (rV i):=PE.imp h λZ H Q ⟨Y,F,ab,k⟩=>by
 unfold rV at k
 split at k
 .rename_i x a
  obtain⟨v,h1,h2⟩:=ab.slot i _ a
  exact⟨v,h1,k v F H (Ext.refl ab.fh) (.inl h2)⟩
 .rename_i x a
  obtain⟨v,h1,p,vs,h2,d,f,g,b⟩:=ab.slot i _ a
  exact⟨v,h1,k v F H (Ext.refl ab.fh) (.inr ⟨p,vs,x,h2,rfl,d,b⟩)⟩
 .exact k.elim
theorem aTL(h:PE X e (iW i)):PV X c E e (vV i):=PE.imp h λZ H Q ⟨Y,F,ab,k⟩=>by
 unfold vV at k
 split at k
 .rename_i x a
  obtain⟨v,h1,h2⟩:=ab.slot i _ a
  exact⟨v,h1,k v F H (Ext.refl ab.fh) h2⟩
 .rename_i x a
  obtain⟨v,h1,h2⟩:=ab.slot i _ a
  exact⟨v,h1,k v F H (Ext.refl ab.fh) h2⟩
 .rename_i d f g a
  obtain⟨v,h1,h2⟩:=ab.slot i _ a
  exact⟨v,h1,k v F H (Ext.refl ab.fh) h2⟩
 .rename_i b a
  obtain⟨v,h1,h2⟩:=ab.slot i _ a
  exact⟨v,h1,k v F H (Ext.refl ab.fh) h2⟩
 .exact k.elim
theorem kH{v:V}{d:Dz}(h:PE X e (tC v))(a:∀ F,DatV c.K F v d):PD X c E e (eC d):=PE.imp h λZ H Q ⟨Y,F,ab,k⟩=>k v F H (Ext.refl ab.fh) (a F)
theorem aIN{i j pos}:PD X c E (.Constant (.int i) j pos) (eC (.int i)):=kH aSI λ_=>.int i
theorem aN7{i j pos}:PD X c E (.Constant (.bool i) j pos) (eC (.bool i)):=kH aV0 λ_=>.bl i
theorem aTM{i j pos}:PD X c E (.Constant (.str i) j pos) (eC (.str i)):=kH aSK λ_=>.str i
theorem aTN{j pos}:PD X c E (.Constant .none j pos) (eC .none):=kH aSJ λ_=>.non
theorem pB{f:Sg->R Dz}(h:PD X c E e f):PR X c E e f:=PE.imp h λZ H Q ⟨Y,F,ab,k⟩=>⟨Y,F,ab,k.imp λd _ q v a H' s r=>q v a H' s (.inl r)⟩
def vD(f:Sg->R Dz):Sg->R A:=λY=>(f Y).bind λx=>.ok (.d x)
theorem k6{f:Sg->R Dz}(h:PD X c E e f):PV X c E e (vD f):=PE.imp h λZ H Q ⟨Y,F,ab,k⟩=>⟨Y,F,ab,(Rk.bind k).imp λd _ q v a H' s r=>Rk.ok q v a H' s r⟩
def getD:A->R Dz
 | .d x=>.ok x
 | _=>.bad
def eA(f:Sg->R A):Sg->R Dz:=λY=>(f Y).bind getD
theorem aWG{f:Sg->R A}(h:PV X c E e f):PD X c E e (eA f):=PE.imp h λZ H Q ⟨Y,F,ab,k⟩=>⟨Y,F,ab,(Rk.bind k).imp λd _ q v a H' s r=>by
 cases d with
 | d x=>exact Rk.ok q v a H' s r
 | _=>exact False.elim q⟩
def eL(f:Sg->R (L9 Dz)):Sg->R Dz:=λY=>(f Y).bind λxs=>.ok (.list xs)
theorem qU{f:Sg->R (L9 Dz)}(h:PN X c E e f):PD X c E e (eL f):=PE.imp h λZ H Q ⟨Y,F,ab,k⟩=>⟨Y,F,ab,(Rk.bind k).imp λxs _ q v d H' s r=>by
 obtain⟨p,vs,h1,h2,i,b,g⟩:=r
 subst h1
 refine Rk.ok q (.ref p) (upd d p (.lst vs)) H' ⟨s.hh,λa o z=>?_,λa o z=>?_,λa z n=>?_⟩ (.lst (SqL.of aL) (g.same (aC.upd b)))
 .rw[aE (a6 (s.ff a o z) b)];exact s.ff a o z
 .by_cases w:a=p
  · subst w; rw [aL]at z; rw [i]; exact z
  · rw [aE w]at z; exact s.fh a o z
 .by_cases w:a=p
  · subst w; exact .inl h2
  · rw [aE w]at n; exact s.nw a z n⟩
def e1(g:α->R β)(f:Sg->R α):Sg->R β:=λY=>(f Y).bind g
def e2{γ:Type}(g:α->β->R γ)(f:Sg->R α)(f':Sg->R β):Sg->R γ:=λY=>(f Y).bind λx=>(f' Y).bind λy=>g x y
noncomputable def bV:Dz->Dz->R Dz
 | .int i,.int j=>.ok (.int (i+j))
 | .str x,.str y=>if x.length+y.length<=sizeLine then .ok (.str (x++y))else .bad
 | .tuple xs,.tuple ys=>if xs.isEmpty=false/\xs.length+ys.length<=sizeLine then .ok (.tuple (xs++ys))else .bad
 | _,_=>.bad
def dSub:Dz->Dz->R Dz
 | .int i,.int j=>.ok (.int (i - j))
 | _,_=>.bad
noncomputable def dMul:Dz->Dz->R Dz
 | .int i,.int j=>if (-18446744073709551616 < i/\i < 18446744073709551616)\/(-18446744073709551616 < j/\j < 18446744073709551616)then .ok (.int (i * j))else .bad
 | _,_=>.bad
def dDiv:Dz->Dz->R Dz
 | .int i,.int j=>if 0 < j/\j < 18446744073709551616 then .ok (.int (i / j))else .bad
 | _,_=>.bad
def dMod:Dz->Dz->R Dz
 | .int i,.int j=>if 0 < j then .ok (.int (i % j))else .bad
 | _,_=>.bad
def dNeg:Dz->R Dz
 | .int i=>.ok (.int (-i))
 | _=>.bad
def dLt:Dz->Dz->R Dz
 | .int i,.int j=>.ok (.bool (decide (i < j)))
 | _,_=>.bad
def dLe:Dz->Dz->R Dz
 | .int i,.int j=>.ok (.bool (decide (i<=j)))
 | _,_=>.bad
def dGt:Dz->Dz->R Dz
 | .int i,.int j=>.ok (.bool (decide (j < i)))
 | _,_=>.bad
def dGe:Dz->Dz->R Dz
 | .int i,.int j=>.ok (.bool (decide (j<=i)))
 | _,_=>.bad
def dEq(x y:Dz):R Dz:=if shaped x=true/\shaped y=true then .ok (.bool (PyData.eqv x y))else .bad
def dNe(x y:Dz):R Dz:=if shaped x=true/\shaped y=true then .ok (.bool (!PyData.eqv x y))else .bad
def iA:Dz->Bool
 | .none=>true
 | _=>false
def dIs(x y:Dz):R Dz:=if iA y=true then .ok (.bool (iA x))else .bad
def dIsnt(x y:Dz):R Dz:=if iA y=true then .ok (.bool (!iA x))else .bad
noncomputable def inD:Dz->Dz->O9 Bool
 | .str i,.str j=>some (!(Builtin.Str.occurrences j i 0 j.length 1).isEmpty)
 | x,.list xs=>if shaped x=true/\shaped (.list xs)=true then some (xs.any λy=>PyData.eqv y x)else none
 | x,.tuple xs=>if shaped x=true/\shaped (.tuple xs)=true then some (xs.any λy=>PyData.eqv y x)else none
 | _,_=>none
def dNin(x y:Dz):R Dz:=match inD x y with
 | some b=>.ok (.bool (!b))
 | none=>.bad
noncomputable def dIx:Dz->Dz->R Dz
 | .list xs,.int i=>match atI xs i with
  | some v=>.ok v
  | none=>.bad
 | .tuple xs,.int i=>match atI xs i with
  | some v=>.ok v
  | none=>.bad
 | .str z,.int i=>if z.length<=sizeLine then match atI z.cps.toList i with
  | some u=>.ok (.str ⟨#[u]⟩)
  | none=>.bad else .bad
 | _,_=>.bad
end
section
variable{X:Cx}{c:Ct}{E:XK}{e a b:E2}{α β γ:Type}{Ra:VR α}{Rb:VR β}{Rc:VR γ}{pos:Pos}
def r2D(Ra:VR α)(Rb:VR β)(Rc:VR γ)(g:α->β->R γ):R2:=λv u H Q=>∃ H0 H1 F a b d,aC F H/\Ra a v H0 F H/\Rb b u H1 F H/\g a b=.ok d/\∀ w F' H',Ext F H F' H'->Rc d w H F' H'->Q w H'
def r1D(Ra:VR α)(Rb:VR β)(g:α->R β):V->Hp->VK->Prop:=λv H Q=>∃ H0 F a b,aC F H/\Ra a v H0 F H/\g a=.ok b/\∀ w F' H',Ext F H F' H'->Rb b w H F' H'->Q w H'
theorem wI{g:α->β->R γ}:Op2 c Ra Rb Rc g (r2D Ra Rb Rc g):=λj H1 F H a b d v u Q f e i h q=>⟨j,H1,F,a,b,d,f,e,i,h,q⟩
theorem sO{g:α->R β}:Op1 c Ra Rb g (r1D Ra Rb g):=λh F H a b v Q e d f q=>⟨h,F,a,b,e,d,f,q⟩
theorem qV{op:Operator}{g:Dz->Dz->R Dz}{d fb:Sg->R Dz}(f:OpR X (binaryOp op) (r2D (aU c) (aU c) (bC c) g))(e:b7 g)(i:PR X c E a d)(hb:PR X c E b fb):PD X c E (.BinOp a op b pos) (e2 g d fb):=
 PE.imp (aF0 f i hb) λZ H Q h=>tV2 wI e (qT c) (j2 c) h
theorem aWH{op:UnaryOp}{g:Dz->R Dz}{b:Sg->R Dz}(e:UnR X (unaryOp op) (r1D (aU c) (bC c) g))(d:lG g)(f:PR X c E a b):PD X c E (.UnaryOp op a pos) (e1 g b):=
 PE.imp (aV4 e f) λZ H Q h=>tV1 sO d (j2 c) h
theorem oI{op:CmpOp}{g:Dz->Dz->R Dz}{d fb:Sg->R Dz}(i:OpR X (compareOp op) (r2D (aU c) (aU c) (bC c) g))(e:b7 g)(j:PR X c E a d)(hb:PR X c E b fb)(f:behindInMarks op b=false):PD X c E (.Compare a [op] [b] pos) (e2 g d fb):=
 PE.imp (xQ i j hb f) λZ H Q h=>tV2 wI e (qT c) (j2 c) h
theorem aGL{g:Dz->Dz->R Dz}{d fb:Sg->R Dz}(i:IxR X (r2D (aU c) (aU c) (bC c) g))(e:b7 g)(j:PR X c E a d)(hb:PR X c E b fb)(f:aD8 b:=by exact λ_ _=>rfl):PD X c E (.Subscript a b pos) (e2 g d fb):=
 PE.imp (L2.aWB i j hb f) λZ H Q h=>tV2 wI e (qT c) (j2 c) h
theorem aPL(C:X.K=c.K):OpR X (binaryOp .Add) (r2D (aU c) (aU c) (bC c) bV):=by
 intro ap s Z H v u x y Q I m l h
 obtain⟨G,H1,F,a,b,d,f,k,o,e,q⟩:=h
 unfold bV at e
 split at e
 .rename_i i j
  cases e
  obtain rfl:=aM.int_of k
  obtain rfl:=aM.int_of o
  exact aSW ap s Z H _ _ x y Q I m l ⟨i,j,rfl,rfl,q _ F H (Ext.refl f) (.int _)⟩
 .rename_i i j
  split at e
  .rename_i n
   cases e
   obtain rfl:=aM.str_of k
   obtain rfl:=aM.str_of o
   exact aF2 ap s Z H _ _ x y Q I m l ⟨i,j,rfl,rfl,n,q _ F H (Ext.refl f) (.str _)⟩
  .cases e
 .rename_i xs ys
  split at e
  .rename_i n
   cases e
   obtain⟨D,vs,rfl,B,t,g⟩:=aM.tup_of f k
   obtain⟨E,us,rfl,fb,A,r⟩:=aM.tup_of f o
   rw[<-C]at t A
   refine aO1 ap s Z H _ _ x y Q I m l ⟨D,E,vs,us,rfl,rfl,t,A,?_,by rw[g.length,r.length];exact n.2,λz=>?_,λz p w=>?_⟩
   .intro z;subst z;obtain rfl:xs=[]:=by cases g;rfl
    simp_all
   .subst z
    obtain rfl:ys=[]:=by cases r;rfl
    exact q _ F H (Ext.refl f) (by rw[C8];exact .tup B g)
   .exact q _ _ _ (Ext.new f w) (.tup (SqT.of aL) ((g.append r).same (aC.upd (aP f w))))
  .cases e
 .cases e
theorem aIO:b7 bV:=by
 intro a b e h
 unfold bV at h
 ext
theorem lH{f:V9->V9->Sem V9}{g:Dz->Dz->R Dz}{k:Int->Int->Dz}{kv:Int->Int->V}(n:OpR X f (rI C kv))(m:∀ i j F,DatV c.K F (kv i j) (k i j))
  (r:∀ a b d,g a b=.ok d->∃ i j,a=.int i/\b=.int j/\C i j/\d=k i j):OpR X f (r2D (aU c) (aU c) (bC c) g):=by
 intro ap s Z H v u x y Q I o l h
 obtain⟨A,H1,F,a,b,d,p,e,z,w,q⟩:=h
 obtain⟨i,j,rfl,rfl,t,rfl⟩:=r a b d w
 obtain rfl:=aM.int_of e
 obtain rfl:=aM.int_of z
 exact n ap s Z H _ _ x y Q I o l ⟨i,j,rfl,rfl,t,q _ F H (Ext.refl p) (m i j F)⟩
theorem wJ{f:V9->V9->Sem V9}{kv:Int->Int->V}(c:OpR X f (rI0 kv)):OpR X f (rI (λ_ _=>True) kv):=λap s Z H x y v u Q I a b ⟨i,j,h1,h2,_,q⟩=>c ap s Z H x y v u Q I a b ⟨i,j,h1,h2,q⟩
theorem aPM:OpR X (binaryOp .Sub) (r2D (aU c) (aU c) (bC c) dSub):=lH (wJ aSX) (λ_ _ _=>.int _) λa b d h=>by
 unfold dSub at h;split at h
 · simp_all
 · cases h
theorem aPN:OpR X (binaryOp .Mult) (r2D (aU c) (aU c) (bC c) dMul):=lH aSY (λ_ _ _=>.int _) λa b d h=>by
 unfold dMul at h;split at h
 .split at h
  · rename_i e; cases h; exact⟨_, _, rfl, rfl, e, rfl⟩
  · cases h
 .cases h
theorem aPO:OpR X (binaryOp .FloorDiv) (r2D (aU c) (aU c) (bC c) dDiv):=lH aLI (λ_ _ _=>.int _) λa b d h=>by
 unfold dDiv at h;split at h
 .split at h
  · rename_i e; cases h; exact⟨_, _, rfl, rfl, e, rfl⟩
  · cases h
 .cases h
theorem aPP:OpR X (binaryOp .Mod) (r2D (aU c) (aU c) (bC c) dMod):=lH aSZ (λ_ _ _=>.int _) λa b d h=>by
 unfold dMod at h;split at h
 · ext
 · cases h
theorem wK:OpR X (compareOp .Lt) (r2D (aU c) (aU c) (bC c) dLt):=lH (wJ aV5) (λ_ _ _=>.bl _) λa b d h=>by
 unfold dLt at h;split at h
 · cases h; exact⟨_, _, rfl, rfl, trivial, rfl⟩
 · cases h
theorem aBR:OpR X (compareOp .LtE) (r2D (aU c) (aU c) (bC c) dLe):=lH (wJ aV6) (λ_ _ _=>.bl _) λa b d h=>by
 unfold dLe at h;split at h
 · cases h; exact⟨_, _, rfl, rfl, trivial, rfl⟩
 · cases h
theorem aIP:OpR X (compareOp .Gt) (r2D (aU c) (aU c) (bC c) dGt):=lH (wJ aV7) (λ_ _ _=>.bl _) λa b d h=>by
 unfold dGt at h;split at h
 · cases h; exact⟨_, _, rfl, rfl, trivial, rfl⟩
 · cases h
theorem aTO:OpR X (compareOp .GtE) (r2D (aU c) (aU c) (bC c) dGe):=lH (wJ aV8) (λ_ _ _=>.bl _) λa b d h=>by
 unfold dGe at h;split at h
 · cases h; exact⟨_, _, rfl, rfl, trivial, rfl⟩
 · cases h
theorem aIQ:b7 dSub:=by intro a b e h;unfold dSub at h;split at h<;>cases h
theorem aIR:b7 dMul:=by intro a b e h;unfold dMul at h;split at h<;>(try split at h)<;>cases h
theorem aIS:b7 dDiv:=by intro a b e h;unfold dDiv at h;split at h<;>(try split at h)<;>cases h
theorem aIT:b7 dMod:=by intro a b e h;unfold dMod at h;split at h<;>(try split at h)<;>cases h
theorem pC:b7 dLt:=by intro a b e h;unfold dLt at h;split at h<;>cases h
theorem uX:b7 dLe:=by intro a b e h;unfold dLe at h;split at h<;>cases h
theorem aBS:b7 dGt:=by intro a b e h;unfold dGt at h;split at h<;>cases h
theorem aLT:b7 dGe:=by intro a b e h;unfold dGe at h;split at h<;>cases h
theorem aBT:b7 dEq:=by intro a b e h;unfold dEq at h;split at h<;>cases h
theorem aBU:b7 dNe:=by intro a b e h;unfold dNe at h;split at h<;>cases h
theorem aLU:b7 dIs:=by intro a b e h;unfold dIs at h;split at h<;>cases h
theorem aGM:b7 dIsnt:=by intro a b e h;unfold dIsnt at h;split at h<;>cases h
theorem zT:b7 dNin:=by intro a b e h;unfold dNin at h;split at h<;>cases h
theorem aIU:lG dNeg:=by intro a e h;unfold dNeg at h;split at h<;>cases h
theorem uY:b7 dIx:=by
 intro a b e h
 unfold dIx at h
 ext
theorem aPQ:UnR X (unaryOp .USub) (r1D (aU c) (bC c) dNeg):=by
 intro ap s Z H v x Q I e h
 obtain⟨j,F,a,d,g,f,b,q⟩:=h
 unfold dNeg at b
 split at b
 .rename_i i
  cases b
  obtain rfl:=aM.int_of f
  exact aS0 ap s Z H _ x Q I e ⟨i,rfl,q _ F H (Ext.refl g) (.int _)⟩
 .cases b
theorem aIV(g:X.K=c.K)(k:X.A.units+64 < cLine):OpR X (compareOp .Eq) (r2D (aU c) (aU c) (bC c) dEq):=by
 intro ap s Z H v u x y Q I j m h
 obtain⟨o,H1,F,a,b,d,f,l,n,e,q⟩:=h
 unfold dEq at e
 split at e
 .rename_i i
  cases e
  exact aTB k ap s Z H _ _ x y Q I j m ⟨a,b,by rw[g];exact aM.heap f l,by rw[g];exact aM.heap f n,i.1,i.2,q _ F H (Ext.refl f) (.bl _)⟩
 .cases e
theorem aIW(g:X.K=c.K)(k:X.A.units+64 < cLine):OpR X (compareOp .NotEq) (r2D (aU c) (aU c) (bC c) dNe):=by
 intro ap s Z H v u x y Q I j m h
 obtain⟨o,H1,F,a,b,d,f,l,n,e,q⟩:=h
 unfold dNe at e
 split at e
 .rename_i i
  cases e
  exact aTC k ap s Z H _ _ x y Q I j m ⟨a,b,by rw[g];exact aM.heap f l,by rw[g];exact aM.heap f n,i.1,i.2,q _ F H (Ext.refl f) (.bl _)⟩
 .cases e
theorem nK{F H:Hp}{v:V}{d:Dz}(h:aM K F H v d):decide (v=.non)=iA d:=by
 rcases h with h|⟨p,vs,xs,h1,h2,_⟩
 · cases h <;> rfl
 · subst h1 h2; rfl
theorem aTP:OpR X (compareOp .Is) (r2D (aU c) (aU c) (bC c) dIs):=by
 intro ap s Z H v u x y Q I f j h
 obtain⟨m,H1,F,a,b,d,i,g,l,e,q⟩:=h
 unfold dIs at e
 split at e
 .rename_i k
  cases e
  have e2:=nK l
  rw[k]at e2
  refine aS1 ap s Z H _ _ x y Q I f j ⟨A5 e2,q _ F H (Ext.refl i) ?_⟩
  rw[nK g];exact .bl _
 .cases e
theorem aLV:OpR X (compareOp .IsNot) (r2D (aU c) (aU c) (bC c) dIsnt):=by
 intro ap s Z H v u x y Q I f j h
 obtain⟨m,H1,F,a,b,d,i,g,l,e,q⟩:=h
 unfold dIsnt at e
 split at e
 .rename_i k
  cases e
  have e2:=nK l
  rw[k]at e2
  refine aOV ap s Z H _ _ x y Q I f j ⟨A5 e2,q _ F H (Ext.refl i) ?_⟩
  rw[nK g];exact .bl _
 .cases e
theorem wL(h:shaped (.list xs)=true):PyData.canLayAll0 xs=true/\PyData.depthAll xs<=63:=by
 have h':(PyData.canLay0 (.list xs) && decide ((PyData.list xs).depth<=64))=true:=h
 rw[A4]at h'
 have a:PyData.depthAll xs+1<=64:=A5 h'.2
 exact⟨h'.1,by ext⟩
theorem aD0(h:shaped (.tuple xs)=true):PyData.canLayAll0 xs=true/\PyData.depthAll xs<=63:=by
 have h':(PyData.canLay0 (.tuple xs) && decide ((PyData.tuple xs).depth<=64))=true:=h
 rw[A4]at h'
 have a:PyData.depthAll xs+1<=64:=A5 h'.2
 exact⟨h'.1,by ext⟩
theorem gK{d:Dz}(h:shaped d=true):d.canLay0=true:=by
 have h':(PyData.canLay0 d && decide (d.depth<=64))=true:=h
 ext
theorem inD_cases{x y:Dz}{b:Bool}(h:inD x y=some b):(∃ i j,x=.str i/\y=.str j/\b = !(Builtin.Str.occurrences j i 0 j.length 1).isEmpty) \/
  (∃ xs,y=.list xs/\shaped x=true/\shaped (.list xs)=true/\b=xs.any λz=>PyData.eqv z x)\/(∃ xs,y=.tuple xs/\shaped x=true/\shaped (.tuple xs)=true/\b=xs.any λz=>PyData.eqv z x):=by
 unfold inD at h
 ext
theorem uZ{a b:Nat}(h:a<=63):min a b<=63:=A2 (EU _ _) h
theorem aEJ(l:X.K=c.K)(B:X.A.units+64 < cLine):OpR X (compareOp .NotIn) (r2D (aU c) (aU c) (bC c) dNin):=by
 intro ap s Z H v u x y Q I o n h
 obtain⟨z,H1,F,a,b,d,e,m,p,k,q⟩:=h
 unfold dNin at k
 split at k
 .rename_i bb w
  cases k
  have f:EP X ap Z Q (.bool (!bb)) s:=⟨.bl (!bb),H,I,rfl,q _ F H (Ext.refl e) (.bl _)⟩
  rcases inD_cases w with ⟨i,j,rfl,rfl,rfl⟩|⟨xs,rfl,h1,h2,rfl⟩|⟨xs,rfl,h1,h2,rfl⟩
  .obtain rfl:=aM.str_of m
   obtain rfl:=aM.str_of p
   exact aA3 ap s Z H _ _ x y Q I o n ⟨i,j,rfl,rfl,q _ F H (Ext.refl e) (.bl _)⟩
  .obtain ⟨r,r1⟩:=DatV.reads I (by rw[l];exact aM.heap e m) (gK h1) o
   obtain⟨bs,r2⟩:=DatV.reads I (by rw[l];exact aM.heap e p) (gK h2) n
   have g:=wL h2
   have t:=uZ (b:=a.depth) g.2
   exact SeqAt.notIn_list_reads r2 r1 g.1 (gK h1) (by ext) f
  .obtain ⟨r,r1⟩:=DatV.reads I (by rw[l];exact aM.heap e m) (gK h1) o
   obtain⟨bs,r2⟩:=DatV.reads I (by rw[l];exact aM.heap e p) (gK h2) n
   have g:=aD0 h2
   have t:=uZ (b:=a.depth) g.2
   exact SeqAt.notIn_tuple_reads r2 r1 g.1 (gK h1) (by ext) f
 .cases k
theorem aGN(B:X.K=c.K):IxR X (r2D (aU c) (aU c) (bC c) dIx):=by
 intro f e ap s Z H v u x y Q I r m h o
 obtain⟨D,H1,F,a,b,d,j,l,A,g,q⟩:=h
 unfold dIx at g
 split at g
 .rename_i xs i
  split at g
  .rename_i w k
   cases g
   obtain⟨p,vs,rfl,h1,h2⟩:=aM.lst_of j l
   obtain rfl:=aM.int_of A
   obtain⟨z,n,t⟩:=aBQ h2 k
   rw[<-B]at h1
   exact aO3 f e ap s Z H _ _ x y Q I r m ⟨p,vs,i,z,rfl,rfl,h1,n,q _ F H (Ext.refl j) t⟩ o
  .cases g
 .rename_i xs i
  split at g
  .rename_i w k
   cases g
   obtain⟨p,vs,rfl,_,h1,h2⟩:=aM.tup_of j l
   obtain rfl:=aM.int_of A
   obtain⟨z,n,t⟩:=aBQ h2 k
   rw[<-B]at h1
   exact aS7 f e ap s Z H _ _ x y Q I r m ⟨p,vs,i,z,rfl,rfl,h1,n,q _ F H (Ext.refl j) t⟩ o
  .cases g
 .rename_i z i
  split at g
  .rename_i C
   split at g
   .rename_i w k
    cases g
    obtain rfl:=aM.str_of l
    obtain rfl:=aM.int_of A
    exact aS8 f e ap s Z H _ _ x y Q I r m ⟨z,i,w,rfl,rfl,C,k,q _ F H (Ext.refl j) (.str _)⟩ o
   .cases g
  .cases g
 .cases g
def tTf(c:Ct)(E:XK)(f:Sg->R Bool):TT:=λZ H Q=>∃ Y F,Ab c Y Z F H/\Rk c E F H (f Y) λb=>∀ F' H',Ext F H F' H'->Q b H'
abbrev PTf(X:Cx)(c:Ct)(E:XK)(e:E2)(f:Sg->R Bool):Prop:=PT X e (tTf c E f)
def asB:Dz->R Bool
 | .bool b=>.ok b
 | _=>.bad
theorem yA{f:Sg->R Dz}{Z:L2.St}{H:Hp}{Q:Bool->Hp->Prop}(h:tTf c E (e1 asB f) Z H Q):tV (bC c) c E f Z H λx H'=>∃ k,x=.bl k/\Q k H':=by
 obtain⟨Y,F,ab,h⟩:=h
 refine⟨Y,F,ab,(Rk.bind h).imp λd _ q v a H' s r=>?_⟩
 cases d with
 | bool b=>exact⟨b,DatV.bl_of r,Rk.ok q a H' s⟩
 | _=>exact False.elim q
theorem iZ{op:CmpOp}{g:Dz->Dz->R Dz}{d fb:Sg->R Dz}(i:OpR X (compareOp op) (r2D (aU c) (aU c) (bC c) g))(e:b7 g)(j:PR X c E a d)(hb:PR X c E b fb)(f:behindInMarks op b=false):PTf X c E (.Compare a [op] [b] pos) (e1 asB (e2 g d fb)):=
 PT.imp (xR i j hb f) λZ H Q h=>tV2 wI e (qT c) (j2 c) (yA h)
theorem qH{f:Sg->R Dz}(h:PD X c E e f)(a:∀ whole,isTrue e X.env whole=(do let v <-whole;standAt e.pos;holding [v] (truthy v)):=by intro _;rfl):PTf X c E e (e1 asB f):=
 PT.imp (L2.qH h a) λZ H Q h=>yA h
def pD(f g:Sg->R Bool):Sg->R Bool:=λY=>(f Y).bind λb=>if b=true then g Y else .ok false
def bOr(f g:Sg->R Bool):Sg->R Bool:=λY=>(f Y).bind λb=>if b=true then .ok true else g Y
def lK(f:Sg->R Bool):Sg->R Bool:=λY=>(f Y).bind λb=>.ok (!b)
abbrev PWf(X:Cx)(c:Ct)(E:XK)(e:E2)(f:Sg->R Bool):Prop:=PW X e (tTf c E f)
theorem PW.imp{X:Cx}{e:E2}{t t':TT}(h:PW X e t)(i:∀ Z H Q,t' Z H Q->t Z H Q):PW X e t':=λa ap s Z H Q I q=>h a ap s Z H Q I (i Z H Q q)
theorem aYB{f g:Sg->R Bool}{Z:L2.St}{H:Hp}{Q:Bool->Hp->Prop}(h:tTf c E (pD f g) Z H Q):aSL (tTf c E f) (tTf c E g) Z H Q:=by
 obtain⟨Y,F,ab,h⟩:=h
 refine⟨Y,F,ab,(Rk.bind h).imp λb _ q a H' s=>?_⟩
 cases b with
 | true=>exact⟨Y,a,ab.ext s,(Rk.ext s q).imp λd _ z e H2 i=>z e H2 (s.trans i)⟩
 | false=>exact Rk.ok q a H' s
theorem tor{f g:Sg->R Bool}{Z:L2.St}{H:Hp}{Q:Bool->Hp->Prop}(h:tTf c E (bOr f g) Z H Q):tOr (tTf c E f) (tTf c E g) Z H Q:=by
 obtain⟨Y,F,ab,h⟩:=h
 refine⟨Y,F,ab,(Rk.bind h).imp λb _ q a H' s=>?_⟩
 cases b with
 | false=>exact⟨Y,a,ab.ext s,(Rk.ext s q).imp λd _ z e H2 i=>z e H2 (s.trans i)⟩
 | true=>exact Rk.ok q a H' s
theorem sK{f:Sg->R Bool}(h:PTf X c E a f):PWf X c E (.BoolOp .And [a] pos) f:=L2.sK h
theorem aA0{f:Sg->R Bool}(h:PTf X c E a f):PWf X c E (.BoolOp .Or [a] pos) f:=L2.aA0 h
theorem v3{f g:Sg->R Bool}(h:PTf X c E a f)(h2:PWf X c E (.BoolOp .And (b::rest) pos) g):PWf X c E (.BoolOp .And (a::b::rest) pos) (pD f g):=PW.imp (L2.v3 h h2) λ_ _ _ q=>aYB q
theorem aFW{f g:Sg->R Bool}(h:PTf X c E a f)(h2:PWf X c E (.BoolOp .Or (b::rest) pos) g):PWf X c E (.BoolOp .Or (a::b::rest) pos) (bOr f g):=PW.imp (L2.aFW h h2) λ_ _ _ q=>tor q
theorem qI{f:Sg->R Bool}(h:PTf X c E a f):PTf X c E (.UnaryOp .Not a pos) (lK f):=PT.imp (L2.qI h) λZ H Q ⟨Y,F,ab,k⟩=>⟨Y,F,ab,(Rk.bind k).imp λb _ q d H' s=>Rk.ok q d H' s⟩
noncomputable def aGO(f g:Sg->R Dz):Sg->R Dz:=λY=>(f Y).bind λx=>(asB x).bind λb=>if b=true then g Y else .ok (.bool false)
def aGP(f:Sg->R Dz):Sg->R Dz:=λY=>(f Y).bind λx=>(asB x).bind λb=>.ok (.bool (!b))
def eIf{α:Type}(t:Sg->R Bool)(f g:Sg->R α):Sg->R α:=λY=>(t Y).bind λb=>if b=true then f Y else g Y
theorem aIX{op}{f:Sg->R Dz}(h:PD X c E a f):PD X c E (.BoolOp op [a] pos) f:=aSM h
theorem aIY{f g:Sg->R Dz}(h:PD X c E a f)(h2:PD X c E (.BoolOp .And (b::rest) pos) g):PD X c E (.BoolOp .And (a::b::rest) pos) (aGO f g):=PE.imp (aSN h h2) λZ H Q e=>by
 obtain⟨Y,F,ab,k⟩:=e
 refine⟨Y,F,ab,(Rk.bind k).imp λd _ q v i H' s r=>?_⟩
 cases d with
 | bool b=>
  refine⟨b,DatV.bl_of r,?_⟩
  cases b with
  | true=>exact xU ⟨Y,i,ab.ext s,(Rk.ext s q).imp λd _ z v j H2 l=>z v j H2 (s.trans l)⟩
  | false=>exact xT (Rk.ok q (.bl false) i H' s (.bl false))
 | _=>exact False.elim q
theorem aTQ{f:Sg->R Dz}(h:PD X c E a f):PD X c E (.UnaryOp .Not a pos) (aGP f):=PE.imp (aSO h) λZ H Q e=>by
 obtain⟨Y,F,ab,k⟩:=e
 refine⟨Y,F,ab,(Rk.bind k).imp λd _ q v g H' s r=>?_⟩
 cases d with
 | bool b=>exact⟨b,DatV.bl_of r,Rk.ok q _ g H' s (.bl _)⟩
 | _=>exact False.elim q
theorem aWI{t:Sg->R Bool}{f g:Sg->R Dz}(m:PTf X c E q t)(h:PD X c E a f)(h2:PD X c E b g):PD X c E (.IfExp q a b pos) (eIf t f g):=PE.imp (aK7 m h h2) λZ H Q i=>by
 obtain⟨Y,F,ab,k⟩:=i
 refine⟨Y,F,ab,(Rk.bind k).imp λb _ q l H' s=>?_⟩
 cases b with
 | true=>exact xU ⟨Y,l,ab.ext s,(Rk.ext s q).imp λd _ z v e H2 j=>z v e H2 (s.trans j)⟩
 | false=>exact xT ⟨Y,l,ab.ext s,(Rk.ext s q).imp λd _ z v e H2 j=>z v e H2 (s.trans j)⟩
noncomputable def eCh(g g':Dz->Dz->R Dz)(fa fb fc:Sg->R Dz):Sg->R Dz:=λY=>(fa Y).bind λx=>(fb Y).bind λy=>(g x y).bind λz=>(asB z).bind λk=>if k=true then(fc Y).bind λw=>g' y w else .ok (.bool false)
theorem aTR{g g':Dz->Dz->R Dz}(G:b7 g)(i:b7 g'){t fb m:Sg->R Dz}{Z:L2.St}{H:Hp}{Q:VK}(h:tV (bC c) c E (eCh g g' t fb m) Z H Q) :
  tChain (r2D (aU c) (aU c) (bC c) g) (r2D (aU c) (aU c) (bC c) g') (tV (aU c) c E t) (tV (aU c) c E fb) (tV (aU c) c E m) Z H Q:=by
 obtain⟨Y,F,ab,h⟩:=h
 refine⟨Y,F,ab,(Rk.bind h).imp λx _ q v L H1 s1 M=>?_⟩
 refine⟨Y,L,ab.ext s1,((Rk.bind q).ext s1).imp λy _ q u A H2 o s=>?_⟩
 cases f:g x y with
 | bad=>rw[f]at q;exact q.elim
 | ex e=>exact absurd f (G x y e)
 | ok z=>
  rw[f]at q
  refine⟨H,H1,A,x,y,z,o.fh,aM.ext o M,s,f,λw r H3 p l=>?_⟩
  have a:=(s1.trans o).trans p
  cases z with
  | bool k=>
   refine⟨k,DatV.bl_of l,?_⟩
   cases k with
   | false=>exact xT (Rk.ok q (.bl false) r H3 a (.bl false))
   | true=>
    have K:Rk c E F H ((m Y).bind λw=>g' y w) (λd=>∀ v F' H',Ext F H F' H'->bC c d v H F' H'->Q v H'):=q
    refine xU ⟨Y,r,ab.ext a,((Rk.bind K).ext a).imp λw _ q N I H4 n j=>?_⟩
    cases b:g' y w with
    | bad=>rw[b]at q;exact q.elim
    | ex e=>exact absurd b (i y w e)
    | ok z2=>
     rw[b]at q
     exact⟨H1,H3,I,y,w,z2,n.fh,aM.ext (p.trans n) s,j,b,λB J H5 C D=>Rk.ok q B J H5 ((a.trans n).trans C) D⟩
  | _=>exact False.elim q
theorem aBV{op d:CmpOp}{g g':Dz->Dz->R Dz}{e:E2}{j fb k:Sg->R Dz}(p:OpR X (compareOp op) (r2D (aU c) (aU c) (bC c) g))(o:b7 g)(i:OpR X (compareOp d) (r2D (aU c) (aU c) (bC c) g'))(f:b7 g')
  (n:PR X c E a j) (hb:PR X c E b fb) (m:PR X c E e k) (l:lastMarks [op,d] [b,e]=false:=by with_unfolding_all rfl):PD X c E (.Compare a [op,d] [b,e] pos) (eCh g g' j fb k):=
 PE.imp (aLD p i n hb m l) λZ H Q h=>aTR o f h
end
def AFs(g:Gb)(K:Frag)(mg:Str->O9 V9)(F:Hp):L9 A->L9 V->Prop
 | [],[]=>True
 | a::as,v::vs=>AF g K mg F a v/\AFs g K mg F as vs
 | _,_=>False
theorem AFs.same{g:Gb}{K:Frag}{mg:Str->O9 V9}{F F':Hp}(s:aC F F'):∀ {as:L9 A} {vs:L9 V},AFs g K mg F as vs->AFs g K mg F' as vs
 | [],[],_=>trivial
 | a::as,v::vs,h=>⟨AF.same s h.1,AFs.same s h.2⟩
theorem AFs.len{g:Gb}{K:Frag}{mg:Str->O9 V9}{F:Hp}:∀ {as:L9 A} {vs:L9 V},AFs g K mg F as vs->vs.length=as.length
 | [],[],_=>rfl
 | a::as,v::vs,h=>by rw[A7,A7,AFs.len h.2]
theorem PA.imp{X:Cx}{es:L9 E2}{t t':TA}(h:PA X es t)(i:∀ Z H Q,t' Z H Q->t Z H Q):PA X es t':=λpos ap s Z H Q I q=>h pos ap s Z H Q I (i Z H Q q)
def tAd(c:Ct)(E:XK)(f:Sg->R (L9 Dz)):TA:=λZ H Q=>∃ Y F,Ab c Y Z F H/\Rk c E F H (f Y) λds=>∀ vs F' H',Ext F H F' H'->DatVs c.K F' vs ds->Q vs H'
def tAv(c:Ct)(E:XK)(f:Sg->R (L9 A)):TA:=λZ H Q=>∃ Y F,Ab c Y Z F H/\Rk c E F H (f Y) λds=>∀ vs F' H',Ext F H F' H'->AFs c.g c.K c.mg F' ds vs->Q vs H'
abbrev PAd(X:Cx)(c:Ct)(E:XK)(es:L9 E2)(f:Sg->R (L9 Dz)):Prop:=PA X es (tAd c E f)
abbrev PAv(X:Cx)(c:Ct)(E:XK)(es:L9 E2)(f:Sg->R (L9 A)):Prop:=PA X es (tAv c E f)
noncomputable def aB{α:Type}:Sg->R (L9 α):=λ_=>.ok []
def aA{α:Type}(f:Sg->R α)(g:Sg->R (L9 α)):Sg->R (L9 α):=λY=>(f Y).bind λx=>(g Y).bind λxs=>.ok (x::xs)
section
variable{X:Cx}{c:Ct}{E:XK}{e a b:E2}{es:L9 E2}{pos:Pos}
theorem yB:PAd X c E [] aB:=PA.imp bE λZ H Q ⟨Y,F,ab,k⟩=>Rk.ok k [] F H (Ext.refl ab.fh) .nil
theorem aPR:PAv X c E [] aB:=PA.imp bE λZ H Q ⟨Y,F,ab,k⟩=>Rk.ok k [] F H (Ext.refl ab.fh) trivial
theorem gL{f:Sg->R Dz}{g:Sg->R (L9 Dz)}(h:PD X c E e f)(h2:PAd X c E es g)(j:starEach (e::es) X.env=(false,eval e X.env)::starEach es X.env:=by rfl):PAd X c E (e::es) (aA f g):=PA.imp (aX h h2 j) λZ H Q a=>by
 obtain⟨Y,F,ab,k⟩:=a
 refine⟨Y,F,ab,(Rk.bind k).imp λx _ q v i H1 s1 r1=>⟨Y,i,ab.ext s1,((Rk.bind q).ext s1).imp λxs _ q vs d H2 b r2=>?_⟩⟩
 exact Rk.ok q (v::vs) d H2 (s1.trans b) (.cons (DatV.same b.ff r1) r2)
theorem aLW{f:Sg->R A}{g:Sg->R (L9 A)}(h:PV X c E e f)(h2:PAv X c E es g)(j:starEach (e::es) X.env=(false,eval e X.env)::starEach es X.env:=by rfl):PAv X c E (e::es) (aA f g):=PA.imp (aX h h2 j) λZ H Q a=>by
 obtain⟨Y,F,ab,k⟩:=a
 refine⟨Y,F,ab,(Rk.bind k).imp λx _ q v i H1 s1 r1=>⟨Y,i,ab.ext s1,((Rk.bind q).ext s1).imp λxs _ q vs d H2 b r2=>?_⟩⟩
 exact Rk.ok q (v::vs) d H2 (s1.trans b) ⟨AF.same b.ff r1,r2⟩
def bM(f:Sg->R (L9 Dz)):Sg->R Dz:=λY=>(f Y).bind λxs=>if xs.length<=16777216 then .ok (.tuple xs)else .bad
def cQ(f:Sg->R (L9 Dz)):Sg->R (L9 Dz):=λY=>(f Y).bind λxs=>if xs.length<=16777216 then .ok xs else .bad
theorem bX:sizeLine=16777216:=sizeLine_eq
theorem wM{x1}{f:Sg->R (L9 Dz)}(h:PAd X c E es f):PD X c E (.Tuple es x1 pos) (bM f):=PE.imp (aS3 h) λZ H Q b=>by
 obtain⟨Y,F,ab,k⟩:=b
 refine⟨Y,F,ab,(Rk.bind k).imp λxs _ q vs e H1 s1 r1=>?_⟩
 by_cases a:xs.length<=16777216
 .rw[AN a]at q
  refine⟨by rw[r1.length,bX];exact a,λp d=>?_⟩
  exact Rk.ok q (.ref p) _ _ (s1.trans (Ext.new s1.fh d)) (.tup (SqT.of aL) (r1.same (aC.upd (aP s1.fh d))))
 .rw[AL a]at q;exact q.elim
theorem aIZ{f:Sg->R (L9 Dz)}(h:PAd X c E es f):PN X c E (.List es pos) (cQ f):=PE.imp (aS4 h) λZ H Q d=>by
 obtain⟨Y,F,ab,k⟩:=d
 refine⟨Y,F,ab,(Rk.bind k).imp λxs _ q vs e H1 s1 r1=>?_⟩
 by_cases b:xs.length<=16777216
 .rw[AN b]at q
  refine⟨by rw[r1.length,bX];exact b,λp a=>?_⟩
  exact Rk.ok q (.ref p) _ _ (s1.trans (Ext.own s1.fh a)) ⟨p,vs,rfl,aP s1.hh a,aL,aP s1.fh a,r1⟩
 .rw[AL b]at q;exact q.elim
noncomputable def dLen:Dz->R Dz
 | .str z=>if z.length<=16777216 then .ok (.int z.length)else .bad
 | .list xs=>.ok (.int xs.length)
 | .tuple xs=>.ok (.int xs.length)
 | _=>.bad
theorem plain_len:lG dLen:=by intro a e h;unfold dLen at h;split at h<;>(try split at h)<;>cases h
theorem aTS{j:Sg->R Dz}(l:X.K=c.K)(h0:PE X e (tCB (λxs H Q=>∃ x n,xs=[x]/\aS2 X.K x H n/\Q (.int n) H) (b9 (tV (aU c) c E j) eJ))):PD X c E e (e1 dLen j):=
 PE.imp h0 λZ H Q h=>by
  obtain⟨Y,F,ab,k⟩:=tV1 (Ra:=aU c) sO plain_len (j2 c) h
  refine⟨Y,F,ab,k.imp λd _ q v o H' s r=>?_⟩
  obtain⟨u,i,a,t,f,g,b,q⟩:=q v o H' s r
  unfold dLen at b
  split at b
  .rename_i z
   split at b
   .rename_i m
    cases b
    obtain rfl:=aM.str_of g
    exact⟨_,_,rfl,⟨by rw[bX];exact m,rfl⟩,q _ i H' (Ext.refl f) (.int _)⟩
   .cases b
  .cases b
   obtain⟨p,vs,rfl,h1,h2⟩:=aM.lst_of f g
   rw[<-l]at h1
   exact⟨_,vs.length,rfl,.inl ⟨vs,h1,rfl⟩,q _ i H' (Ext.refl f) (by rw[h2.length];exact .int _)⟩
  .cases b
   obtain⟨p,vs,rfl,_,h1,h2⟩:=aM.tup_of f g
   rw[<-l]at h1
   exact⟨_,vs.length,rfl,.inr ⟨vs,h1,rfl⟩,q _ i H' (Ext.refl f) (by rw[h2.length];exact .int _)⟩
  .cases b
noncomputable def dTup:Dz->R Dz
 | .list xs=>.ok (.tuple xs)
 | .tuple xs=>.ok (.tuple xs)
 | _=>.bad
theorem aI0:lG dTup:=by intro a e h;unfold dTup at h;split at h<;>cases h
theorem pE{j:Sg->R Dz}(m:X.K=c.K)(h0:PE X e (tCB (λxs H Q=>∃ p ys,xs=[.ref p]/\((SqL X.K H p ys/\∀ l,H l=none->Q (.ref l) (upd H l (.tup ys)))\/(SqT X.K H p ys/\Q (.ref p) H))) (b9 (tV (aU c) c E j) eJ))):PD X c E e (e1 dTup j):=
 PE.imp h0 λZ H Q h=>by
  obtain⟨Y,F,ab,k⟩:=tV1 (Ra:=aU c) sO aI0 (j2 c) h
  refine⟨Y,F,ab,k.imp λd _ q v n H' s r=>?_⟩
  obtain⟨u,o,a,t,b,i,f,q⟩:=q v n H' s r
  unfold dTup at f
  split at f
  .cases f
   obtain⟨p,vs,rfl,h1,h2⟩:=aM.lst_of b i
   rw[<-m]at h1
   exact⟨p,vs,rfl,.inl ⟨h1,λl g=>q _ _ _ (Ext.new b g) (.tup (SqT.of aL) (h2.same (aC.upd (aP b g))))⟩⟩
  .cases f
   obtain⟨p,vs,rfl,f1,h1,h2⟩:=aM.tup_of b i
   rw[<-m]at h1
   exact⟨p,vs,rfl,.inr ⟨h1,q _ o H' (Ext.refl b) (.tup f1 h2)⟩⟩
  .cases f
noncomputable def dLst:Dz->R (L9 Dz)
 | .list xs=>.ok xs
 | .tuple xs=>.ok xs
 | _=>.bad
theorem aI1:lG dLst:=by intro a e h;unfold dLst at h;split at h<;>cases h
theorem aPS{j:Sg->R Dz}(m:X.K=c.K)(h0:PE X e (tCB (λxs H Q=>∃ p ys,xs=[.ref p]/\(SqL X.K H p ys\/SqT X.K H p ys)/\∀ l,H l=none->Q (.ref l) (upd H l (.lst ys))) (b9 (tV (aU c) c E j) eJ))):PN X c E e (e1 dLst j):=
 PE.imp h0 λZ H Q h=>by
  obtain⟨Y,F,ab,k⟩:=tV1 (Ra:=aU c) sO aI1 (aN6 c) h
  refine⟨Y,F,ab,k.imp λd _ q v n H' s r=>?_⟩
  obtain⟨u,t,a,o,f,i,g,q⟩:=q v n H' s r
  unfold dLst at g
  split at g
  .cases g
   obtain⟨p,vs,rfl,h1,h2⟩:=aM.lst_of f i
   rw[<-m]at h1
   exact⟨p,vs,rfl,.inl h1,λl b=>q _ _ _ (Ext.own f b) ⟨l,vs,rfl,b,aL,aP f b,h2⟩⟩
  .cases g
   obtain⟨p,vs,rfl,f1,h1,h2⟩:=aM.tup_of f i
   rw[<-m]at h1
   exact⟨p,vs,rfl,.inr h1,λl b=>q _ _ _ (Ext.own f b) ⟨l,vs,rfl,b,aL,aP f b,h2⟩⟩
  .cases g
noncomputable def dInt:Dz->R Dz
 | .int i=>.ok (.int i)
 | .bool b=>.ok (.int (if b=true then 1 else 0))
 | _=>.bad
theorem aI2:lG dInt:=by intro a e h;unfold dInt at h;split at h<;>cases h
theorem aPT{j:Sg->R Dz}(h0:PE X e (tCB (λxs H Q=>(∃ i,xs=[.int i]/\Q (.int i) H)\/∃ k,xs=[.bl k]/\Q (.int (if k then 1 else 0)) H) (b9 (tV (aU c) c E j) eJ))):PD X c E e (e1 dInt j):=
 PE.imp h0 λZ H Q h=>by
  obtain⟨Y,F,ab,k⟩:=tV1 (Ra:=aU c) sO aI2 (j2 c) h
  refine⟨Y,F,ab,k.imp λd _ q v n H' s r=>?_⟩
  obtain⟨p,m,a,o,l,g,f,q⟩:=q v n H' s r
  unfold dInt at f
  split at f
  .cases f
   obtain rfl:=aM.int_of g
   exact .inl ⟨_,rfl,q _ m H' (Ext.refl l) (.int _)⟩
  .rename_i b
   cases f
   obtain rfl:=aM.bl_of g
   exact .inr ⟨b,rfl,q _ m H' (Ext.refl l) (by cases b<;>exact .int _)⟩
  .cases f
noncomputable def pF:L9 Dz->O9 (L9 Bool)
 | []=>some []
 | .bool b::t=>(pF t).map (b :: ·)
 | _=>none
def dAll:Dz->R Dz
 | .list xs=>match pF xs with
  | some bs=>.ok (.bool (bs.all id))
  | none=>.bad
 | _=>.bad
theorem aI3:lG dAll:=by intro a e h;unfold dAll at h;split at h<;>(try split at h)<;>cases h
theorem aBW{F:Hp}:∀ {vs:L9 V} {xs:L9 Dz} {bs:L9 Bool},DatVs K F vs xs->pF xs=some bs->vs=bs.map V.bl
 | _,_,bs,.nil,e=>by cases e;rfl
 | _,_,bs,.cons (d:=d) (ds:=t) h h2,e=>by
  cases d with
  | bool b=>
   unfold pF at e
   cases q:pF t with
   | none=>rw[q]at e;cases e
   | some cs=>
    rw[q]at e
    cases e
    rw[aBW h2 q,DatV.bl_of h];rfl
  | _=>cases e
theorem aTT{g:Sg->R Dz}(m:X.K=c.K)(h0:PE X e (tCB (λxs H Q=>∃ (a:Az) (bs:L9 Bool),xs=[.ref a]/\SqL X.K H a (bs.map V.bl)/\Q (.bl (bs.all id)) H) (b9 (tV (aU c) c E g) eJ))):PD X c E e (e1 dAll g):=
 PE.imp h0 λZ H Q h=>by
  obtain⟨Y,F,ab,k⟩:=tV1 (Ra:=aU c) sO aI3 (j2 c) h
  refine⟨Y,F,ab,k.imp λd _ q v i H' s r=>?_⟩
  obtain⟨t,l,a,o,f,j,b,q⟩:=q v i H' s r
  unfold dAll at b
  split at b
  .split at b
   .rename_i bs n
    cases b
    obtain⟨p,vs,rfl,h1,h2⟩:=aM.lst_of f j
    rw[<-m]at h1
    obtain rfl:=aBW h2 n
    exact⟨p,bs,rfl,h1,q _ l H' (Ext.refl f) (.bl _)⟩
   .cases b
  .cases b
end
inductive Fw where
 | nx (Y:Sg)|bk (Y:Sg)|ct (Y:Sg)|rt (a:A)
def AR(g:Gb)(K:Frag)(mg:Str->O9 V9)(H F' H':Hp):A->V->Prop
 | .l xs,v=>∃ p us,v=.ref p/\H p=none/\H' p=some (.lst us)/\F' p=none/\DatVs K F' us xs
 | a,v=>AF g K mg F' a v
theorem AR.of{g:Gb}{K:Frag}{mg:Str->O9 V9}{H b H':Hp}{a:A}{v:V}(h:AF g K mg b a v):AR g K mg H b H' a v:=by
 cases a with
 | l xs=>exact False.elim h
 | _=>exact h
def iH(c:Ct)(F:Hp)(D:j8):Fw->Prop
 | .nx Y=>∀ Z' F' H',aC F F'->Ab c Y Z' F' H'->D.nx Z' H'
 | .bk Y=>∀ Z' F' H',aC F F'->Ab c Y Z' F' H'->D.bk Z' H'
 | .ct Y=>∀ Z' F' H',aC F F'->Ab c Y Z' F' H'->D.ct Z' H'
 | .rt a=>∀ v F' H',Ext c.F0 c.H0 F' H'->AR c.g c.K c.mg c.H0 F' H' a v->D.rt v H'
theorem iH.same{c:Ct}{F F1:Hp}{D:j8}(s:aC F F1):∀ {w:Fw},iH c F D w->iH c F1 D w
 | .nx Y,h=>λb d H' s' ab=>h b d H' (λa o z=>s' a o (s a o z)) ab
 | .bk Y,h=>λb d H' s' ab=>h b d H' (λa o z=>s' a o (s a o z)) ab
 | .ct Y,h=>λb d H' s' ab=>h b d H' (λa o z=>s' a o (s a o z)) ab
 | .rt a,h=>h
def tSf(c:Ct)(E:XK)(f:Sg->R Fw):TS:=λD Z H=>∃ Y F,Ab c Y Z F H/\Rk c E F H (f Y) (iH c F D)
abbrev PSf(X:Cx)(c:Ct)(E:XK)(st:Stmt)(f:Sg->R Fw):Prop:=PS X st (tSf c E f)
abbrev lL(X:Cx)(c:Ct)(E:XK)(st:L9 Stmt)(f:Sg->R Fw):Prop:=PSs X st (tSf c E f)
theorem get_set{α:Type}{l:L9 α}{i j:Nat}{x y:α}(h:(l.set i x)[j]? = some y):(i=j/\y=x/\i < l.length)\/(i≠j/\l[j]? = some y):=by ext
theorem Ab.setF{c:Ct}{Y:Sg}{Z:L2.St}{F H:Hp}{i:Nat}{a:A}{v:V}(b:Ab c Y Z F H)(u:AO c F H a v)(t:a.own=true->∀ (j:Nat) (a':A),j≠i->Y[j]? = some (some a')->a'.own=true->Z[j]? ≠ some (some v)):Ab c (Y.set i (some a)) (Z.set i (some v)) F H where
 len:=by rw[EV,EV];exact b.len
 fh:=b.fh
 slot:=λj a' h=>by
  rcases get_set h with ⟨e,q,p⟩|⟨m,q⟩
  .subst e
   cases q
   exact⟨v,DM (by rw[<-b.len];exact p),u⟩
  .rw[CH m];exact b.slot j a' q
 apart:=λj k a' s d h1 h2 o n=>by
  rcases get_set h1 with ⟨e,q,p⟩|⟨m,q⟩
  .subst e
   cases q
   rcases get_set h2 with ⟨r,g,l⟩|⟨f,g⟩
   .exact absurd r d
   .rw[DM (by rw[<-b.len];exact p),CH f]
    exact(t o k s (BF d) g n).symm
  .rcases get_set h2 with ⟨r,g,l⟩|⟨f,g⟩
   .subst r
    cases g
    rw[DM (by rw[<-b.len];exact l),CH m]
    exact t n j a' d q o
   .rw[CH m,CH f]
    exact b.apart j k a' s d q g o n
 f0:=b.f0
 h0:=b.h0
 n0:=b.n0
 t0:=b.t0
theorem AO.of{c:Ct}{F H:Hp}:∀ {a:A} {v:V},AF c.g c.K c.mg F a v->AO c F H a v
 | .d x,v,h=>h
 | .x e,v,h=>h
 | .g k n G,v,h=>h
 | .f a0,v,h=>h
 | .o e,v,h=>h
 | .w e,v,h=>h
theorem AF.notOwn{g:Gb}{K:Frag}{mg:Str->O9 V9}{F:Hp}:∀ {a:A} {v:V},AF g K mg F a v->a.own=false
 | .d x,v,h=>rfl
 | .x e,v,h=>rfl
 | .g k n G,v,h=>rfl
 | .f a0,v,h=>rfl
 | .o e,v,h=>rfl
 | .w e,v,h=>rfl
theorem Ab.setA{c:Ct}{Y:Sg}{Z:L2.St}{F H:Hp}{i:Nat}{a:A}{v:V}(b:Ab c Y Z F H)(d:AF c.g c.K c.mg F a v):Ab c (Y.set i (some a)) (Z.set i (some v)) F H:=
 b.setF (AO.of d) λz=>by rw[AF.notOwn d]at z;cases z
theorem Ab.setN{c:Ct}{Y:Sg}{Z:L2.St}{F H a H':Hp}{i:Nat}{xs:L9 Dz}{v:V}(b:Ab c Y Z F H)(e:Ext F H a H')(h:uW c xs v H a H'):Ab c (Y.set i (some (.l xs))) (Z.set i (some v)) a H':=by
 obtain⟨p,vs,rfl,h1,h2,k,f⟩:=h
 refine(b.ext e).setF ⟨p,vs,rfl,h2,k,aP b.h0 h1,f⟩ λ_ j m _ d n=>?_
 obtain⟨w,g,q⟩:=b.slot j m d
 rw[g]
 intro z
 cases z
 obtain⟨r,o',s,o,_⟩:=q.at n
 simp_all
theorem Ab.putO{c:Ct}{Y:Sg}{Z:L2.St}{F H:Hp}{i:Nat}{a t:A}{p:Az}{o:HO}(b:Ab c Y Z F H)(hi:Y[i]? = some (some a))(y:a.own=true)(J:Z[i]? = some (some (.ref p)))(O:t.own=true)(X:AO c F (upd H p o) t (.ref p)) :
  Ab c (Y.set i (some t)) Z F (upd H p o):=by
 obtain⟨v,h1,q⟩:=b.slot i _ hi
 rw[J]at h1
 cases h1
 obtain⟨W,o',B,h2,Q,U⟩:=q.at y
 cases B
 have E:∀ (j:Nat) (a:A) (w:V),j≠i->Y[j]? = some (some a)->Z[j]? = some (some w)->AO c F H a w->AO c F (upd H p o) a w:=by
  intro j G w R P L r
  by_cases own:G.own=true
  .refine r.off λz=>?_
   subst z
   exact b.apart j i _ _ R P hi own y (by rw[L,J])
  .cases G with
   | l zs=>exact absurd rfl own
   | m zs=>exact absurd rfl own
   | d x=>exact r
   | x e=>exact r
   | g k n f=>exact r
   | k S=>exact r
   | f S=>exact r
   | o S=>exact r
   | w S=>exact r
 exact {
  len:=by rw[EV];exact b.len
  fh:=λa o z=>by rw[aE (λw=>by subst w;rw[Q]at z;cases z)];exact b.fh a o z
  slot:=λj a h=>by
   rcases get_set h with ⟨e,q,T⟩|⟨N,q⟩
   .grind
   .obtain ⟨w,L,r⟩:=b.slot j a q
    ext
  apart:=λj k t M s h1 h2 K I=>by
   rcases get_set h1 with ⟨e,q,T⟩|⟨N,q⟩
   .subst e
    cases q
    rcases get_set h2 with ⟨B,u,C⟩|⟨D,u⟩
    .grind
    .exact b.apart _ k _ M s hi u y I
   .rcases get_set h2 with ⟨B,u,C⟩|⟨D,u⟩
    .subst B
     exact b.apart j _ t _ s q hi K y
    .exact b.apart j k t M s q u K I
  f0:=b.f0
  h0:=λa o z=>by rw[aE (λw=>by subst w;rw[U]at z;cases z)];exact b.h0 a o z
  n0:=b.n0
  t0:=b.t0}
theorem Ab.putL{c:Ct}{Y:Sg}{Z:L2.St}{F H:Hp}{i:Nat}{xs ys:L9 Dz}{p:Az}{vs:L9 V}(b:Ab c Y Z F H)(hi:Y[i]? = some (some (.l xs)))(a:Z[i]? = some (some (.ref p)))(e:DatVs c.K F vs ys) :
  Ab c (Y.set i (some (.l ys))) Z F (upd H p (.lst vs)):=by
 obtain⟨v,h1,h,us,rfl,h2,f,d,g⟩:=b.slot i _ hi
 rw[a]at h1
 cases h1
 exact b.putO hi rfl a rfl ⟨p,vs,rfl,aL,f,d,e⟩
theorem Ab.putM{c:Ct}{Y:Sg}{Z:L2.St}{F H:Hp}{i:Nat}{d a:L9 (Dz×Dz)}{p:Az}{es:L9 Ent}{ep:Nat}(b:Ab c Y Z F H)(hi:Y[i]? = some (some (.m d)))(e:Z[i]? = some (some (.ref p)))(g:MapRel c.K F es a) :
  Ab c (Y.set i (some (.m a))) Z F (upd H p (bB c.w p es ep)):=by
 obtain⟨v,h1,k,us,rfl,h2,h,f,j⟩:=b.slot i _ hi
 rw[e]at h1
 cases h1
 exact b.putO hi rfl e rfl ⟨p,es,rfl,⟨ep,aL⟩,h,f,g⟩
theorem Ab.setM{c:Ct}{Y:Sg}{Z:L2.St}{F H d H':Hp}{i:Nat}{a:L9 (Dz×Dz)}{p:Az}{es:L9 Ent}{ep:Nat}(b:Ab c Y Z F H)(e:Ext F H d H')(h1:H p=none)(h2:H' p=some (bB c.w p es ep))(k:d p=none)(g:MapRel c.K d es a):Ab c (Y.set i (some (.m a))) (Z.set i (some (.ref p))) d H':=by
 refine(b.ext e).setF ⟨p,es,rfl,⟨ep,h2⟩,k,aP b.h0 h1,g⟩ λ_ j l _ f n=>?_
 obtain⟨w,h,q⟩:=b.slot j l f
 rw[h]
 intro z
 cases z
 obtain⟨r,o',s,o,_⟩:=q.at n
 ext
noncomputable def fz(i:Nat)(Y:Sg):Sg:=match Y[i]? with
 | some (some (.l xs))=>Y.set i (some (.d (.list xs)))
 | _=>Y
theorem Ab.publ{c:Ct}{Y:Sg}{Z:L2.St}{F H:Hp}{i:Nat}{I y:A}{p:Az}{o:HO}(b:Ab c Y Z F H)(hi:Y[i]? = some (some I))(R:Z[i]? = some (some (.ref p)))(X:I.own=true)(h2:H p=some o)(B:F p=none)(D:c.H0 p=none)(no:y.own=false)(hr:AO c (upd F p o) H y (.ref p)):Ab c (Y.set i (some y)) Z (upd F p o) H:=by
 have t:aC F (upd F p o):=aC.upd B
 exact {
  len:=by rw[EV];exact b.len
  fh:=λa o' z=>by
   by_cases w:a=p
   .subst w;rw[aL]at z;rw[h2];exact z
   .rw[aE w]at z;exact b.fh a o' z
  slot:=λj a h=>by
   rcases get_set h with ⟨e,q,V⟩|⟨G,q⟩
   .grind
   .obtain ⟨w,L,s⟩:=b.slot j a q
    refine⟨w,L,?_⟩
    have off:∀ r,a.own=true->w=.ref r->F r=none->upd F p o r=none:=λr Q e f=>by
     rw[aE]
     .exact f
     .intro z
      subst z
      exact b.apart j i _ _ (BF G) q hi Q X (by rw[L,R,e])
    cases a with
    | l zs=>obtain⟨r,ws,e,u,s,v,E⟩:=s;exact⟨r,ws,e,u,off r rfl e s,v,E.same t⟩
    | m a0=>obtain⟨r,ws,e,u,s,v,E⟩:=s;exact⟨r,ws,e,u,off r rfl e s,v,E.same t⟩
    | d x=>exact DatV.same t s
    | x e=>exact AF.same (g:=c.g) (K:=c.K) (mg:=c.mg) (a:=.x e) t s
    | g k n f=>exact AF.same (g:=c.g) (K:=c.K) (mg:=c.mg) (a:=.g k n f) t s
    | k S=>obtain⟨S,f,cl,doc,pm,N,ct,h0,h1,h2,B,D⟩:=s;exact⟨S,f,cl,doc,pm,N,ct,h0,h1,t _ _ h2,t _ _ B,D⟩
    | f a0=>exact AF.same (g:=c.g) (K:=c.K) (mg:=c.mg) (a:=.f a0) t s
    | o e=>exact AF.same (g:=c.g) (K:=c.K) (mg:=c.mg) (a:=.o e) t s
    | w e=>exact s
  apart:=λj k M W C h1 h2 U O=>by
   rcases get_set h1 with ⟨e,q,V⟩|⟨G,q⟩
   .grind
   .rcases get_set h2 with ⟨e',J,P⟩|⟨T,J⟩
    .grind
    .exact b.apart j k M W C q J U O
  f0:=λa o z=>t a o (b.f0 a o z)
  h0:=b.h0
  n0:=λa z n=>by
   by_cases w:a=p
   .subst w;exact .inl D
   .rw[aE w]at n;exact b.n0 a z n
  t0:=b.t0}
theorem Ab.frz{c:Ct}{Y:Sg}{Z:L2.St}{F H:Hp}(b:Ab c Y Z F H)(i:Nat):∃ F',aC F F'/\Ab c (fz i Y) Z F' H:=by
 unfold fz
 split
 .rename_i xs hi
  obtain⟨v,f,p,vs,rfl,h2,a,e,d⟩:=b.slot i _ hi
  exact⟨_,aC.upd a,b.publ hi f rfl h2 a e rfl (.lst (SqL.of aL) (d.same (aC.upd a)))⟩
 .exact ⟨F,a7 F,b⟩
section
variable{X:Cx}{c:Ct}{E:XK}{e a b:E2}{st:Stmt}{rest:L9 Stmt}{pos:Pos}
def sFz(i:Nat)(f:Sg->R Fw):Sg->R Fw:=λY=>f (fz i Y)
theorem aN8(i:Nat){f:Sg->R Fw}(h:PSf X c E st f):PSf X c E st (sFz i f):=PS.imp h λD Z H b=>by
 obtain⟨Y,F,ab,k⟩:=b
 obtain⟨g,s,d⟩:=ab.frz i
 refine⟨fz i Y,g,d,?_⟩
 have a:Rk c E F H (f (fz i Y)) (iH c F D):=k
 cases q:f (fz i Y)with
 | bad=>rw[q]at a;exact a
 | ok w=>rw[q]at a;exact iH.same s a
 | ex e=>rw[q]at a;exact a
noncomputable def sNx:Sg->R Fw:=λY=>.ok (.nx Y)
def aF(f g:Sg->R Fw):Sg->R Fw:=λY=>(f Y).bind λw=>match w with
 | .nx Y'=>g Y'
 | w=>.ok w
theorem iP:lL X c E [] sNx:=PSs.imp L2.iP λD Z H ⟨Y,F,ab,k⟩=>Rk.ok k Z F H (a7 F) ab
theorem cK{f:Sg->R Fw}(h:PSf X c E st f):lL X c E [st] f:=L2.cK h
theorem aJ{f g:Sg->R Fw}(h:PSf X c E st f)(h2:lL X c E rest g):lL X c E (st::rest) (aF f g):=PSs.imp (L2.aJ h h2) λD Z H i=>by
 obtain⟨Y,F,ab,k⟩:=i
 refine⟨Y,F,ab,(Rk.bind k).imp λw _ q=>?_⟩
 cases w with
 | nx Y'=>
  intro m l H' s j
  refine⟨Y',l,j,?_⟩
  have b:Rk c E F H (g Y') (iH c F D):=q
  cases d:g Y' with
  | bad=>rw[d]at b;exact b
  | ok w=>rw[d]at b;exact iH.same s b
  | ex e=>rw[d]at b;exact b
 | bk Y'=>exact q
 | ct Y'=>exact q
 | rt a=>exact q
def aN(f:Sg->R A):Sg->R Fw:=λY=>(f Y).bind λa=>.ok (.rt a)
theorem iF{f:Sg->R A}(h:PV X c E e f):PSf X c E (.Return (some e) pos) (aN f):=PS.imp (L2.iF h) λD Z H ⟨Y,F,ab,k⟩=>
 ⟨Y,F,ab,(Rk.bind k).imp λa _ q v b H' s r=>Rk.ok q v b H' (ab.all.trans s) (AR.of r)⟩
def sIf(t:Sg->R Bool)(f g:Sg->R Fw):Sg->R Fw:=λY=>(t Y).bind λb=>if b=true then f Y else g Y
theorem Rk.fw{F a H H1:Hp}{D:j8}{r:R Fw}(s:aC F a)(k:Rk c E F H r (iH c F D)):Rk c E a H1 r (iH c a D):=by
 cases r with
 | bad=>exact k
 | ok w=>exact iH.same s k
 | ex e=>exact k
theorem lS{e h:L9 Stmt}{t:Sg->R Bool}{f g:Sg->R Fw}(i:PTf X c E q t)(j:lL X c E e f)(hb:lL X c E h g):PSf X c E (.If q e h pos) (sIf t f g):=PS.imp (L2.lS i j hb) λD Z H a=>by
 obtain⟨Y,F,ab,k⟩:=a
 refine⟨Y,F,ab,(Rk.bind k).imp λb _ q d H' s=>?_⟩
 cases b with
 | true=>exact xU ⟨Y,d,ab.ext s,Rk.fw s.ff q⟩
 | false=>exact xT ⟨Y,d,ab.ext s,Rk.fw s.ff q⟩
def a8(i:Nat)(f:Sg->R A):Sg->R Fw:=λY=>(f Y).bind λa=>.ok (.nx (Y.set i (some a)))
theorem cP{i:Nat}{f:Sg->R A}(h:PS X st (kD (tV (aLS c) c E f) (i6 i))):PSf X c E st (a8 i f):=PS.imp h λD Z H ⟨Y,F,ab,k⟩=>
 ⟨Y,F,ab,(Rk.bind k).imp λa _ q v b H' s r=>Rk.ok q _ b H' s.ff ((ab.ext s).setA r)⟩
def cO(i:Nat)(f:Sg->R (L9 Dz)):Sg->R Fw:=λY=>(f Y).bind λxs=>.ok (.nx (Y.set i (some (.l xs))))
theorem sP{f:Sg->R (L9 Dz)}(h:PS X st (kD (tV (uW c) c E f) (i6 i))):PSf X c E st (cO i f):=PS.imp h λD Z H ⟨Y,F,ab,k⟩=>
 ⟨Y,F,ab,(Rk.bind k).imp λa _ q v b H' s r=>Rk.ok q _ b H' s.ff (ab.setN s r)⟩
def aGQ(f:Sg->R A):Sg->R Fw:=λY=>(f Y).bind λ_=>.ok (.nx Y)
theorem jI{f:Sg->R A}(h:PS X st (v4 (tV (aLS c) c E f))):PSf X c E st (aGQ f):=PS.imp h λD Z H ⟨Y,F,ab,k⟩=>
 ⟨Y,F,ab,(Rk.bind k).imp λa _ q v b H' s r=>Rk.ok q _ b H' s.ff (ab.ext s)⟩
def fG(i:Nat)(f:Sg->R Dz):Sg->R Fw:=λY=>match Y[i]? with
 | some (some (.l xs))=>(f Y).bind λx=>if xs.length < 16777216 then .ok (.nx (Y.set i (some (.l (xs++[x])))))else .bad
 | _=>.bad
theorem aI4{f:Sg->R Dz}(l:X.K=c.K)(h:PS X st (v4 (tBM X.K "list" aD9 (iW i) (b9 (tV (bC c) c E f) eJ)))):PSf X c E st (fG i f):=PS.imp h λD Z H ⟨Y,F,ab,k⟩=>by
 unfold fG at k
 split at k
 .rename_i xs hi
  obtain⟨v,d,p,vs,rfl,h2,j,g,b⟩:=ab.slot i _ hi
  refine⟨_,d,.inl ⟨rfl,vs,SqL.of h2⟩,Y,F,ab,(Rk.bind k).imp λx _ q u e H1 s1 r1=>?_⟩
  by_cases a:xs.length < 16777216
  .rw[AN a]at q
   refine⟨p,vs,u,rfl,rfl,s1.hh _ _ h2,by rw[b.length,bX];exact a,?_⟩
   exact Rk.ok q Z e _ s1.ff ((ab.ext s1).putL hi d ((b.same s1.ff).append (.cons r1 .nil)))
  .rw[AL a]at q;exact q.elim
 .exact k.elim
end
def Tg(c:Ct)(g:TG)(fs:Dz->Sg->O9 Sg)(is:L9 Nat):Prop:=∀ (v:V) (x:Dz) (Y Y':Sg) (Z:L2.St) (F H:Hp) (Q:L2.St->Hp->Prop),Ab c Y Z F H->DatV c.K F v x->fs x Y=some Y'->
 (∀ Z':L2.St,Z'.length=Z.length->(∀ j:Nat,j∉is->Z'[j]? = Z[j]?)->Ab c Y' Z' F H->Q Z' H)->g v Z H Q
noncomputable def stN(i:Nat):Dz->Sg->O9 Sg:=λx Y=>some (Y.set i (some (.d x)))
theorem oJ{c:Ct}(i:Nat):Tg c (i6 i) (stN i) [i]:=λv x Y f Z F H Q ab r e q=>by
 cases e
 exact q _ EV (λj b=>CH (by intro z;subst z;exact b (by simp))) (ab.setA (a:=.d x) r)
noncomputable def stL:L9 (Dz->Sg->O9 Sg)->L9 Dz->Sg->O9 Sg
 | [],[],Y=>some Y
 | f::fs,x::xs,Y=>(f x Y).bind (stL fs xs)
 | _,_,_=>none
def Tgs(c:Ct)(g:TGs)(fs:L9 (Dz->Sg->O9 Sg))(is:L9 Nat):Prop:=∀ (vs:L9 V) (xs:L9 Dz) (Y Y':Sg) (Z:L2.St) (F H:Hp) (Q:L2.St->Hp->Prop),Ab c Y Z F H->DatVs c.K F vs xs->stL fs xs Y=some Y'->
 (∀ Z':L2.St,Z'.length=Z.length->(∀ j:Nat,j∉is->Z'[j]? = Z[j]?)->Ab c Y' Z' F H->Q Z' H)->g vs Z H Q
theorem aPU{c:Ct}:Tgs c aK8 [] []:=λvs xs Y a Z F H Q ab r e q=>by
 cases xs with
 | nil=>cases e;exact⟨by cases r;rfl,q Z rfl (λ_ _=>rfl) ab⟩
 | cons x t=>cases e
theorem aLX{c:Ct}{g:TG}{gs:TGs}{f:Dz->Sg->O9 Sg}{fs:L9 (Dz->Sg->O9 Sg)}{is js:L9 Nat}(h:Tg c g f is)(h2:Tgs c gs fs js):Tgs c (aNW g gs) (f::fs) (is++js):=λvs xs Y k Z F H Q ab r e q=>by
 cases r with
 | nil=>cases e
 | cons r1 r2=>
  rename_i x d vs ds
  have a:(f d Y).bind (stL fs ds)=some k:=e
  cases e1:f d Y with
  | none=>rw[e1]at a;cases a
  | some Y1=>
   rw[e1]at a
   refine⟨_,_,rfl,h _ _ Y Y1 Z F H _ ab r1 e1 λl n k1 b=>h2 _ _ Y1 k l F H _ b r2 a λo m k2 i=>q o (m.trans n) (λj p=>?_) i⟩
   simp_all
noncomputable def stT(fs:L9 (Dz->Sg->O9 Sg)):Dz->Sg->O9 Sg:=λx Y=>match x with
 | .tuple xs=>stL fs xs Y
 | _=>none
theorem aEK:∀ {fs:L9 (Dz->Sg->O9 Sg)} {xs:L9 Dz} {Y Y':Sg},stL fs xs Y=some Y'->xs.length=fs.length
 | [],[],_,_,_=>rfl
 | [],_::_,_,_,h=>by cases h
 | _::_,[],_,_,h=>by cases h
 | f::fs,x::xs,Y,Y',h=>by
  have h':(f x Y).bind (stL fs xs)=some Y':=h
  cases e:f x Y with
  | none=>rw[e]at h';cases h'
  | some Y1=>
   rw[e]at h'
   have:=aEK (fs:=fs) (xs:=xs) h'
   simp[this]
theorem aTU{c:Ct}{gs:TGs}{fs:L9 (Dz->Sg->O9 Sg)}{is:L9 Nat}{n:Nat}{K:Frag}(b:K=c.K)(h:Tgs c gs fs is)(d:fs.length=n):Tg c (aSQ K n gs) (stT fs) is:=λv x Y f Z F H Q ab r e q=>by
 cases x with
 | tuple xs=>
  obtain⟨a,vs,rfl,h1,h2⟩:=r.tup_of
  subst b
  exact⟨a,vs,rfl,h1.same ab.fh,by rw[h2.length,aEK e,d],h vs xs Y f Z F H Q ab h2 e q⟩
 | _=>cases e
structure Yld(K:Frag)(J:It)(F B:Hp)(xs:List Dz):Prop where
 len:xs.length<=sizeLine
 go:∀ (i:Nat) F1 H1,aC F F1->aC F1 H1->aC B H1->i < xs.length->J.go i H1
 yld:∀ (i:Nat) F1 H1 v H2 x,aC F F1->aC F1 H1->aC B H1->J.yld i H1 v H2->xs[i]? = some x->∃ F2,Ext F1 H1 F2 H2/\DatV K F2 v x
 stop:∀ F1 H1,aC F F1->aC F1 H1->aC B H1->J.stop xs.length H1
def tI(c:Ct)(E:XK)(f:Sg->R (L9 Dz)):TI:=λZ H Rr=>∃ Y F,Ab c Y Z F H/\Rk c E F H (f Y) λxs=>∀ J B F' H',Ext F H F' H'->aC B H'->Yld c.K J F' B xs->Rr J H'
def tI0(c:Ct)(E:XK)(f:Sg->R (L9 Dz)):TI:=λZ H Rr=>∃ Y F,Ab c Y Z F H/\Rk c E F H (f Y) λxs=>∀ J F' H',Ext F H F' H'->Yld c.K J F' (λ_=>none) xs->Rr J H'
theorem PI.imp{X:Cx}{tg e:E2}{t t':TI}(h:PI X tg e t)(i:∀ Z H Q,t' Z H Q->t Z H Q):PI X tg e t':=λap s Z H Q I q=>h ap s Z H Q I (i Z H Q q)
abbrev PIf(X:Cx)(c:Ct)(E:XK)(tg e:E2)(f:Sg->R (L9 Dz)):Prop:=PI X tg e (tI c E f)
abbrev PI0(X:Cx)(c:Ct)(E:XK)(tg e:E2)(f:Sg->R (L9 Dz)):Prop:=PI X tg e (tI0 c E f)
theorem aWJ{X:Cx}{c:Ct}{E:XK}{tg e:E2}{f:Sg->R (L9 Dz)}(h:PI0 X c E tg e f):PIf X c E tg e f:=PI.imp h λZ H Q ⟨Y,F,ab,k⟩=>
 ⟨Y,F,ab,k.imp λxs _ q J a H' s y=>q J (λ_=>none) a H' s (λ_ _ z=>nomatch z) y⟩
def qW{H:Hp}:aC (λ_=>none) H:=λ_ _ z=>nomatch z
noncomputable def aH:Dz->R (L9 Dz)
 | .list xs=>if xs.length<=16777216 then .ok xs else .bad
 | .tuple xs=>if xs.length<=16777216 then .ok xs else .bad
 | .str z=>if z.cps.toList.length<=16777216 then .ok (z.cps.toList.map λu=>.str ⟨#[u]⟩)else .bad
 | _=>.bad
theorem aBX{K:Frag}{F B H:Hp}{a:Az}{vs:L9 V}{xs:L9 Dz}(hz:xs.length<=16777216)(f:∀ H1,aC F H1->aC B H1->SqL K H1 a vs)(g:DatVs K F vs xs):Yld K (Itl K a) F B xs where
 len:=by rw[bX];exact hz
 go:=λi c H1 h1 h2 b hi=>by
  have q:=f H1 (λx o z=>h2 x o (h1 x o z)) b
  exact⟨vs,vs[i]'(by rw[g.length];exact hi),q,by simp⟩
 yld:=λi c H1 v H2 x h1 h2 b y e=>by
  obtain⟨rfl,y⟩:=y
  have q:=y vs (f _ (λx o z=>h2 x o (h1 x o z)) b)
  obtain⟨d,e2,r⟩:=g.get q
  rw[e]at e2
  cases e2
  exact⟨c,Ext.refl h2,r.same h1⟩
 stop:=λc H1 h1 h2 b=>⟨vs,f H1 (λx o z=>h2 x o (h1 x o z)) b,by rw[g.length];exact AK _⟩
theorem aEL{K:Frag}{F B:Hp}{a:Az}{vs:L9 V}{xs:L9 Dz}(hz:xs.length<=16777216)(c:SqT K F a vs)(f:DatVs K F vs xs):Yld K (Itt K a) F B xs where
 len:=by rw[bX];exact hz
 go:=λi b H1 h1 h2 g hi=>by
  have q:=c.same (H':=H1) (λx o z=>h2 x o (h1 x o z))
  exact⟨vs,vs[i]'(by rw[f.length];exact hi),q,by simp⟩
 yld:=λi b H1 v H2 x h1 h2 g y e=>by
  obtain⟨rfl,y⟩:=y
  have q:=y vs (c.same (λx o z=>h2 x o (h1 x o z)))
  obtain⟨d,e2,r⟩:=f.get q
  rw[e]at e2
  cases e2
  exact⟨b,Ext.refl h2,r.same h1⟩
 stop:=λb H1 h1 h2 g=>⟨vs,c.same (λx o z=>h2 x o (h1 x o z)),by rw[f.length];exact AK _⟩
theorem aEM{K:Frag}{F B:Hp}{z:Str}(hz:z.cps.toList.length<=16777216):Yld K (Its z) F B (z.cps.toList.map λu=>.str ⟨#[u]⟩) where
 len:=by rw[bX,AB];exact hz
 go:=λi a H1 h1 h2 b hi=>by
  rw[AB,CA]at hi
  exact hi
 yld:=λi a H1 v H2 x h1 h2 b y e=>by
  obtain⟨rfl,u,c,rfl⟩:=y
  rw[AC,DU,c]at e
  cases e
  exact⟨a,Ext.refl h2,.str _⟩
 stop:=λa H1 h1 h2 b=>by
  show(z.cps.toList.map _).length=z.cps.size
  simp_all
section
variable{X:Cx}{c:Ct}{E:XK}{tg e a b:E2}{pos:Pos}
theorem aTV{f:Sg->R Dz}(j:X.K=c.K)(h:PD X c E e f):PI0 X c E tg e (e1 aH f):=PI.imp (PI.or (aH5 h) (aIC h)) λZ H Q ⟨Y,F,ab,k⟩=>by
 have b:=Rk.bind k
 cases a:f Y with
 | bad=>rw[a]at b;exact b.elim
 | ex x=>rw[a]at b;exact .inl ⟨Y,F,ab,by rw[a];exact b⟩
 | ok d=>
  rw[a]at b
  have k2:=Rk.ok b
  unfold aH at k2
  split at k2
  .rename_i xs
   split at k2
   .rename_i g
    refine .inl ⟨Y,F,ab,?_⟩
    rw[a]
    intro v i H' s r
    obtain⟨p,vs,rfl,h1,h2⟩:=DatV.lst_of r
    refine⟨p,rfl,.inl ⟨⟨vs,?_⟩,?_⟩⟩
    · rw [j]; exact h1.same s.fh
    · rw [j]; exact Rk.ok k2 _ i H' s (aBX (H := H') g (λH1 q _ => h1.same q) h2)
   .exact k2.elim
  .rename_i xs
   split at k2
   .rename_i g
    refine .inl ⟨Y,F,ab,?_⟩
    rw[a]
    intro v i H' s r
    obtain⟨p,vs,rfl,h1,h2⟩:=DatV.tup_of r
    refine⟨p,rfl,.inr ⟨⟨vs,?_⟩,?_⟩⟩
    · rw [j]; exact h1.same s.fh
    · rw [j]; exact Rk.ok k2 _ i H' s (aEL g h1 h2)
   .exact k2.elim
  .rename_i z
   split at k2
   .rename_i g
    refine .inr ⟨Y,F,ab,?_⟩
    rw[a]
    intro v i H' s r
    obtain rfl:=DatV.str_of r
    exact⟨z,rfl,Rk.ok k2 _ i H' s (aEM g)⟩
   .exact k2.elim
  .exact k2.elim
theorem aYC{f:Sg->R Dz}(j:X.K=c.K)(h:PR X c E e f):PIf X c E tg e (e1 aH f):=PI.imp (PI.or (aH5 h) (aIC h)) λZ H Q ⟨Y,F,ab,k⟩=>by
 have b:=Rk.bind k
 cases a:f Y with
 | bad=>rw[a]at b;exact b.elim
 | ex x=>rw[a]at b;exact .inl ⟨Y,F,ab,by rw[a];exact b⟩
 | ok d=>
  rw[a]at b
  have k2:=Rk.ok b
  unfold aH at k2
  split at k2
  .rename_i xs
   split at k2
   .rename_i g
    refine .inl ⟨Y,F,ab,?_⟩
    rw[a]
    intro v i H' s r
    obtain⟨p,vs,rfl,h1,h2⟩:=aM.lst_of s.fh r
    refine⟨p,rfl,.inl ⟨⟨vs,?_⟩,?_⟩⟩
    · simp_all
    · rw [j]; exact Rk.ok k2 _ H' i H' s (a7 _) (aBX (H := H') g (λH1 _ q => h1.same q) h2)
   .exact k2.elim
  .rename_i xs
   split at k2
   .rename_i g
    refine .inl ⟨Y,F,ab,?_⟩
    rw[a]
    intro v i H' s r
    obtain⟨p,vs,rfl,h1,_,h2⟩:=aM.tup_of s.fh r
    refine⟨p,rfl,.inr ⟨⟨vs,?_⟩,?_⟩⟩
    · simp_all
    · rw [j]; exact Rk.ok k2 _ H' i H' s (a7 _) (aEL g h1 h2)
   .exact k2.elim
  .rename_i z
   split at k2
   .rename_i g
    refine .inr ⟨Y,F,ab,?_⟩
    rw[a]
    intro v i H' s r
    obtain rfl:=aM.str_of r
    exact⟨z,rfl,Rk.ok k2 _ H' i H' s (a7 _) (aEM g)⟩
   .exact k2.elim
  .exact k2.elim
noncomputable def mM(lo:Int)(n:Nat):L9 Dz:=(range n).map λi:Nat=>.int (lo+i)
def j3(lo hi:Int):R (L9 Dz):=if -4611686018427387904<=lo/\lo < 4611686018427387904 /\ -4611686018427387904<=hi/\hi < 4611686018427387904/\hi - lo<=16777216 then .ok (mM lo (hi - lo).toNat)else .bad
def eH(f:Sg->R Dz):Sg->R (L9 Dz):=λY=>(f Y).bind λx=>match x with
 | .int j=>j3 0 j
 | _=>.bad
theorem aI5{F B:Hp}{lo:Int}(hz:n<=16777216):Yld K (Itr lo n) F B (mM lo n) where
 len:=by unfold mM;rw[bX,AB,BB];exact hz
 go:=λi a H1 h1 h2 c hi=>by unfold mM at hi;rw[AB,BB]at hi;exact hi
 yld:=λi a H1 v H2 x h1 h2 c y e=>by
  obtain⟨rfl,rfl⟩:=y
  unfold mM at e
  rw[AC]at e
  cases q:(range n)[i]? with
  | none=>rw[q]at e;cases e
  | some j=>
   rw[q]at e
   cases e
   obtain⟨d,b⟩:=AJ.mp q
   rw[List.getElem_range]at b
   subst b
   exact⟨a,Ext.refl h2,.int _⟩
 stop:=λa H1 h1 h2 c=>by show n<=_;unfold mM;rw[AB,BB];exact AK _
theorem aPV{f:Sg->R Dz}(h:PI X tg e (aNX (b9 (tV (aU c) c E f) eJ))):PI0 X c E tg e (eH f):=PI.imp h λZ H Q ⟨Y,F,ab,k⟩=>by
 refine⟨Y,F,ab,(Rk.bind k).imp λx _ q v d H' s r=>?_⟩
 cases x with
 | int j=>
  have a:Rk c E F H (j3 0 j) _:=q
  unfold j3 at a
  split at a
  .rename_i g
   obtain rfl:=aM.int_of r
   refine⟨j,rfl,by ext,by ext,?_⟩
   have b:(j - 0).toNat=j.toNat:=by rw[Int.sub_zero]
   rw[<-b]
   exact Rk.ok a _ d H' s (aI5 (by ext))
  .exact a.elim
 | _=>exact q.elim
end
noncomputable def cX(js:L9 (O9 Nat))(Y:Sg):Sg:=js.map λo=>o.bind λj=>(Y[j]?).join
theorem yC{α:Type}{js:L9 (O9 Nat)}{Y:L9 (O9 α)}{i:Nat}{a:α}(h:(js.map λo=>o.bind λj=>(Y[j]?).join)[i]? = some (some a)):∃ j,js[i]? = some (some j)/\Y[j]? = some (some a):=by
 rw[AC]at h
 cases e:js[i]? with
 | none=>rw[e]at h;cases h
 | some o=>
  rw[e]at h
  have h':(o.bind λj=>(Y[j]?).join)=some a:=BL h
  cases o with
  | none=>cases h'
  | some j=>
   ext
theorem yD{α:Type}{js:L9 (O9 Nat)}{Y:L9 (O9 α)}{i j:Nat}{a:α}(h:js[i]? = some (some j))(h2:Y[j]? = some (some a)):(js.map λo=>o.bind λj=>(Y[j]?).join)[i]? = some (some a):=by
 rw[AC,h]
 show some ((Y[j]?).join)=_
 rw[h2];rfl
def yE(js:L9 (O9 Nat)):Prop:=∀ (i k j:Nat),js[i]? = some (some j)->js[k]? = some (some j)->i=k
theorem wN{js:L9 (O9 Nat)}(h:js.Pairwise λa b=>a=none\/a≠b):yE js:=λi k j h1 h2=>by
 obtain⟨c,e1⟩:=AJ.mp h1
 obtain⟨d,e2⟩:=AJ.mp h2
 rw[CL]at h
 ext
theorem Ab.cap{c:Ct}{Y:Sg}{Z p:L2.St}{F H:Hp}{js:L9 (O9 Nat)}(b:Ab c Y Z F H)(s:yE js)(k:cV (kE js Z) p):Ab c (cX js Y) p F H where
 len:=by rw[k.1];unfold cX kE;rw[AB,AB]
 fh:=b.fh
 slot:=λi a h=>by
  obtain⟨j,h1,h2⟩:=yC h
  obtain⟨v,g,t⟩:=b.slot j a h2
  exact⟨v,k.2 i v (yD h1 g),t⟩
 apart:=λi n a q l h h' o o'=>by
  obtain⟨j,h1,h2⟩:=yC h
  obtain⟨m,f,d⟩:=yC h'
  have r:j≠m:=λz=>l (s i n j h1 (by rw[f,z]))
  obtain⟨v,g,_⟩:=b.slot j a h2
  obtain⟨u,e,_⟩:=b.slot m q d
  rw[k.2 i v (yD h1 g),k.2 n u (yD f e),<-g,<-e]
  exact b.apart j m a q r h2 d o o'
 f0:=b.f0
 h0:=b.h0
 n0:=b.n0
 t0:=b.t0
noncomputable def R.noEx{α:Type}:R α->R α
 | .ex _=>.bad
 | r=>r
@[simp] theorem R.noEx_ok{α:Type}(a:α):(R.ok a).noEx=.ok a:=id rfl
noncomputable def yF{α:Type}:O9 α->R α
 | some a=>.ok a
 | none=>.bad
@[simp] theorem qX{α:Type}(a:α):yF (some a)=.ok a:=id rfl
noncomputable def compL(fs:Dz->Sg->O9 Sg)(ft:Sg->R Bool)(fe:Sg->R Dz)(Y0:Sg):L9 Dz->R (L9 Dz)
 | []=>.ok []
 | x::t=>(yF (fs x Y0)).bind λY1=>(ft Y1).noEx.bind λb=>if b=true then(fe Y1).noEx.bind λy=>(compL fs ft fe Y0 t).bind λys=>.ok (y::ys)else compL fs ft fe Y0 t
theorem pG{fs:Dz->Sg->O9 Sg}{ft:Sg->R Bool}{fe:Sg->R Dz}{Y0:Sg}{e:Er}:∀ {xs:L9 Dz},compL fs ft fe Y0 xs≠.ex e
 | []=>λh=>by cases h
 | x::t=>λh=>by
  unfold compL at h
  cases h1:fs x Y0 with
  | none=>rw[h1]at h;cases h
  | some Y1=>
   rw[h1]at h
   have h:((ft Y1).noEx.bind λb=>if b=true then(fe Y1).noEx.bind λy=>(compL fs ft fe Y0 t).bind λys=>.ok (y::ys)else compL fs ft fe Y0 t)=.ex e:=h
   cases h2:ft Y1 with
   | bad=>rw[h2]at h;cases h
   | ex _=>rw[h2]at h;cases h
   | ok b=>
    rw[h2]at h
    have h:(if b=true then(fe Y1).noEx.bind λy=>(compL fs ft fe Y0 t).bind λys=>.ok (y::ys)else compL fs ft fe Y0 t)=.ex e:=h
    cases b with
    | false=>exact pG (xs:=t) h
    | true=>
     have h:((fe Y1).noEx.bind λy=>(compL fs ft fe Y0 t).bind λys=>.ok (y::ys))=.ex e:=h
     cases c:fe Y1 with
     | bad=>rw[c]at h;cases h
     | ex _=>rw[c]at h;cases h
     | ok y=>
      rw[c]at h
      have h:((compL fs ft fe Y0 t).bind λys=>.ok (y::ys))=.ex e:=h
      cases a:compL fs ft fe Y0 t with
      | bad=>rw[a]at h;cases h
      | ex e'=>exact pG (xs:=t) (e:=e') a
      | ok ys=>rw[a]at h;cases h
theorem aGR{fs:Dz->Sg->O9 Sg}{ft:Sg->R Bool}{fe:Sg->R Dz}{Y0:Sg}{x:Dz}{t ys:L9 Dz}(h:compL fs ft fe Y0 (x::t)=.ok ys) :
  ∃ Y1 b,fs x Y0=some Y1/\ft Y1=.ok b/\((b=true/\∃ y zs,fe Y1=.ok y/\compL fs ft fe Y0 t=.ok zs/\ys=y::zs)\/(b=false/\compL fs ft fe Y0 t=.ok ys)):=by
 unfold compL at h
 cases h1:fs x Y0 with
 | none=>rw[h1]at h;cases h
 | some Y1=>
  rw[h1]at h
  have h:((ft Y1).noEx.bind λb=>if b=true then(fe Y1).noEx.bind λy=>(compL fs ft fe Y0 t).bind λys=>.ok (y::ys)else compL fs ft fe Y0 t)=.ok ys:=h
  cases h2:ft Y1 with
  | bad=>rw[h2]at h;cases h
  | ex _=>rw[h2]at h;cases h
  | ok b=>
   rw[h2]at h
   have h:(if b=true then(fe Y1).noEx.bind λy=>(compL fs ft fe Y0 t).bind λys=>.ok (y::ys)else compL fs ft fe Y0 t)=.ok ys:=h
   refine⟨Y1,b,rfl,h2,?_⟩
   cases b with
   | false=>exact .inr ⟨rfl,h⟩
   | true=>
    refine .inl ⟨rfl,?_⟩
    have h:((fe Y1).noEx.bind λy=>(compL fs ft fe Y0 t).bind λys=>.ok (y::ys))=.ok ys:=h
    cases c:fe Y1 with
    | bad=>rw[c]at h;cases h
    | ex _=>rw[c]at h;cases h
    | ok y=>
     rw[c]at h
     have h:((compL fs ft fe Y0 t).bind λys=>.ok (y::ys))=.ok ys:=h
     cases a:compL fs ft fe Y0 t with
     | bad=>rw[a]at h;cases h
     | ex e'=>rw[a]at h;cases h
     | ok zs=>rw[a]at h;cases h;exact⟨y,zs,rfl,rfl,rfl⟩
def cA(js:L9 (O9 Nat))(fi:Sg->R (L9 Dz))(fs:Dz->Sg->O9 Sg)(ft:Sg->R Bool)(fe:Sg->R Dz):Sg->R (L9 Dz):=λY=>(fi Y).bind λxs=>compL fs ft fe (cX js Y) xs
noncomputable def dC:Sg->R Bool:=λ_=>.ok true
section
variable{X:Cx}{c:Ct}{E:XK}{e a b:E2}{pos:Pos}
theorem xV:L2.PIf X [] (tTf c E dC):=λap s Z H Q I ⟨Y,F,ab,k⟩=>L2.xV ap s Z H Q I (Rk.ok k F H (Ext.refl ab.fh))
theorem aLY{Z a b:L2.St}(k:cV (kE js Z) a)(c:b.length=a.length)(h:∀ j:Nat,j∉is->b[j]? = a[j]?)(hi:∀ i∈is,js[i]? = some none):cV (kE js Z) b:=
 ⟨c.trans k.1,λi v e=>by
  by_cases q:i∈is
  .unfold kE at e
   rw[AC,hi i q]at e
   cases e
  .rw[h i q];exact k.2 i v e⟩
theorem zU{fi:Sg->R (L9 Dz)}{fs:Dz->Sg->O9 Sg}{ft:Sg->R Bool}{fe:Sg->R Dz}(ho:yE js)(hi:∀ i∈is,js[i]? = some none)
  (hb:∀ (cl:L9 (Str×Az)) (C:Az) (s:S9) (H0:Hp) (fp:L9 Az),∃ g,PG (dZ X N scope cl C s H0 fp) tg g/\Tg c g fs is/\L2.PIf (dZ X N scope cl C s H0 fp) ifs (tTf c E0 ft)/\PD (dZ X N scope cl C s H0 fp) c E0 elt fe)
  {Z:L2.St} {H:Hp} {Q:VK} (h:tV (uW c) c E (cA js fi fs ft fe) Z H Q):wA X N scope js tg elt ifs (tI c E fi) Z H Q:=by
 obtain⟨Y,F,ab,k⟩:=h
 refine⟨Y,F,ab,(Rk.bind k).imp λxs _ q J B V H1 s1 M r=>?_⟩
 cases t:compL fs ft fe (cX js Y) xs with
 | bad=>rw[t]at q;exact q.elim
 | ex e=>exact absurd t pG
 | ok ys=>
  rw[t]at q
  refine aO7 (n:=xs.length) (λi b H'=>∃ F',Ext V H1 F' H'/\b.length<=i/\∃ zs rest,DatVs c.K F' b zs/\compL fs ft fe (cX js Y) (xs.drop i)=.ok rest/\zs++rest=ys) r.len ⟨V,Ext.refl s1.fh,AK _,[],ys,.nil,t,rfl⟩ ?_ ?_ ?_ ?_ ?_
  .rintro i b H' _ ⟨F',_,h,_⟩;exact h
  .rintro i b H' d ⟨F',e1,_⟩
   exact r.go i F' H' e1.ff e1.fh (λa o z=>e1.hh a o (M a o z)) d
  .rintro b H' ⟨F',e1,_⟩
   exact r.stop F' H' e1.ff e1.fh (λa o z=>e1.hh a o (M a o z))
  .rintro i v b Ha Hb d ⟨F',e1,hlen,zs,rest,hd,hr,hz⟩ hy
   obtain⟨u,e2,rx⟩:=r.yld i F' Ha v Hb xs[i] e1.ff e1.fh (λa o z=>e1.hh a o (M a o z)) hy (AI d)
   have O:xs.drop i=xs[i]::xs.drop (i+1):=G4 d
   rw[O]at hr
   obtain⟨D,bb,hs,ht,f⟩:=aGR hr
   intro cl C s H0 fp
   obtain⟨g,hg,P,I,he⟩:=hb cl C s H0 fp
   refine⟨g,_,_,hg,I,he,λT k0=>?_⟩
   have S:Ab c (cX js Y) T u Hb:=(ab.ext (s1.trans (e1.trans e2))).cap ho k0
   refine P v xs[i] _ D T u Hb _ S rx hs λZ1 G x l=>⟨aLY k0 G x hi,D,u,l,?_⟩
   rw[ht]
   intro U H3 m
   rcases f with ⟨rfl,y,ws,A,j,rfl⟩|⟨rfl,j⟩
   .refine xU ⟨D,U,l.ext m,?_⟩
    rw[A]
    intro w F4 H4 W L
    refine⟨F4,e1.trans (e2.trans (m.trans W)),by rw[AY,BJ];ext,zs++[y],ws,(hd.same (e2.trans (m.trans W)).ff).append (.cons L .nil),j,by rw[DW];exact hz⟩
   .exact xT ⟨U,e1.trans (e2.trans m),by ext,zs,rest,hd.same (e2.trans m).ff,j,hz⟩
  .rintro b H' ⟨F',e1,_,zs,rest,hd,hr,hz⟩ p hp
   rw[List.drop_length]at hr
   cases hr
   rw[C8]at hz
   subst hz
   exact Rk.ok q (.ref p) F' _ (s1.trans (e1.trans (Ext.own e1.fh hp))) ⟨p,b,rfl,aP (s1.trans e1).hh hp,aL,aP e1.fh hp,hd⟩
theorem aPW{fi:Sg->R (L9 Dz)}{fs:Dz->Sg->O9 Sg}{ft:Sg->R Bool}{fe:Sg->R Dz}(h:PE X e (wA X N scope js tg elt ifs (tI c E fi)))(d:js.Pairwise λa b=>a=none\/a≠b)(hi:∀ i∈is,js[i]? = some none)
 (hb:∀ (cl:L9 (Str×Az)) (C:Az) (s:S9) (H0:Hp) (fp:L9 Az),∃ g,PG (dZ X N scope cl C s H0 fp) tg g/\Tg c g fs is/\L2.PIf (dZ X N scope cl C s H0 fp) ifs (tTf c E0 ft)/\PD (dZ X N scope cl C s H0 fp) c E0 elt fe) :
 PN X c E e (cA js fi fs ft fe):=PE.imp h λZ H Q q=>zU (wN d) hi hb q
theorem aPX{fi:Sg->R (L9 Dz)}{fs:Dz->Sg->O9 Sg}{ft:Sg->R Bool}{fe:Sg->R Dz}(h:PS X st (kD (wA X N scope js tg elt ifs (tI c E fi)) (i6 i)))(d:js.Pairwise λa b=>a=none\/a≠b)(hi:∀ i∈is,js[i]? = some none)
 (hb:∀ (cl:L9 (Str×Az)) (C:Az) (s:S9) (H0:Hp) (fp:L9 Az),∃ g,PG (dZ X N scope cl C s H0 fp) tg g/\Tg c g fs is/\L2.PIf (dZ X N scope cl C s H0 fp) ifs (tTf c E0 ft)/\PD (dZ X N scope cl C s H0 fp) c E0 elt fe) :
 PSf X c E st (cO i (cA js fi fs ft fe)):=sP (PS.imp h λD Z H q=>zU (wN d) hi hb q)
end
noncomputable def fH(fs:Dz->Sg->O9 Sg)(fb:Sg->R Fw):L9 Dz->Sg->R Fw
 | [],Y=>.ok (.nx Y)
 | x::t,Y=>(yF (fs x Y)).bind λY1=>(fb Y1).bind λw=>match w with
  | .nx Y2=>fH fs fb t Y2
  | .ct Y2=>fH fs fb t Y2
  | .bk Y2=>.ok (.nx Y2)
  | .rt a=>.ok (.rt a)
def fI(fi:Sg->R (L9 Dz))(fs:Dz->Sg->O9 Sg)(fb:Sg->R Fw):Sg->R Fw:=λY=>(fi Y).bind λxs=>fH fs fb xs Y
section
variable{X:Cx}{c:Ct}{E:XK}{e a b:E2}{pos:Pos}{st:Stmt}
theorem cY{g:TG}{fi:Sg->R (L9 Dz)}{fs:Dz->Sg->O9 Sg}{fb:Sg->R Fw}(G:Tg c g fs is)(h:PS X st (aSU (tI0 c E fi) g (tSf c E fb))):PSf X c E st (fI fi fs fb):=PS.imp h λD Z H A=>by
 obtain⟨Y,F,ab,k⟩:=A
 refine⟨Y,F,ab,(Rk.bind k).imp λxs _ q J x H1 s1 p=>?_⟩
 refine⟨λi m Z H=>m=xs.length - i/\i<=xs.length/\∃ Y' b,aC x b/\Ab c Y' Z b H/\Rk c E b H (fH fs fb (xs.drop i) Y') (iH c F D),⟨xs.length,by simp,B8 _,Y,x,a7 _,ab.ext s1,Rk.ext s1 q⟩,?_⟩
 rintro i m B H2 ⟨rfl,hi,Y2,F2,s2,ab2,k2⟩
 by_cases f:i < xs.length
 .refine .inr ⟨p.go i F2 H2 s2 ab2.fh qW f,λj H'=>∃ Y' b,aC x b/\Ab c Y' j b H'/\Rk c E b H' (fH fs fb (xs.drop (i+1)) Y') (iH c F D),λj H' w=>⟨xs.length - (i+1),by ext,rfl,f,w⟩,λv H3 y=>?_⟩
  obtain⟨s,n,I⟩:=p.yld i F2 H2 v H3 xs[i] s2 ab2.fh qW y (AI f)
  have u:xs.drop i=xs[i]::xs.drop (i+1):=G4 f
  rw[u]at k2
  unfold fH at k2
  cases h1:fs xs[i] Y2 with
  | none=>rw[h1]at k2;exact k2.elim
  | some Y3=>
   rw[h1]at k2
   refine G v xs[i] Y2 Y3 B s H3 _ (ab2.ext n) I h1 λK _ _ t=>⟨Y3,s,t,?_⟩
   have k3:Rk c E F2 H2 (fb Y3) _:=Rk.bind k2
   cases h2:fb Y3 with
   | bad=>rw[h2]at k3;exact k3.elim
   | ex e=>rw[h2]at k3;exact k3
   | ok w=>
    rw[h2]at k3
    have l:=Rk.ok k3
    have C:aC F s:=λa o z=>n.ff a o (s2 a o (s1.ff a o z))
    cases w with
    | nx Y4=>exact λj b H' s' d=>⟨Y4,b,λa o z=>s' a o (n.ff a o (s2 a o z)),d,l⟩
    | ct Y4=>exact λj b H' s' d=>⟨Y4,b,λa o z=>s' a o (n.ff a o (s2 a o z)),d,l⟩
    | bk Y4=>exact λj b H' s' d=>Rk.ok l j b H' (λa o z=>s' a o (C a o z)) d
    | rt a=>exact λv b H' z r=>Rk.ok l v b H' z r
 .have e:i=xs.length:=by ext
  subst e
  rw[List.drop_length]at k2
  exact .inl ⟨p.stop F2 H2 s2 ab2.fh qW,Rk.ok k2 B F2 H2 (λa o z=>s2 a o (s1.ff a o z)) ab2⟩
end
noncomputable def bY(t:Sg->R Bool)(b:Sg->R Fw):Nat->Sg->R Fw
 | 0,_=>.bad
 | n+1,Y=>(t Y).bind λk=>if k=true then(b Y).bind λw=>match w with
   | .nx Y'=>bY t b n Y'
   | .ct Y'=>bY t b n Y'
   | .bk Y'=>.ok (.nx Y')
   | .rt a=>.ok (.rt a)
  else .ok (.nx Y)
open Classical in
def bD(t:Sg->R Bool)(b:Sg->R Fw):Sg->R Fw:=λY=>if h:∃ n,bY t b n Y≠.bad then bY t b h.choose Y else .bad
theorem R.bind_mono{α β:Type}{r:R α}{f g:α->R β}(h:r.bind f≠.bad)(b:∀ a,f a≠.bad->g a=f a):r.bind g=r.bind f:=by
 cases r with
 | bad=>rfl
 | ex e=>rfl
 | ok a=>exact b a h
theorem k7{t:Sg->R Bool}{b:Sg->R Fw}:∀ {n m:Nat} {Y:Sg},n<=m->bY t b n Y≠.bad->bY t b m Y=bY t b n Y
 | 0,_,_,_,h=>absurd rfl h
 | n+1,0,_,hm,_=>absurd hm (by ext)
 | n+1,m+1,Y,hm,h=>by
  unfold bY at h ⊢
  refine R.bind_mono h λk hk=>?_
  cases k with
  | false=>rfl
  | true=>
   refine R.bind_mono (r:=b Y) hk λw c=>?_
   cases w with
   | nx Y'=>exact k7 (by ext) c
   | ct Y'=>exact k7 (by ext) c
   | bk Y'=>rfl
   | rt a=>rfl
theorem qY{t:Sg->R Bool}{b:Sg->R Fw}{Y:Sg}{n:Nat}(h:bY t b n Y≠.bad):bD t b Y=bY t b n Y:=by
 have a:∃ n,bY t b n Y≠.bad:=⟨n,h⟩
 unfold bD
 rw[dif_pos a]
 have c:=a.choose_spec
 rcases Nat.le_total n a.choose with q|q
 · exact k7 q h
 · exact(k7 q c).symm
theorem qZ (t : Sg -> R Bool) (b : Sg -> R Fw) (Y : Sg) : bD t b Y = (t Y).bind λk => if k = true then(b Y).bind λw => match w with
      | .nx Y' => bD t b Y'
      | .ct Y' => bD t b Y'
      | .bk Y' => .ok (.nx Y')
      | .rt a => .ok (.rt a)
    else .ok (.nx Y) := by
  have m : ∀ n, (∀ k, t Y = .ok k -> k = true -> ∀ w, b Y = .ok w -> ∀ Y', (w = .nx Y' \/ w = .ct Y') -> bD t b Y' = bY t b n Y') -> bY t b (n + 1) Y = (t Y).bind λk => if k = true then(b Y).bind λw => match w with
      | .nx Y' => bD t b Y'
      | .ct Y' => bD t b Y'
      | .bk Y' => .ok (.nx Y')
      | .rt a => .ok (.rt a)
    else .ok (.nx Y) := by
    intro n h
    unfold bY
    cases d : t Y with
    | bad => rfl
    | ex e => rfl
    | ok k =>
      cases k with
      | false => rfl
      | true =>
        show((b Y).bind _) = ((b Y).bind _)
        cases f : b Y with
        | bad => rfl
        | ex e => rfl
        | ok w =>
          cases w with
          | nx Y' => exact(h true d rfl _ f Y' (.inl rfl)).symm
          | ct Y' => exact(h true d rfl _ f Y' (.inr rfl)).symm
          | bk Y' => rfl
          | rt a => rfl
  by_cases j : ∃ n, bY t b n Y ≠ .bad
  · obtain⟨n, i⟩ := j
    cases n with
    | zero => exact absurd rfl i
    | succ n =>
      rw [qY i]
      refine m n λk d o w f Y' l => ?_
      subst o
      refine qY λz => i ?_
      unfold bY
      rw [d]
      show((b Y).bind _) = _
      rw [f]
      rcases l with rfl | rfl
      · exact z
      · exact z
  · have p : bD t b Y = .bad := by unfold bD; rw [dif_neg j]
    rw [p]
    have c : ∀ n, bY t b n Y = .bad := λn => B9 λz => j ⟨n, z⟩
    cases d : t Y with
    | bad => rfl
    | ex e => have := c 1; unfold bY at this; rw [d]at this; cases this
    | ok k =>
      cases k with
      | false => have := c 1; unfold bY at this; rw [d]at this; cases this
      | true =>
        show R.bad = ((b Y).bind _)
        cases f : b Y with
        | bad => rfl
        | ex e => have := c 1; unfold bY at this; rw [d]at this; change ((b Y).bind _) = _ at this; rw [f]at this; cases this
        | ok w =>
          have g : ∀ Y', (w = .nx Y' \/ w = .ct Y') -> bD t b Y' = .bad := λY' l => by
            unfold bD
            rw [dif_neg]
            rintro ⟨n, i⟩
            refine i ?_
            have := c (n + 1)
            unfold bY at this
            rw [d]at this
            change ((b Y).bind _) = _ at this
            rw [f]at this
            rcases l with rfl | rfl <;> exact this
          cases w with
          | nx Y' => exact(g Y' (.inl rfl)).symm
          | ct Y' => exact(g Y' (.inr rfl)).symm
          | bk Y' => have := c 1; unfold bY at this; rw [d]at this; change ((b Y).bind _) = _ at this; rw [f]at this; cases this
          | rt a => have := c 1; unfold bY at this; rw [d]at this; change ((b Y).bind _) = _ at this; rw [f]at this; cases this
section
variable{X:Cx}{c:Ct}{E:XK}{st:Stmt}
theorem mE{t:Sg->R Bool}{fb:Sg->R Fw}(h:PS X st (aHS (tTf c E t) (tSf c E fb))):PSf X c E st (bD t fb):=PS.imp h λD Z H u=>by
 obtain⟨Y,F,ab,k⟩:=u
 have y:∃ n,bY t fb n Y≠.bad:=B9 λz=>by
  have:bD t fb Y=.bad:=by unfold bD;rw[dif_neg z]
  rw[this]at k
  exact k
 obtain⟨n,A⟩:=y
 rw[qY A]at k
 refine⟨λm Z H=>∃ Y' d,aC F d/\Ab c Y' Z d H/\Rk c E d H (bY t fb m Y') (iH c F D),⟨n,Y,F,a7 F,ab,k⟩,?_⟩
 rintro m x H1 ⟨Y1,F1,s1,ab1,k1⟩
 cases m with
 | zero=>exact k1.elim
 | succ m=>
  unfold bY at k1
  refine⟨Y1,F1,ab1,(Rk.bind k1).imp λb _ q p H2 e2=>?_⟩
  have j:=ab1.ext e2
  cases b with
  | false=>exact xT (Rk.ok q x p H2 (λa o z=>e2.ff a o (s1 a o z)) j)
  | true=>
   refine xU ⟨λg H'=>∃ Y' d,aC F d/\Ab c Y' g d H'/\Rk c E d H' (bY t fb m Y') (iH c F D),λg H' w=>⟨m,by ext,w⟩,Y1,p,j,?_⟩
   have i:Rk c E F1 H1 (fb Y1) _:=Rk.bind (r:=fb Y1) q
   cases h2:fb Y1 with
   | bad=>rw[h2]at i;exact i.elim
   | ex e=>rw[h2]at i;exact i
   | ok w=>
    rw[h2]at i
    have l:=Rk.ok i
    have s:aC F p:=λa o z=>e2.ff a o (s1 a o z)
    cases w with
    | nx Y4=>exact λg d H' s' f=>⟨Y4,d,λa o z=>s' a o (s a o z),f,l⟩
    | ct Y4=>exact λg d H' s' f=>⟨Y4,d,λa o z=>s' a o (s a o z),f,l⟩
    | bk Y4=>exact λg d H' s' f=>Rk.ok l g d H' (λa o z=>s' a o (s a o z)) f
    | rt a=>exact λv d H' z r=>Rk.ok l v d H' z r
end
def spG(K:Frag)(mg:Str->O9 V9)(T F1:Hp)(n:Nat)(G:L9 Dz->R Dz):Sp:=λvs H Q E=>∃ F ds,aC F1 F/\aC T F/\aC F H/\DatVs K F vs ds/\ds.length=n/\match G ds with
 | .bad=>False
 | .ok d=>∀ v F' H',Ext F H F' H'->DatV K F' v d->Q v H'
 | .ex e=>∀ a C F' H',Ext F H F' H'->kG K mg F' e a C->E (.ref C) (some a) H'
def Beh(P:P9)(w:W9)(K:Frag)(mg:Str->O9 V9)(base:Hz)(T:Hp)(f:Az)(F1:Hp)(k n:Nat)(G:L9 Dz->R Dz):Prop:=
 ∃ fd ps,ps.length=n/\jX K fd ps []/\FnOk P w K mg base (CXe P w) k f fd ps (spG K mg T F1 n G)/\(keepIn K (.ref f)=true\/∃ oc od fd' sl,F1 f=some (FnO f ⟨oc,od,.func fd',sl⟩))
def gOf(P:P9)(w:W9)(K:Frag)(mg:Str->O9 V9)(base:Hz)(T:Hp):Gb:=⟨Beh P w K mg base T,T,w⟩
def spF(g:Gb)(K:Frag)(mg:Str->O9 V9)(n:Nat)(G:L9 A->R A):Sp:=λvs H Q E=>∃ F as,aC g.T F/\aC F H/\AFs g K mg F as vs/\as.length=n/\match G as with
 | .bad=>False
 | .ok a=>∀ v F' H',Ext F H F' H'->AF g K mg F' a v->Q v H'
 | .ex e=>∀ a C F' H',Ext F H F' H'->kG K mg F' e a C->E (.ref C) (some a) H'
def bI(P:P9)(w:W9)(K:Frag)(mg:Str->O9 V9)(base:Hz)(T:Hp)(k:Nat)(x:Str)(ps:L9 Str)(G:L9 A->R A):Prop:=Calls P w K mg base (CXe P w) k x ps (spF (gOf P w K mg base T) K mg ps.length G)
def aG(n:Nat)(G:L9 A->R A)(f:Sg->R (L9 A)):Sg->R A:=λY=>(f Y).bind λas=>if as.length=n then G as else .bad
theorem aWK{X:Cx}{c:Ct}{E:XK}{e:E2}{n:Nat}{G:L9 A->R A}{g:Gb}{K:Frag}{mg:Str->O9 V9}{f:Sg->R (L9 A)}(hG:g=c.g)(p:K=c.K)(hM:mg=c.mg)(h:PE X e (aF3 (spF g K mg n G) [] E (tAv c E f))):PV X c E e (aG n G f):=PE.imp h λZ H Q l=>by
 obtain⟨Y,F,ab,k⟩:=l
 subst hG p hM
 refine⟨Y,F,ab,(Rk.bind k).imp λi _ q vs m H1 s1 r1=>?_⟩
 by_cases j:i.length=n
 .rw[AN j]at q
  refine⟨m,i,λa o z=>s1.ff a o (ab.f0 a o (ab.t0 a o z)),s1.fh,by rw[C8];exact r1,j,?_⟩
  cases d:G i with
  | bad=>rw[d]at q;exact q
  | ok a=>rw[d]at q;exact λv b H' s r=>Rk.ok q v b H' (s1.trans s) r
  | ex e=>rw[d]at q;exact λa C b H' s r=>q a C b H' ((ab.all.trans s1).trans s) r
 .rw[AL j]at q;exact q.elim
def fnF(n:Nat)(fb:Sg->R Fw):L9 A->R A:=λas=>(fb (as.map some++replicate (n - as.length) none)).bind λw=>match w with
 | .rt (.l _)=>.bad
 | .rt a=>.ok a
 | .nx _=>.ok (.d .none)
 | _=>.bad
theorem AFs.get{g:Gb}{K:Frag}{mg:Str->O9 V9}{F:Hp}:∀ {as:L9 A} {vs:L9 V} {i:Nat} {a:A},AFs g K mg F as vs->as[i]? = some a->∃ v,vs[i]? = some v/\AF g K mg F a v
 | [],[],_,_,_,h=>by simp at h
 | a::as,v::vs,0,_,h,e=>by simp at e;subst e;exact⟨v,rfl,h.1⟩
 | a::as,v::vs,i+1,_,h,e=>by
  obtain⟨w,h1,h2⟩:=AFs.get (i:=i) h.2 (by simpa using e)
  exact⟨w,by simpa using h1,h2⟩
theorem q9{α:Type}{b:L9 α}{n i:Nat}{a:α}(h:(b.map some++replicate n none)[i]? = some (some a)):b[i]? = some a:=by ext
theorem aBY{g:Gb}{c:L9 (Str×Az)}{cls:Str->O9 ClSt}{K:Frag}{mg:Str->O9 V9}{w:W9}{F H:Hp}{d:L9 A}{vs:L9 V}{n:Nat}(f:aC g.T F)(s:aC F H)(h:AFs g K mg F d vs):Ab ⟨K,mg,w,F,H,g,c,cls⟩ (d.map some++replicate (n - d.length) none) (vs.map some++replicate (n - vs.length) none) F H where
 len:=by rw[AY,AY,AB,AB,DQ,DQ,h.len]
 fh:=s
 slot:=λi a e=>by
  obtain⟨v,h1,h2⟩:=h.get (q9 e)
  refine⟨v,?_,AO.of h2⟩
  have hi:i < vs.length:=(AJ.mp h1).1
  rw[BN (by rw[AB];exact hi),AC,h1];rfl
 apart:=λi j a b _ e1 _ o _=>by
  obtain⟨v,h1,h2⟩:=h.get (q9 e1)
  rw[AF.notOwn h2]at o
  cases o
 f0:=a7 F
 h0:=a7 H
 n0:=λa e n=>absurd e n
 t0:=f
theorem sQ{g:Gb}{c:L9 (Str×Az)}{cls:Str->O9 ClSt}{K:Frag}{mg:Str->O9 V9}{w:W9}{n:Nat}{fb:Sg->R Fw}{vs:L9 V}{d:L9 A}{F H:Hp}{Q:VK}{E:XK}(h0:aC g.T F)(h1:aC F H)(h2:AFs g K mg F d vs)(b:match fnF n fb d with
 | .bad=>False
 | .ok a=>∀ v F' H',Ext F H F' H'->AF g K mg F' a v->Q v H'
 | .ex e=>∀ a C F' H',Ext F H F' H'->kG K mg F' e a C->E (.ref C) (some a) H'):tSf ⟨K,mg,w,F,H,g,c,cls⟩ E fb {nx:=λ_ H'=>Q .non H',rt:=Q} (vs.map some++replicate (n - vs.length) none) H:=by
 refine⟨_,F,aBY h0 h1 h2,?_⟩
 unfold fnF at b
 cases e:fb (d.map some++replicate (n - d.length) none)with
 | bad=>rw[e]at b;exact b
 | ex x=>rw[e]at b;exact b
 | ok w=>
  rw[e]at b
  cases w with
  | nx Y'=>exact λf F' H' s ab=>b .non F' H' ab.all .non
  | rt a=>
   cases a with
   | l xs=>exact b.elim
   | _=>exact b
  | bk Y'=>exact b.elim
  | ct Y'=>exact b.elim
section
variable{P:P9}{w:W9}{K:Frag}{mg:Str->O9 V9}{base:Hz}{T:Hp}{x:Str}{st:Stmt}{N ps:L9 Str}{k:Nat}
theorem aTW{fb:Sg->R Fw}(D:DefAt K mg x st ps)(S:FnScope N ps (aI st))
  (a:∀ (f:Az) (cdv:V9) (A:U9) (outer:L9 Env) (s:S9) (H F:Hp) (E:XK),Room k (A.deeper (envOfC x (aI st) s.heap.objs.size f cdv))->
   lL ((iX (CXe P w) P w K mg base N x (aI st) f cdv A outer s H E).fly E) ⟨K,mg,w,F,H,gOf P w K mg base T,(envOfC x (aI st) s.heap.objs.size f cdv).cells,λ_=>none⟩ E (bF st) fb):bI P w K mg base T (k+1) x ps (fnF N.length fb):=by
 refine D.okX S (λvs H Q E h=>?_) (λf cdv A outer s H vs Q E hr h=>?_)
 .obtain ⟨F,d,_,_,h2,b,_⟩:=h
  rw[h2.len,b]
 .obtain ⟨F,d,e,h1,h2,b,c⟩:=h
  exact⟨_,a f cdv A outer s H F E hr,sQ e h1 h2 c⟩
theorem bI.imp{G a:L9 A->R A}(C:bI P w K mg base T k x ps G)(h:∀ as,a as≠.bad->G as=a as):bI P w K mg base T k x ps a:=Calls.imp C λvs H Q E=>by
 rintro ⟨F,as,h0,h1,h2,h3,h4⟩
 refine⟨F,as,h0,h1,h2,h3,?_⟩
 ext
end
def tPf(c:Ct)(E:XK)(f:Sg->R (O9 Int)):TO:=λZ H Q=>∃ Y F,Ab c Y Z F H/\Rk c E F H (f Y) λo=>∀ F' H',Ext F H F' H'->Q o H'
noncomputable def oNo:Sg->R (O9 Int):=λ_=>.ok none
def oSo(f:Sg->R Dz):Sg->R (O9 Int):=λY=>(f Y).bind λx=>match x with
 | .int i=>.ok (some i)
 | _=>.bad
noncomputable def kI{α:Type}(xs:L9 α)(lo hi:O9 Int):L9 α:=(xs.drop (HT.sIx xs.length 0 lo)).take (HT.sIx xs.length xs.length hi - HT.sIx xs.length 0 lo)
noncomputable def dSl:Dz->O9 Int->O9 Int->R Dz
 | .list xs,lo,hi=>.ok (.list (kI xs lo hi))
 | .tuple xs,lo,hi=>if ¬ (HT.sIx xs.length 0 lo=0/\HT.sIx xs.length xs.length hi=xs.length)then .ok (.tuple (kI xs lo hi))else .bad
 | .str z,lo,hi=>if z.length<=16777216 then .ok (.str (Txt.slice z lo hi))else .bad
 | _,_,_=>.bad
def eSl{α:Type}(g:Dz->O9 Int->O9 Int->R α)(f:Sg->R Dz)(lo hi:Sg->R (O9 Int)):Sg->R α:=λY=>(f Y).bind λx=>(lo Y).bind λl=>(hi Y).bind λh=>g x l h
theorem aBZ{K:Frag}{F:Hp}{vs:L9 V}{xs:L9 Dz}(h:DatVs K F vs xs)(lo hi:O9 Int):DatVs K F (qM vs lo hi) (kI xs lo hi):=by
 unfold qM kI
 rw[h.length]
 exact(h.drop _).take _
theorem PO.imp{X:Cx}{e:O9 E2}{t t':TO}(h:PO X e t)(i:∀ Z H Q,t' Z H Q->t Z H Q):PO X e t':=λap s Z H Q I q=>h ap s Z H Q I (i Z H Q q)
section
variable{X:Cx}{c:Ct}{E:XK}{e a b:E2}{pos p2:Pos}{lo hi:O9 E2}
theorem aN9:PO X none (tPf c E oNo):=PO.imp aOZ λZ H Q ⟨Y,F,ab,k⟩=>Rk.ok k F H (Ext.refl ab.fh)
theorem aWL{f:Sg->R Dz}(h:PR X c E e f):PO X (some e) (tPf c E (oSo f)):=PO.imp (aO0 h) λZ H Q ⟨Y,F,ab,k⟩=>⟨Y,F,ab,(Rk.bind k).imp λx _ q v a H' s r=>by
 cases x with
 | int i=>exact⟨i,aM.int_of r,Rk.ok q a H' s⟩
 | _=>exact q.elim⟩
def aLZ(c:Ct)(Rb:VR α)(g:Dz->O9 Int->O9 Int->R α):V->O9 Int->O9 Int->Hp->VK->Prop:=λv lo hi H Q=>∃ F x d,aC F H/\aM c.K F H v x/\g x lo hi=.ok d/\∀ w F' H',Ext F H F' H'->Rb d w H F' H'->Q w H'
theorem aWM(o:X.K=c.K):SlR X (aLZ c (bC c) dSl):=by
 intro ap s Z H v x k i lo hi sl Q I j g n m h
 obtain⟨F,d,w,b,f,a,q⟩:=h
 unfold dSl at a
 split at a
 .cases a
  obtain⟨p,vs,rfl,h1,h2⟩:=aM.lst_of b f
  rw[<-o]at h1
  exact aO4 ap s Z H _ x k i lo hi sl Q I j g n m ⟨p,vs,rfl,h1,λl e=>q _ _ _ (Ext.new b e) (.lst (SqL.of aL) ((aBZ h2 lo hi).same (aC.upd (aP b e))))⟩
 .rename_i xs _ _
  split at a
  .rename_i t
   cases a
   obtain⟨p,vs,rfl,_,h1,h2⟩:=aM.tup_of b f
   rw[<-o]at h1
   exact aS6 ap s Z H _ x k i lo hi sl Q I j g n m ⟨p,vs,rfl,h1,by rw[h2.length];exact t,λl e=>q _ _ _ (Ext.new b e) (.tup (SqT.of aL) ((aBZ h2 lo hi).same (aC.upd (aP b e))))⟩
  .cases a
 .split at a
  .rename_i r
   cases a
   obtain rfl:=aM.str_of f
   exact aH6 ap s Z H _ x k i lo hi sl Q I j g n m ⟨_,rfl,by rw[bX];exact r,q _ F H (Ext.refl b) (.str _)⟩
  .cases a
 .cases a
theorem aEN{Rb:VR α}{g:Dz->O9 Int->O9 Int->R α}(p:∀ x l h e,g x l h≠.ex e)(o:aBP Rb){f:Sg->R Dz}{m fh:Sg->R (O9 Int)}{Z:L2.St}{H:Hp}{Q:VK}(h:tV Rb c E (eSl g f m fh) Z H Q) :
  tSl (aLZ c Rb g) (tV (aU c) c E f) (tPf c E m) (tPf c E fh) Z H Q:=by
 obtain⟨Y,F,ab,k⟩:=h
 refine⟨Y,F,ab,(Rk.bind k).imp λx _ q v y H1 s1 r1=>⟨Y,y,ab.ext s1,((Rk.bind q).ext s1).imp λl _ q n H2 i=>⟨Y,n,ab.ext (s1.trans i),((Rk.bind q).ext (s1.trans i)).imp λhh _ q t H3 j=>?_⟩⟩⟩
 cases b:g x l hh with
 | bad=>rw[b]at q;exact q.elim
 | ex e=>exact absurd b (p x l hh e)
 | ok d=>
  rw[b]at q
  have a:=(s1.trans i).trans j
  exact⟨t,x,d,j.fh,aM.ext (i.trans j) r1,b,λw u H' s r=>Rk.ok q w u H' (a.trans s) (o _ _ _ _ _ _ a.hh r)⟩
theorem aL0:∀ x l h e,dSl x l h≠.ex e:=by intro x l h e q;unfold dSl at q;split at q<;>(try split at q)<;>cases q
theorem aL1{f:Sg->R Dz}{a fh:Sg->R (O9 Int)}(g:X.K=c.K)(d:PR X c E e f)(b:PO X lo (tPf c E a))(i:PO X hi (tPf c E fh)):PD X c E (.Subscript e (.Slice lo hi none p2) pos) (eSl dSl f a fh):=
 PE.imp (aA5 (aWM g) d b i) λZ H Q h=>aEN aL0 (j2 c) h
noncomputable def tyN:Dz->String
 | .none=>"NoneType"
 | .bool _=>"bool"
 | .int _=>"int"
 | .str _=>"str"
 | .list _=>"list"
 | .tuple _=>"tuple"
 | .dict _=>"dict"
noncomputable def jA(t T:String):Bool:=t == T || (T == "int" && t == "bool")
noncomputable def g9(T:String)(x:Dz):R Dz:=match x with
 | .dict _=>.bad
 | x=>.ok (.bool (jA (tyN x) T))
structure Kit(K:Frag)(T:String):Prop where
 non:kitOne K (.type "NoneType") (.type T)=some (jA "NoneType" T)
 bl:kitOne K (.type "bool") (.type T)=some (jA "bool" T)
 int:kitOne K (.type "int") (.type T)=some (jA "int" T)
 str:kitOne K (.type "str") (.type T)=some (jA "str" T)
 lst:kitOne K (.type "list") (.type T)=some (jA "list" T)
 tup:kitOne K (.type "tuple") (.type T)=some (jA "tuple" T)
theorem aPY(K:Frag):Kit K "str":=⟨rfl,rfl,rfl,rfl,rfl,rfl⟩
def aL2(c:Ct)(T:String):L9 V->Hp->VK->Prop:=λxs H Q=>∃ F x v d,xs=[v,.ty T]/\aC F H/\aM c.K F H v x/\g9 T x=.ok d/\∀ w F' H',Ext F H F' H'->DatV c.K F' w d->Q w H'
theorem aTX{T:String}{f:Sg->R Dz}(h:PE X e (tCB (aL2 c T) (b9 (tV (aU c) c E f) (b9 (tC (.ty T)) eJ)))):PD X c E e (e1 (g9 T) f):=PE.imp h λZ H Q d=>by
 obtain⟨Y,F,ab,k⟩:=d
 refine⟨Y,F,ab,(Rk.bind k).imp λx _ q v b H1 s1 r1=>?_⟩
 show aL2 c T [v,.ty T] H1 Q
 cases x with
 | dict _=>exact q.elim
 | none=>exact⟨b,_,v,_,rfl,s1.fh,r1,rfl,λw a H' s r=>Rk.ok q w a H' (s1.trans s) r⟩
 | bool _=>exact⟨b,_,v,_,rfl,s1.fh,r1,rfl,λw a H' s r=>Rk.ok q w a H' (s1.trans s) r⟩
 | int _=>exact⟨b,_,v,_,rfl,s1.fh,r1,rfl,λw a H' s r=>Rk.ok q w a H' (s1.trans s) r⟩
 | str _=>exact⟨b,_,v,_,rfl,s1.fh,r1,rfl,λw a H' s r=>Rk.ok q w a H' (s1.trans s) r⟩
 | list _=>exact⟨b,_,v,_,rfl,s1.fh,r1,rfl,λw a H' s r=>Rk.ok q w a H' (s1.trans s) r⟩
 | tuple _=>exact⟨b,_,v,_,rfl,s1.fh,r1,rfl,λw a H' s r=>Rk.ok q w a H' (s1.trans s) r⟩
noncomputable def lM:L9 Dz->O9 (L9 Str)
 | []=>some []
 | .str s::t=>(lM t).map (s :: ·)
 | _=>none
theorem oF{F:Hp}:∀ {vs:L9 V} {xs:L9 Dz} {ys:L9 Str},DatVs K F vs xs->lM xs=some ys->vs=ys.map V.str
 | _,_,ys,.nil,e=>by cases e;rfl
 | _,_,ys,.cons (d:=d) (ds:=t) h h2,e=>by
  cases d with
  | str b=>
   unfold lM at e
   cases q:lM t with
   | none=>rw[q]at e;cases e
   | some cs=>
    rw[q]at e
    cases e
    rw[oF h2 q,h.str_of];rfl
  | _=>cases e
noncomputable def sR:Dz->Dz->R Dz
 | .str sep,.list xs=>match lM xs with
  | some ys=>if (ys.map λy=>y.length).sum+ys.length * sep.length<=16777216 then .ok (.str (Txt.join sep ys))else .bad
  | none=>.bad
 | _,_=>.bad
theorem aEO{f g:Sg->R Dz}(n:X.K=c.K)(h:PE X e (tBM X.K "str" (aN2 X.K) (tV (aU c) c E f) (b9 (tV (aU c) c E g) eJ)))(o:∀ Y x,f Y=.ok x->∃ z,x=.str z):PD X c E e (e2 sR f g):=PE.imp h λZ H Q ⟨Y,F,ab,k⟩=>by
 refine⟨Y,F,ab,(Rk.bind k).imp λx ex q v m H1 s1 r1=>?_⟩
 obtain⟨z,rfl⟩:=o Y x ex
 obtain rfl:=aM.str_of r1
 refine⟨rfl,Y,m,ab.ext s1,((Rk.bind q).ext s1).imp λy _ q u l H2 b r2=>?_⟩
 cases y with
 | list xs=>
  have a:Rk c E F H (match lM xs with
   | some ys=>if (ys.map λy=>y.length).sum+ys.length * z.length<=16777216 then R.ok (PyData.str (Txt.join z ys))else .bad
   | none=>.bad) (λd=>∀ v F' H',Ext F H F' H'->bC c d v H F' H'->Q v H'):=q
  split at a
  .rename_i ys j
   split at a
   .rename_i i
    obtain⟨p,vs,rfl,h1,h2⟩:=aM.lst_of b.fh r2
    rw[<-n]at h1
    obtain rfl:=oF h2 j
    exact⟨z,p,ys,rfl,rfl,h1,i,Rk.ok a _ l H2 (s1.trans b) (.str _)⟩
   .exact a.elim
  .exact a.elim
 | _=>exact q.elim
noncomputable def oK:Dz->Dz->R Dz
 | .str z,.str y=>match Builtin.Str.occurrences z y 0 z.length 1 with
  | i::_=>.ok (.int i)
  | []=>.bad
 | _,_=>.bad
theorem aB0{f g:Sg->R Dz}(h:PE X e (tBM X.K "str" aH7 (tV (aU c) c E f) (b9 (tV (aU c) c E g) eJ)))(l:∀ Y x,f Y=.ok x->∃ z,x=.str z):PD X c E e (e2 oK f g):=PE.imp h λZ H Q ⟨Y,F,ab,k⟩=>by
 refine⟨Y,F,ab,(Rk.bind k).imp λx ex q v j H1 s1 r1=>?_⟩
 obtain⟨z,rfl⟩:=l Y x ex
 obtain rfl:=aM.str_of r1
 refine⟨rfl,Y,j,ab.ext s1,((Rk.bind q).ext s1).imp λy _ q u b H2 n r2=>?_⟩
 cases y with
 | str y=>
  have a:Rk c E F H (match Builtin.Str.occurrences z y 0 z.length 1 with
   | i::_=>R.ok (PyData.int i)
   | []=>.bad) (λd=>∀ v F' H',Ext F H F' H'->bC c d v H F' H'->Q v H'):=q
  split at a
  .rename_i i rest m
   obtain rfl:=aM.str_of r2
   exact⟨z,y,i,rest,rfl,rfl,m,Rk.ok a _ b H2 (s1.trans n) (.int _)⟩
  .exact a.elim
 | _=>exact q.elim
noncomputable def kJ:Nat->L9 Dz->L9 Dz
 | _,[]=>[]
 | i,x::t=>.tuple [.int i,x]::kJ (i+1) t
theorem pH:∀ (i:Nat) (xs:L9 Dz),(kJ i xs).length=xs.length
 | _,[]=>rfl
 | i,x::t=>by rw[kJ,A7,A7,pH]
theorem aB1:∀ (k i:Nat) (xs:L9 Dz),(kJ k xs)[i]? = (xs[i]?).map λx=>.tuple [.int ((k+i:Nat):Int),x]
 | k,i,[]=>by simp[kJ]
 | k,0,x::t=>by simp[kJ]
 | k,i+1,x::t=>by rw[kJ,BG,BG,aB1,show k+1+i=k+(i+1)by ext]
theorem aI6{F B:Hp}{z:Str}(hz:z.cps.toList.length<=16777216):Yld K (Ity z) F B (kJ 0 (z.cps.toList.map λu=>.str ⟨#[u]⟩)) where
 len:=by rw[bX,pH,AB];exact hz
 go:=λi b H1 h1 h2 a hi=>by
  rw[pH,AB,CA]at hi
  exact hi
 yld:=λi b H1 v H2 x h1 h2 a y e=>by
  obtain⟨p,u,d,rfl,rfl,c⟩:=y
  rw[aB1,AC,DU,c]at e
  cases e
  refine⟨_,Ext.new h2 d,.tup (SqT.of aL) (.cons ?_ (.cons (.str _) .nil))⟩
  rw[HF];exact .int _
 stop:=λb H1 h1 h2 a=>by
  show(kJ 0 _).length=z.cps.size
  rw[pH,AB,CA]
end
def cM(a0:L9 (Dz×Dz))(k:Dz):O9 Dz:=(a0.find? λp=>decide (p.1=k)).map (·.2)
def bJ(a0:L9 (Dz×Dz))(k:Dz):Bool:=(cM a0 k).isSome
def putM(a0:L9 (Dz×Dz))(k v:Dz):L9 (Dz×Dz):=if bJ a0 k=true then a0.map (λp=>if p.1=k then(p.1,v)else p)else a0++[(k,v)]
theorem yG{K:Frag}{F:Hp}{k:Dz}:∀ {es:L9 Ent} {a0:L9 (Dz×Dz)},es.map (·.1)=a0.map (·.1)->DatVs K F (es.map (·.2.2)) (a0.map (·.2))->
  (atE es k=none/\cM a0 k=none)\/∃ v d,atE es k=some v/\cM a0 k=some d/\DatV K F v d
 | [],[],_,_=>.inl ⟨rfl,rfl⟩
 | [],_::_,h,_=>by cases h
 | _::_,[],h,_=>by cases h
 | e::es,p::a0,h,r=>by
  rw[AU,AU]at h r
  injection h with h1 h2
  obtain⟨v,t,e1,r1,r2⟩:=r.cons_of
  rw[FV]at e1
  obtain⟨rfl,rfl⟩:=e1
  have a:=yG (k:=k) h2 r2
  unfold atE cM at a ⊢
  rw[DT,DT,h1]
  by_cases q:p.1=k
  · rw [A1 q]; exact .inr ⟨_, _, rfl, rfl, r1⟩
  · rw [BA q]; exact a
theorem MapRel.get{K:Frag}{F:Hp}{es:L9 Ent}{a:L9 (Dz×Dz)}(m:MapRel K F es a)(k:Dz):(atE es k=none/\cM a k=none)\/∃ v d,atE es k=some v/\cM a k=some d/\DatV K F v d:=yG m.k1 m.vs
theorem MapRel.has{K:Frag}{F:Hp}{es:L9 Ent}{c:L9 (Dz×Dz)}(m:MapRel K F es c)(k:Dz):(atE es k).isSome=bJ c k:=by
 unfold bJ
 rcases m.get k with ⟨a,b⟩|⟨v,d,a,b,_⟩<;>rw[a,b]<;>rfl
theorem kK{a:L9 (Dz×Dz)}{k:Dz}:bJ a k=true↔k∈a.map (·.1):=by
 unfold bJ cM
 simp_all
theorem aI7{a:L9 (Dz×Dz)}{k v:Dz}:(putM a k v).map (·.1)=if bJ a k=true then a.map (·.1)else a.map (·.1)++[k]:=by
 unfold putM
 cases h:bJ a k with
 | true=>
  rw[AN rfl,AN rfl,AZ]
  refine A9 λp _=>?_
  ext
 | false=>rw[AL (by decide),AL (by decide),BE];rfl
theorem aEP{K:Frag}{F:Hp}{k d:Dz}{v:V}(r:DatV K F v d):∀ {es:L9 Ent} {a0:L9 (Dz×Dz)},es.map (·.1)=a0.map (·.1)->DatVs K F (es.map (·.2.1)) (a0.map (·.1))->DatVs K F (es.map (·.2.2)) (a0.map (·.2))->
  (es.map λe=>if e.1=k then(e.1,e.2.1,v)else e).map (·.1)=(a0.map λp=>if p.1=k then(p.1,d)else p).map (·.1) /\
  DatVs K F ((es.map λe=>if e.1=k then(e.1,e.2.1,v)else e).map (·.2.1)) ((a0.map λp=>if p.1=k then(p.1,d)else p).map (·.1)) /\
  DatVs K F ((es.map λe=>if e.1=k then(e.1,e.2.1,v)else e).map (·.2.2)) ((a0.map λp=>if p.1=k then(p.1,d)else p).map (·.2))
 | [],[],_,_,_=>⟨rfl,.nil,.nil⟩
 | [],_::_,h,_,_=>by cases h
 | _::_,[],h,_,_=>by cases h
 | e::es,p::a0,h,rk,rv=>by
  rw[AU,AU]at h rk rv
  injection h with h1 h2
  obtain⟨_,_,e1,r1,r2⟩:=rk.cons_of
  rw[FV]at e1
  obtain⟨rfl,rfl⟩:=e1
  obtain⟨_,_,e1,f,g⟩:=rv.cons_of
  rw[FV]at e1
  obtain⟨rfl,rfl⟩:=e1
  obtain⟨c,a,b⟩:=aEP r h2 r2 g
  simp only[AU]
  rw[h1,c]
  by_cases q:p.1=k
  · rw [AN q, AN q]; exact⟨rfl, .cons r1 a, .cons r b⟩
  · rw [AL q, AL q]; exact⟨by rw [h1], .cons r1 a, .cons f b⟩
theorem MapRel.put{K:Frag}{F:Hp}{es:L9 Ent}{c:L9 (Dz×Dz)}{k d:Dz}{kv v:V}(m:MapRel K F es c)(g:DatV K F kv k)(r:DatV K F v d):MapRel K F (jZ es k kv v) (putM c k d):=by
 have l:=m.has k
 have nd:((putM c k d).map (·.1)).Nodup:=by
  rw[aI7]
  cases h:bJ c k with
  | true=>rw[AN rfl];exact m.nd
  | false=>
   rw[AL (by decide),DE]
   refine⟨m.nd,by simp,λa j b e z=>?_⟩
   rw[AM]at e
   subst e z
   rw[kK.mpr j]at h
   cases h
 unfold jZ
 rw[l]
 unfold putM at nd ⊢
 cases h:bJ c k with
 | true=>
  rw[h,AN rfl]at nd
  rw[AN rfl,AN rfl]
  obtain⟨f,i,n⟩:=aEP (k:=k) r m.k1 m.k2 m.vs
  exact⟨f,i,n,nd⟩
 | false=>
  rw[h,AL (by decide)]at nd
  rw[AL (by decide),AL (by decide)]
  refine⟨by rw[BE,BE,m.k1];rfl,?_,?_,nd⟩
  .rw[BE,BE];exact m.k2.append (.cons g .nil)
  .rw[BE,BE];exact m.vs.append (.cons r .nil)
theorem jN{K:Frag}{F:Hp}:∀ {es:L9 Ent} {a0:L9 (Dz×Dz)},es.map (·.1)=a0.map (·.1)->DatVs K F (es.map (·.2.1)) (a0.map (·.1))->∀ e∈es,DatV K F e.2.1 e.1
 | [],_,_,_,e,he=>by cases he
 | _::_,[],h,_,_,_=>by cases h
 | e0::es,p::a0,h,rk,e,he=>by
  rw[AU,AU]at h rk
  injection h with h1 h2
  obtain⟨_,_,e1,r1,r2⟩:=rk.cons_of
  rw[FV]at e1
  obtain⟨rfl,rfl⟩:=e1
  rcases AW.mp he with z|z
  · simp_all
  · exact jN h2 r2 e z
section
variable{X:Cx}{c:Ct}{E:XK}{e a b:E2}{st:Stmt}{pos:Pos}
theorem aAR{Y:Sg}{Z:L2.St}{F H:Hp}{a:L9 (Dz×Dz)}{k:Dz}{kv:V}(d:X.K=c.K)(hW:X.w=c.w)(ab:Ab c Y Z F H)(hi:Y[i]? = some (some (.m a)))(g:DatV c.K F kv k)(j:bH k (a.map (·.1))=true) :
  ∃ p es,Z[i]? = some (some (.ref p))/\DicAt X H p es k kv/\MapRel c.K F es a:=by
 obtain⟨v,h,p,es,rfl,⟨ep,h2⟩,n,l,b⟩:=ab.slot i _ hi
 refine⟨p,es,h,⟨⟨ep,by rw[hW];exact h2⟩,λe f=>by rw[d];exact(jN b.k1 b.k2 e f).same ab.fh,by rw[b.k1];exact b.nd,by rw[d];exact g.same ab.fh,by rw[b.k1];exact j⟩,b⟩
theorem aI8{Y:Sg}{Z:L2.St}{F H:Hp}{a:L9 (Dz×Dz)}{k:Dz}{kv:V}(d:X.K=c.K)(hW:X.w=c.g.w)(ab:Ab c Y Z F H)(hi:Y[i]? = some (some (.f a)))(j:DatV c.K F kv k)(m:bH k (a.map (·.1))=true) :
  ∃ p es,Z[i]? = some (some (.ref p))/\DicAt X H p es k kv/\MapRel c.K F es a:=by
 obtain⟨v,l,p,es,rfl,⟨ep,h2⟩,b⟩:=ab.slot i _ hi
 refine⟨p,es,l,⟨⟨ep,by rw[hW];exact ab.fh _ _ h2⟩,λe h=>by rw[d];exact(jN b.k1 b.k2 e h).same ab.fh,by rw[b.k1];exact b.nd,by rw[d];exact j.same ab.fh,by rw[b.k1];exact m⟩,b⟩
def aOA(w:W9):TE:=λ_ H Q=>∀ p,H p=none->Q (.ref p) (upd H p (bB w p [] 0))
theorem aPZ:PE X (.Dict [] [] pos) (aOA X.w):=λap s Z H Q I h=>
 wpAny_Dict_empty ⟨.ref s.heap.objs.size,_,I.laid (a:=s.heap.objs.size) (o:=bB X.w s.heap.objs.size [] 0) (t':=s.toks) (λ_ _ q=>AD _ q) (AK _)
  (f7 (EQ.mpr (BF (A3 I.big))) ⟨_,#[],AV _ rfl,⟨rfl,rfl,rfl⟩,rfl,.nil⟩),rfl,h _ (I.hok.fresh (AK _))⟩
noncomputable def nL(i:Nat):Sg->R Fw:=λY=>.ok (.nx (Y.set i (some (.m []))))
theorem aP0{w:W9}(hW:w=c.w)(h:PS X st (kD (aOA w) (i6 i))):PSf X c E st (nL i):=PS.imp h λD Z H ⟨Y,F,ab,k⟩=>λp a=>by
 subst hW
 exact Rk.ok k _ F _ (a7 F) (ab.setM (Ext.own ab.fh a) a aL (aP ab.fh a) ⟨rfl,.nil,.nil,D0⟩)
def jB(neg:Bool)(i:Nat)(f:Sg->R Dz):Sg->R Dz:=λY=>(f Y).bind λk=>match Y[i]? with
 | some (some (.m a0))=>if bH k (a0.map (·.1))=true then .ok (.bool (if neg=true then !bJ a0 k else bJ a0 k))else .bad
 | some (some (.f a0))=>if bH k (a0.map (·.1))=true then .ok (.bool (if neg=true then !bJ a0 k else bJ a0 k))else .bad
 | _=>.bad
def aB2(X:Cx)(neg:Bool):R2:=λy x H Q=>∃ p es k,x=.ref p/\DicAt X H p es k y/\Q (.bl (if neg=true then !(atE es k).isSome else(atE es k).isSome)) H
theorem aEQ(b:X.A.units+64 < cLine):OpR X (compareOp .In) (aB2 X false):=by
 intro ap s Z H y x v u Q I d a h
 obtain⟨p,es,k,rfl,D,q⟩:=h
 cases(show u=Value.ref p from a)
 exact aTI b D I d λs' c=>⟨.bl _,H,c,rfl,q⟩
theorem aB3(b:X.A.units+64 < cLine):OpR X (compareOp .NotIn) (aB2 X true):=by
 intro ap s Z H y x v u Q I d a h
 obtain⟨p,es,k,rfl,D,q⟩:=h
 cases(show u=Value.ref p from a)
 exact aPI b D I d λs' c=>⟨.bl _,H,c,rfl,q⟩
theorem aB4{a:Bool}{f:Sg->R Dz}(n:X.K=c.K)(hW:X.w=c.w)(o:c.w=c.g.w){Z:L2.St}{H:Hp}{Q:VK}(h:tV (bC c) c E (jB a i f) Z H Q):tOp (aB2 X a) (tV (bC c) c E f) (iW i) Z H Q:=by
 obtain⟨Y,F,ab,k⟩:=h
 refine⟨Y,F,ab,(Rk.bind k).imp λd _ q v l H1 s1 r1=>?_⟩
 split at q
 .rename_i j hi
  split at q
  .rename_i e
   obtain⟨p,es,b,D,m⟩:=aAR n hW (ab.ext s1) hi r1 e
   refine⟨_,b,p,es,d,rfl,D,?_⟩
   rw[m.has]
   exact Rk.ok q _ l H1 s1 (.bl _)
  .exact q.elim
 .rename_i j hi
  split at q
  .rename_i e
   obtain⟨p,es,b,D,m⟩:=aI8 n (hW.trans o) (ab.ext s1) hi r1 e
   refine⟨_,b,p,es,d,rfl,D,?_⟩
   rw[m.has]
   exact Rk.ok q _ l H1 s1 (.bl _)
  .exact q.elim
 .exact q.elim
theorem aI9{a:Bool}{op:CmpOp}{f:Sg->R Dz}(d:X.K=c.K)(hW:X.w=c.w)(h:PE X e (tOp (aB2 X a) (tV (bC c) c E f) (iW i)))(b:c.w=c.g.w:=by rfl):PD X c E e (jB a i f):=PE.imp h λZ H Q q=>aB4 d hW b q
theorem aJA{a:Bool}{f:Sg->R Dz}(d:X.K=c.K)(hW:X.w=c.w)(h:PT X e (aNY (tOp (aB2 X a) (tV (bC c) c E f) (iW i))))(b:c.w=c.g.w:=by rfl):PTf X c E e (e1 asB (jB a i f)):=PT.imp h λZ H Q q=>aB4 d hW b (yA q)
def lW(i:Nat)(f:Sg->R Dz):Sg->R Dz:=λY=>match Y[i]? with
 | some (some (.m a0))=>(f Y).bind λk=>if bH k (a0.map (·.1))=true then match cM a0 k with
  | some v=>.ok v
  | none=>.bad else .bad
 | some (some (.f a0))=>(f Y).bind λk=>if bH k (a0.map (·.1))=true then match cM a0 k with
  | some v=>.ok v
  | none=>.bad else .bad
 | _=>.bad
def aOB(X:Cx)(td ty:TE):TE:=λZ H Q=>td Z H λx H1=>ty Z H1 λy H2=>∃ p es k v,x=.ref p/\DicAt X H2 p es k y/\atE es k=some v/\Q v H2
theorem aP1{o i:E2}{d e:TE}(r:X.A.units+64 < cLine)(m:PE X o d)(hi:PE X i e)(l:aTE i):PE X (.Subscript o i pos) (aOB X d e):=by
 intro ap s Z H Q I h
 refine aPA PySem.F.slot_dict_getitem.lookup l (thn (m ap s Z H _ I h) λu s1 ⟨x,H1,B,n,f⟩=>thn (hi ap s1 Z H1 _ B f) λG C b=>?_)
 obtain⟨y,H2,c,g,p,es,k,v,ex,D,j,t⟩:=b
 subst ex
 obtain rfl:u=Value.ref p:=n
 obtain⟨ep,z⟩:=D.o
 obtain⟨⟨_,o',ar,h1,h2,_⟩,_,_⟩:=(show bS X.prog X.w H2 C.heap p (bB X.w p es ep)from c.hok p _ z)
 exact⟨⟨o',h1,h2.1⟩,aPJ r D c g j λE J q a=>⟨v,H2,q,a,t⟩⟩
theorem aP2{f:Sg->R Dz}(u:X.K=c.K)(hW:X.w=c.w)(h:PE X e (aOB X (iW i) (tV (bC c) c E f)))(A:c.w=c.g.w:=by rfl):PD X c E e (lW i f):=PE.imp h λZ H Q ⟨Y,F,ab,k⟩=>by
 unfold lW at k
 split at k
 .rename_i t hi
  obtain⟨_,j,p,es,rfl,_⟩:=ab.slot i _ hi
  refine⟨_,j,Y,F,ab,(Rk.bind k).imp λd _ q v s H1 s1 r1=>?_⟩
  split at q
  .rename_i o
   obtain⟨y,b,a,D,m⟩:=aAR u hW (ab.ext s1) hi r1 o
   rw[j]at a
   cases a
   split at q
   .rename_i w r
    rcases m.get d with ⟨_,z⟩|⟨l,x,h1,h2,n⟩
    .grind
    .rw[r]at h2
     cases h2
     exact⟨p,b,d,l,rfl,D,h1,Rk.ok q l s H1 s1 n⟩
   .exact q.elim
  .exact q.elim
 .rename_i t hi
  obtain⟨_,j,p,es,rfl,_⟩:=ab.slot i _ hi
  refine⟨_,j,Y,F,ab,(Rk.bind k).imp λd _ q v s H1 s1 r1=>?_⟩
  split at q
  .rename_i o
   obtain⟨y,b,a,D,m⟩:=aI8 u (hW.trans A) (ab.ext s1) hi r1 o
   rw[j]at a
   cases a
   split at q
   .rename_i w r
    rcases m.get d with ⟨_,z⟩|⟨l,x,h1,h2,n⟩
    .grind
    .rw[r]at h2
     cases h2
     exact⟨p,b,d,l,rfl,D,h1,Rk.ok q l s H1 s1 n⟩
   .exact q.elim
  .exact q.elim
 .exact k.elim
def pI(i:Nat)(f g:Sg->R Dz):Sg->R Fw:=λY=>(g Y).bind λv=>match Y[i]? with
 | some (some (.m a0))=>(f Y).bind λk=>if bH k (a0.map (·.1))=true/\a0.length<=16777216 then .ok (.nx (Y.set i (some (.m (putM a0 k v)))))else .bad
 | _=>.bad
def aOC(X:Cx):aFX:=λo i v H Q=>∃ p es k,o=.ref p/\DicAt X H p es k i/\es.length<=sizeLine/\∀ ep,Q (upd H p (bB X.w p (jZ es k i v) ep))
theorem aL3(b:X.A.units+64 < cLine):aSP X (aOC X):=by
 intro ap s Z H o i v e j u Q I a d g h
 obtain⟨p,es,k,rfl,D,c,q⟩:=h
 cases(show e=Value.ref p from a)
 exact aPK b D I d g c λep s' f=>⟨_,f,q ep⟩
theorem aP3{f g:Sg->R Dz}(z:X.K=c.K)(hW:X.w=c.w)(h:PS X st (kD (tV (bC c) c E g) (aSS (iW i) (tV (bC c) c E f) (aOC X)))):PSf X c E st (pI i f g):=PS.imp h λD Z H ⟨Y,F,ab,k⟩=>by
 refine⟨Y,F,ab,(Rk.bind k).imp λx _ q v y H1 s1 r1=>?_⟩
 split at q
 .rename_i l hi
  have a:=ab.ext s1
  obtain⟨_,n,p,es,rfl,_⟩:=a.slot i _ hi
  refine⟨_,n,Y,y,a,((Rk.bind q).ext s1).imp λd _ q u s H2 o r2=>?_⟩
  have b:=a.ext o
  split at q
  .rename_i r
   obtain⟨A,j,e,t,m⟩:=aAR z hW b hi r2 r.1
   rw[n]at e
   cases e
   refine⟨p,j,d,rfl,t,?_,?_⟩
   .have:j.length=l.length:=by have:=CQ length m.k1;simpa using this
    rw[this,bX];exact r.2
   .intro ep
    rw[hW]
    exact Rk.ok q Z s _ (s1.trans o).ff (b.putM hi n (m.put r2 (DatV.same o.ff r1)))
  .exact q.elim
 .exact q.elim
end
section
variable{X:Cx}{c:Ct}{E:XK}{e a b:E2}{st:Stmt}{pos p2:Pos}
def rA(fs:Dz->Sg->O9 Sg)(f:Sg->R Dz):Sg->R Fw:=λY=>(f Y).bind λx=>(yF (fs x Y)).bind λY'=>.ok (.nx Y')
theorem aJB{g:TG}{fs:Dz->Sg->O9 Sg}{f:Sg->R Dz}(i:Tg c g fs is)(h:PS X st (kD (tV (bC c) c E f) g)):PSf X c E st (rA fs f):=PS.imp h λD Z H a=>by
 obtain⟨Y,F,ab,k⟩:=a
 refine⟨Y,F,ab,(Rk.bind k).imp λx _ q v d H1 s1 r1=>?_⟩
 cases h1:fs x Y with
 | none=>rw[h1]at q;exact q.elim
 | some Y'=>
  rw[h1]at q
  exact i v x Y Y' Z d H1 _ (ab.ext s1) r1 h1 λe _ _ b=>Rk.ok q e d H1 s1.ff b
end
theorem aTY{P:P9}{w:W9}{K:Frag}{mg:Str->O9 V9}{base:Hz}{T:Hp}{x:Str}{st:Stmt}{N ps:L9 Str}{k:Nat}{f:Az}{fd:FuncData}{fb:Sg->R Fw}(g:Fun K x x st f fd)(S:FnScope N ps (aI st))
  (a:∀ (cdv:V9) (A:U9) (outer:L9 Env) (s:S9) (H F:Hp) (E:XK),Room k (A.deeper (envOfC x (aI st) s.heap.objs.size f cdv))->
   lL ((iX (CXe P w) P w K mg base N x (aI st) f cdv A outer s H E).fly E) ⟨K,mg,w,F,H,gOf P w K mg base T,(envOfC x (aI st) s.heap.objs.size f cdv).cells,λ_=>none⟩ E (bF st) fb):FnOk P w K mg base (CXe P w) (k+1) f fd ps (spF (gOf P w K mg base T) K mg ps.length (fnF N.length fb)):=by
 refine g.okX S (λvs H Q E h=>?_) (λcdv A outer s H vs Q E hr h=>?_)
 .obtain ⟨F,d,_,_,h2,b,_⟩:=h
  rw[h2.len,b]
 .obtain ⟨F,d,e,h1,h2,b,c⟩:=h
  exact⟨_,a cdv A outer s H F E hr,sQ e h1 h2 c⟩
def wO(K:Frag)(T:Hp):Sp:=λvs H Q _=>∃ (a:Az) (ns:L9 Int),vs=[.ref a]/\ns.length<=63/\aC T H/\SqL K H a (ns.map V.int)/\∀ H',Q (.bl true) H'
theorem aB5{K:Frag}{H:Hp}:∀ (ns:L9 Int),DatVs K H (ns.map V.int) (ns.map PyData.int)
 | []=>.nil
 | n::t=>.cons (.int n) (aB5 t)
theorem aTZ{P:P9}{w:W9}{K:Frag}{mg:Str->O9 V9}{base:Hz}{T:Hp}{k:Nat}{f:Az}{fd:FuncData}{x:Str}{G:L9 A->R A}(h:FnOk P w K mg base (CXe P w) k f fd [x] (spF (gOf P w K mg base T) K mg 1 G))
  (b:∀ ns:L9 Int,ns.length<=63->G [.d (.list (ns.map .int))]=.ok (.d (.bool true))):FnOk P w K mg base (CXe P w) k f fd [x] (wO K T):=h.imp λvs H Q E=>by
 rintro ⟨a,ns,rfl,hn,ht,hs,q⟩
 refine⟨H,[.d (.list (ns.map .int))],ht,a7 H,⟨.lst hs (aB5 ns),trivial⟩,rfl,?_⟩
 rw[b ns hn]
 intro v c H' _ r
 obtain rfl:=DatV.bl_of r
 exact q H'
theorem aWN(P:P9)(w:W9)(H:Hp)(s:S9)(e:V9)(s':S9)(h:CXe P w [] H s (λ_ _ _=>False) e s'):False:=by
 obtain⟨_,_,_,_,_,_,_,_,_,_,_,q⟩:=h
 exact q
theorem aP4{l:OpenLaw}{k:Nat}{q:P9}{b:L9 Str}{t:(Str->O9 V9)->Hz->Prop}{j:W9->Hz->Prop}{d:DefRec}{K:Params->Frag}{x:Str}{qs:L9 (Pos×Str)}{xs:L9 Str}
  (g:∀ x∈xs,∃ d∈recsOf q,d.name=x) (hNT:∀ w:W9,noTabs (K w.params)=true)
  (A:l.most=some 63) (i:d.params.defaults=[]) (hr:Room k callerA)
  (v:∀ (w:W9) (h:Hz),j w h->(K w.params).In h)
  (F:∀ (w:W9) (mg:Str->O9 V9) (fa:Az) (h:Hz),(K w.params).In h->h.Ns mainGlobals mg->mg d.name=some (.ref fa)->
   ∃ fd:FuncData,(∀ (s:S9) (u:V9),BindsTo s fd ⟨[u],[]⟩ [(x,u)]) /\
    ∀ (base:Hz) (T:Hp),(K w.params).In base->base.Ns mainGlobals mg->aBK mg h base T qs xs->FnOk l.prog w (K w.params) mg base (CXe l.prog w) k fa fd [x] (wO (K w.params) T)) :
  WalkO q b t j l.row.toRowW d [] (λf vs=>PySem.call f vs):=
 walk_ofT (K:=K) (CX:=λw=>CXe l.prog w) (qs:=qs) (xs:=xs) g hNT A (by decide) i hr v (λw mg fa h h1 h2 c=>by
  obtain⟨fd,y,n⟩:=F w mg fa h h1 h2 c
  exact⟨fd,y,λbase T h1 h2 c=>⟨_,n base T h1 h2 c,λH a m r p o=>⟨a,m,rfl,r,p,o,λ_=>rfl⟩⟩⟩) λw H s e s' z=>aWN _ w H s e s' z
variable{X:Cx}{c:Ct}{E:XK}{e:E2}
noncomputable def d2(G:Int->Int->Int):Dz->Dz->R Dz
 | .int i,.int j=>.ok (.int (G i j))
 | _,_=>.bad
end Fl
variable{N:Nat}{q:Int}
namespace L2
variable{X:Cx}
end L2
namespace Fl
variable{X:Cx}{c:Ct}{E:XK}{e:E2}
variable{X:Cx}{c:Ct}{E:XK}{e:E2}{st:Stmt}
def yH:Sg->R Fw:=λ_=>.bad
theorem wP:PSf X c E st yH:=λ_ _ _ _ _ _ ⟨_,_,_,k⟩=>k.elim
end Fl
namespace L2
theorem aP5{w:W9}{A:U9}{t:Az}{ws:L9 V9}(m:PlainL s.heap t vs.toArray)(hb:PlainL s.heap b ws.toArray)
  (h2:Q (.ref s.heap.objs.size) {s with heap:=s.heap.push {cls:=.type "list",data:=.seq (vs++ws).toArray}})
  (hsz:vs.length+ws.length<=sizeLine):wpAny (model prog w) A (binaryOp .Add (.ref t) (.ref b)) Q E s:=by
 obtain⟨⟨cls,dd,data,sl⟩,n,i,k,_,l⟩:=id m
 obtain⟨⟨j,g,h,f⟩,n2,d,a,_,c⟩:=id hb
 simp only at k l a c
 subst k l a c
 have e:vs.toArray++ws.toArray=(vs++ws).toArray:=by simp
 refine concat_meets ⟨_,i,rfl⟩ ⟨_,d,rfl⟩ noFill_list_add seq_list_add PySem.F.slot_list_add PySem.F.entry_list_add (PySem.F.args_list_add_2 _ _)
   (list_addW t b vs.toArray ws.toArray n n2 dd g sl f (by rw[A6,A6];exact hsz)) ⟨i,d,?_⟩
 rw[e]
 exact h2
theorem aER(vs:L9 V9):∀ (n:Nat) (cb:L9 V9),(replicate n vs.toArray).foldl (· ++ ·) cb.toArray=(cb++(replicate n vs).flatten).toArray
 | 0,cb=>by simp
 | n+1,cb=>by
  rw[CK,DS,List.append_toArray,aER vs n,CK,DD,DW]
end L2
variable{vs:L9 E2}
namespace Fl
section
variable{X:Cx}{c:Ct}{E:XK}{e a b:E2}{pos:Pos}
theorem aB6{vs:L9 V}{its:L9 V9}(h:aZ vs its):∀ n:Nat,aZ (replicate n vs).flatten (replicate n its).flatten
 | 0=>.nil
 | n+1=>by
  rw[CK,DD,CK,DD]
  exact h.append (aB6 h n)
theorem zV{F:Hp}{vs:L9 V}(h:DatVs K F vs xs):∀ n:Nat,DatVs K F (replicate n vs).flatten (replicate n xs).flatten
 | 0=>.nil
 | n+1=>by
  rw[CK,DD,CK,DD]
  exact h.append (zV h n)
noncomputable def lN:Dz->Dz->R (L9 Dz)
 | .list xs,.list ys=>if xs.length+ys.length<=sizeLine then .ok (xs++ys)else .bad
 | _,_=>.bad
theorem aP6(A:X.K=c.K):OpR X (binaryOp .Add) (r2D (aU c) (aU c) (uW c) lN):=by
 intro ap s Z H v u x y Q I t p h
 obtain⟨C,H1,F,a,b,d,g,o,B,e,q⟩:=h
 unfold lN at e
 split at e
 .rename_i xs ys
  split at e
  .rename_i w
   cases e
   obtain⟨D,vs,rfl,j,k⟩:=aM.lst_of g o
   obtain⟨E,us,rfl,m,n⟩:=aM.lst_of g B
   rw[<-A]at j m
   cases t
   cases p
   obtain⟨z,r1,r,_⟩:=I.list j
   obtain⟨l,r2,p2,_⟩:=I.list m
   have f:vs.length+us.length<=sizeLine:=by rw[k.length,n.length];exact w
   have i:=I.fresh
   refine aP5 r p2 ?_ (by rw[<-r1.length,<-r2.length];exact f)
   exact⟨.ref _,_,I.lnew (t':=s.toks) (r1.append r2) (by rw[AY];exact f),rfl,q _ F _ (Ext.own g i) ⟨_,_,rfl,i,aL,aP g i,k.append n⟩⟩
  .cases e
 .cases e
theorem aJC:b7 lN:=by
 intro a b e h
 unfold lN at h
 ext
theorem aT0(e:X.K=c.K){d fb:Sg->R Dz}(f:PR X c E a d)(hb:PR X c E b fb):PN X c E (.BinOp a .Add b pos) (e2 lN d fb):=
 PE.imp (aF0 (aP6 e) f hb) λZ H Q h=>tV2 wI aJC (qT c) (aN6 c) h
end
theorem sJ{H:Hp}{a b:HO}:upd (upd H p a) p b=upd H p b:=by
 funext x
 by_cases q:x=p
 · subst q; rw [aL, aL]
 · rw [aE q, aE q, aE q]
section
variable{X:Cx}{ap:L9 (Az×Obj)}{Z:L2.St}{H:Hp}{s:S9}{a:Az}{es:L9 Ent}{k:Dz}{kv v:V}{ku u:V9}{A:U9}{E:V9->S9->Prop}
theorem aGS{A:U9}(a:A.units+64 < cLine):(gJ X.prog X.w).room A:=by show A.units+9 < cLine;ext
theorem aP7{Q:Unit->S9->Prop}(y:A.units+64 < cLine)(D:DicAt X H a es k kv)(I:Inv X ap Z H s)(B:aR kv ku)(x:aR v u)(hz:es.length<=sizeLine)(h:∀ ep s',Inv X ap Z (upd H a (bB X.w a (jZ es k kv v) ep)) s'->Q () s') :
  wpAny (model X.prog X.w) A (dictSet a ku u) Q E s:=by
 obtain⟨t,⟨b,xs,rfl,rfl,e,g,dd⟩|⟨C,xs,rfl,rfl,e,g,dd⟩⟩:=D.cases I B
 .have m:xs.length<=sizeLine:=by rw[<-Paired.length e];exact hz
  refine wpAny_dictSet_heap (a:=b) (aGS y) g dd (λh' c j=>?_) m
  obtain⟨f,ar,ep,d,h2,i,n,_,r⟩:=c
  obtain⟨l,p⟩:=D.o
  refine h ep _ (jJ I (by rw[p];exact True.intro) j ⟨f,d⟩ (f7 t ⟨f,ar,d,h2,i,?_⟩))
  rw[n]
  exact mJ (aAP x e)
 .have m:xs.length<=sizeLine:=by rw[<-Paired.length e];exact hz
  refine wpAny_dictSet_pairs g dd (λh' c j=>?_) m
  obtain⟨f,ar,ep,d,h2,i,n,r,_⟩:=c
  obtain⟨l,p⟩:=D.o
  refine h ep _ (jJ I (by rw[p];exact True.intro) j ⟨f,d⟩ (f7 t ⟨f,ar,d,h2,i,?_⟩))
  exact mK (aAQ x e) r λz q=>n z (by simpa using q)
theorem aL4{y:V}{f:V9}(p:A.units+64 < cLine)(D:DicAt X H a es k kv)(I:Inv X ap Z H s)(r:aR kv ku)(m:aR y f)(h:∀ w' s',Inv X ap Z H s'->aR ((atE es k).getD y) w'->Q w' s') :
  wpAny (model X.prog X.w) A (call (.builtin "dict.get") [.ref a,ku,f]) Q E s:=by
 have d:s.TypeIs (.ref a) "dict":=by
  obtain⟨ep,t⟩:=D.o
  obtain⟨⟨_,o,ar,h1,h2,_⟩,_,_⟩:=(show bS X.prog X.w H s.heap a (bB X.w a es ep)from I.hok a _ t)
  exact⟨o,h1,h2.1⟩
 obtain⟨n,⟨b,xs,rfl,rfl,g,j,dd⟩|⟨l,xs,rfl,rfl,g,j,dd⟩⟩:=D.cases I r
 .refine FW C4 d FF (E6 _ _ _) (meetsH_dict_get_default (gJ X.prog X.w) a b n f) ⟨jM p,k,xs,j,dd,h _ _ (I.tok _) ?_⟩
  have q:=mL (k:=k) g
  cases e:atE es k with
  | none=>rw[e]at q;rw[iE.none_of q];exact m
  | some z=>
   rw[e]at q
   obtain⟨w',i,c⟩:=iE.some_of q
   rw[i];exact c
 .refine FW C4 d FF (E6 _ _ _) (H9 (cD X.prog X.w) a j n f) ⟨_,dd.mapOf,h _ _ (I.tok _) ?_⟩
  have q:=lF (k:=l) g
  cases e:atE es (keyPy l)with
  | none=>rw[e]at q;rw[iE.none_of q];exact m
  | some z=>
   rw[e]at q
   obtain⟨w',i,c⟩:=iE.some_of q
   rw[i];exact c
end
abbrev TP:=L2.St->Hp->(L9 (V×V)->Hp->Prop)->Prop
def aT1(p:V×V)(u:V9×V9):Prop:=aR p.1 u.1/\aR p.2 u.2
def PPr(X:Cx)(keys:L9 (O9 E2))(vals:L9 E2)(t:TP):Prop:=∀ (pos:Pos) (ap:L9 (Az×Obj)) (s:S9) (Z:L2.St) (H:Hp) (Q:L9 (V×V)->Hp->Prop),Inv X ap Z H s->t Z H Q->
 wpAny (model X.prog X.w) X.A (evalPairs (pairTrees keys vals X.env pos)) (λvs s'=>∃ ps H',Inv X ap Z H' s'/\Paired aT1 ps vs/\Q ps H') X.xe s
def aWO:TP:=λ_ H Q=>Q [] H
def aT2(tk tv:TE)(t:TP):TP:=λZ H Q=>tk Z H λx H1=>tv Z H1 λy H2=>t Z H2 λps H3=>Q ((x,y)::ps) H3
section
variable{X:Cx}{c:Ct}{E:XK}{e a b:E2}{st:Stmt}{pos:Pos}
theorem aT3:PPr X [] [] aWO:=λpos ap s Z H Q I h=>evalPairs_nil ⟨[],H,I,.nil,h⟩
theorem aP8{k v:E2}{b:L9 (O9 E2)}{c d:TE}{t:TP}(i:PE X k c)(g:PE X v d)(hr:PPr X b vs t):PPr X (some k::b) (v::vs) (aT2 c d t):=by
 intro pos ap s Z H Q I h
 rw[pairTrees.eq_1]
 refine evalPairs_cons (thn (i ap s Z H _ I h) λku s1 a=>?_)
 obtain⟨x,H1,o,r1,e⟩:=a
 refine AA (thn (g ap s1 Z H1 _ o e) λq p a=>?_)
 obtain⟨y,H2,f,r2,n⟩:=a
 refine AA (GU (AE ?_))
 exact thn (hr pos ap p Z H2 _ f n) λvs r ⟨ps,H3,l,m,j⟩=>⟨(x,y)::ps,H3,l,.cons ⟨r1,r2⟩ m,j⟩
def cI:L9 (Dz×Dz)->L9 (Dz×Dz)->R (L9 (Dz×Dz))
 | cb,[]=>.ok cb
 | cb,(k,v)::t=>if bH k (cb.map (·.1))=true/\cb.length<=16777216 then cI (putM cb k v) t else .bad
def aL5(K:Frag)(F:Hp)(p:V×V)(d:Dz×Dz):Prop:=DatV K F p.1 d.1/\DatV K F p.2 d.2
theorem aJD{Z:L2.St}{F:Hp}(B:X.A.units+64 < cLine)(b:L9 (Dz×Dz)):∀ (ps:L9 (V×V)) (vs:L9 (V9×V9)) (cb res:L9 (Dz×Dz)) (es:L9 Ent) (ep:Nat) (H:Hp) (s:S9) (Q:S9->Prop),
  Inv X ap Z H s->aC F H->F p=none->H p=some (bB X.w p es ep)->MapRel X.K F es cb->Paired (aL5 X.K F) ps b->Paired aT1 ps vs->cI cb b=.ok res->
  (∀ es' ep' s',Inv X ap Z (upd H p (bB X.w p es' ep')) s'->MapRel X.K F es' res->Q s')->wpAny (model X.prog X.w) X.A (storeAll p vs) (λ_ s=>Q s) X.xe s:=by
 induction b with
 | nil=>
  intro ps vs cb res es ep H s Q I f g i m d r e q
  cases d
  cases r
  cases e
  have c:storeAll p []=pure PUnit.unit:=by unfold storeAll;rw[GE]
  rw[c]
  refine AE (q es ep s ?_ m)
  have:upd H p (bB X.w p es ep)=H:=by
   funext x
   by_cases z:x=p
   .subst z;rw[aL,i]
   .rw[aE z]
  simp_all
 | cons kv t ih=>
  obtain⟨k,v⟩:=kv
  intro ps vs cb res es ep H s Q I f g i m d r e q
  cases d with
  | @cons x _ ps _ d ds=>
   cases r with
   | @cons _ u _ vs r rs=>
    unfold cI at e
    split at e
    .rename_i c
     have D:DicAt X H p es k x.1:=⟨⟨ep,i⟩,λe E=>(jN m.k1 m.k2 e E).same f,by rw[m.k1];exact m.nd,d.1.same f,by rw[m.k1];exact c.1⟩
     have C:es.length<=sizeLine:=by
      have:es.length=cb.length:=by simpa using congrArg length m.k1
      rw[this,bX];exact c.2
     have l:storeAll p (u::vs)=(do dictSet p u.1 u.2;storeAll p vs):=by
      unfold storeAll
      simp_all
     rw[l]
     refine AA (aP7 B D I r.1 r.2 C λn s' L=>?_)
     have y:=m.put d.1 d.2
     have h:aC F (upd H p (bB X.w p (jZ es k x.1 x.2) n)):=λa o z=>by rw[aE (a6 z g)];exact f a o z
     refine ih ps vs _ res _ _ _ s' Q L h g aL y ds rs e λes' ep' J j G=>?_
     rw[sJ]at j
     ext
    .cases e
def aGT(X:Cx)(tp:TP):TE:=λZ H Q=>∀ p,H p=none->tp Z (upd H p (bB X.w p [] 0)) λps H2=>∃ (F:Hp) (a0 res:L9 (Dz×Dz)),aC F H2/\F p=none/\H2 p=some (bB X.w p [] 0)/\Paired (aL5 X.K F) ps a0/\cI [] a0=.ok res /\
 ∀ es' ep',MapRel X.K F es' res->Q (.ref p) (upd H2 p (bB X.w p es' ep'))
theorem aES{b:L9 (O9 E2)}{c:L9 E2}{l:TP}(y:X.A.units+64 < cLine)(h:PPr X b c l)(h1:(b.all λx=>x.isSome)=true:=by rfl)(h2:b.length=c.length:=by rfl)(h3:b≠[]:=by exact λz=>nomatch z)(h4:b.length<=15:=by decide):PE X (.Dict b c pos) (aGT X l):=by
 intro ap s Z H Q I q
 have v:=I.laid (a:=s.heap.objs.size) (o:=bB X.w s.heap.objs.size [] 0) (t':=s.toks) (λ_ _ q=>AD {cls:=.type "dict",data:=.dict #[]} q) (AK _)
  (f7 (EQ.mpr (BF (A3 I.big))) ⟨_,#[],AV _ rfl,⟨rfl,rfl,rfl⟩,rfl,.nil⟩)
 have n:=q _ (I.hok.fresh (AK _))
 refine wpAny_Dict_any h1 h2 h3 h4 (thn (h pos ap _ Z _ _ v n) λvs D k=>?_)
 obtain⟨ps,H2,p,r,F,f,g,B,t,u,d,e,z⟩:=k
 exact aJD y f ps vs [] g [] 0 H2 D _ p B t u ⟨rfl,.nil,.nil,D0⟩ d r e λj i s' C m=>⟨.ref s.heap.objs.size,_,C,rfl,z j i m⟩
def aL6(c:Ct)(E:XK)(f:Sg->R (L9 (Dz×Dz))):TP:=λZ H Q=>∃ Y F,Ab c Y Z F H/\Rk c E F H (f Y) λa0=>∀ ps F' H',Ext F H F' H'->Paired (aL5 c.K F') ps a0->Q ps H'
abbrev PPf(X:Cx)(c:Ct)(E:XK)(keys:L9 (O9 E2))(vals:L9 E2)(f:Sg->R (L9 (Dz×Dz))):Prop:=PPr X keys vals (aL6 c E f)
theorem PPr.imp{X:Cx}{a:L9 (O9 E2)}{t t':TP}(h:PPr X a vs t)(i:∀ Z H Q,t' Z H Q->t Z H Q):PPr X a vs t':=λpos ap s Z H Q I q=>h pos ap s Z H Q I (i Z H Q q)
noncomputable def aB7:Sg->R (L9 (Dz×Dz)):=λ_=>.ok []
def pJ(f g:Sg->R Dz)(r:Sg->R (L9 (Dz×Dz))):Sg->R (L9 (Dz×Dz)):=λY=>(f Y).bind λx=>(g Y).bind λy=>(r Y).bind λt=>.ok ((x,y)::t)
theorem aP9:PPf X c E [] [] aB7:=PPr.imp aT3 λZ H Q ⟨Y,F,ab,k⟩=>Rk.ok k [] F H (Ext.refl ab.fh) .nil
theorem aL7{k v:E2}{e:L9 (O9 E2)}{f g:Sg->R Dz}{r:Sg->R (L9 (Dz×Dz))}(l:PD X c E k f)(j:PD X c E v g)(hr:PPf X c E e vs r):PPf X c E (some k::e) (v::vs) (pJ f g r):=PPr.imp (aP8 l j hr) λZ H Q d=>by
 obtain⟨Y,F,ab,k⟩:=d
 refine⟨Y,F,ab,(Rk.bind k).imp λx _ q v m H1 s1 r1=>?_⟩
 refine⟨Y,m,ab.ext s1,((Rk.bind q).ext s1).imp λy _ q u i H2 a r2=>?_⟩
 refine⟨Y,i,ab.ext (s1.trans a),((Rk.bind q).ext (s1.trans a)).imp λt _ q ps n H3 b h=>?_⟩
 exact Rk.ok q _ n H3 ((s1.trans a).trans b) (.cons ⟨DatV.same (a.trans b).ff r1,DatV.same b.ff r2⟩ h)
def aAS(i:Nat)(f:Sg->R (L9 (Dz×Dz))):Sg->R Fw:=λY=>(f Y).bind λa0=>(cI [] a0).bind λres=>.ok (.nx (Y.set i (some (.m res))))
theorem nM:∀ (a0 cb:L9 (Dz×Dz)) (x:Er),cI cb a0≠.ex x
 | [],cb,x,h=>by cases h
 | (k,v)::t,cb,x,h=>by
  unfold cI at h
  split at h
  · exact nM t _ x h
  · cases h
theorem aQA{f:Sg->R (L9 (Dz×Dz))}(v:X.K=c.K)(hW:X.w=c.w)(h:PS X st (kD (aGT X (aL6 c E f)) (i6 i))):PSf X c E st (aAS i f):=PS.imp h λD Z H ⟨Y,F,ab,k⟩=>λp j=>by
 have e1:=Ext.own (F:=F) (o:=bB X.w p [] 0) ab.fh j
 refine⟨Y,F,ab.ext e1,((Rk.bind k).ext e1).imp λd _ q ps g H2 b r2=>?_⟩
 have l:g p=none:=b.stay (aP ab.fh j) aL (λ_ z=>uV z)
 have h2:H2 p=some (bB X.w p [] 0):=b.hh _ _ aL
 cases e:cI [] d with
 | bad=>rw[e]at q;exact q.elim
 | ex x=>exact absurd e (nM _ _ _)
 | ok res=>
  rw[e]at q
  refine⟨g,d,res,b.fh,l,h2,by rw[v];exact r2,e,λs r m=>?_⟩
  have u:Ext F H g (upd H2 p (bB X.w p s r)):=by
   refine⟨λa o z=>?_,b.ff,λa o z=>?_,λa z n=>?_⟩
   .have t:a≠p:=a6 z j
    rw[aE t]
    exact b.hh a o (by rw[aE t];exact z)
   .rw[aE (a6 z l)];exact b.fh a o z
   .have:=b.nw a z n
    by_cases w:a=p
    · simp_all
    · unfold lV at this; rw [aE w]at this; exact this
  rw[hW]at u ⊢
  rw[v]at m
  exact Rk.ok q _ g _ b.ff (ab.setM u j aL l m)
end
end Fl
namespace L2
def aGU(X:Cx)(T:String)(r:V->L9 V->Hp->VK->Prop)(to:TE)(t:TA):TE:=λZ H Q=>to Z H λx H1=>(∀ (ap:L9 (Az×Obj)) (s:S9) (v:V9),Inv X ap Z H1 s->aR x v->s.TypeIs v T/\∀ a,v=.ref a->∃ ob,s.heap.get? a=some ob/\ob.dict=none)/\t Z H1 λxs H2=>r x xs H2 Q
theorem rB{X:Cx}{o:E2}{to:TE}{t:TA}{apos cpos:Pos}{T id:String}{r:V->L9 V->Hp->VK->Prop}(p:PlainAttrs T)(slot:Slot T name id)(b:typeOf (.builtin id)=pure (.type "method_descriptor"))(m:MtR X id r)(l:PE X o to)(j:PA X (e::es) t)
  (a:attributeBase o name X.env (eval o X.env)=eval o X.env:=by rfl)
  (hfew:((backTo cpos (starEach (e::es) X.env)).all (λx=>!x.1) && (backToKw cpos (keywordEach [] X.env)).all (λx=>x.1.isSome)
   && decide ((e::es).length+([]:L9 Keyword).length+(if ([]:L9 Keyword).isEmpty then 0 else 1) < 30))=true:=by rfl)
  (hline:(apos.endLine == cpos.line)=true:=by rfl) (hs:starEach (e::es) X.env=(false,eval e X.env)::starEach es X.env:=by rfl) (hplain:(backTo cpos (starEach es X.env)).any (·.1)=false:=by rfl) :
  PE X (.Call (.Attribute o name apos) (e::es) [] cpos) (aGU X T r to t):=by
 intro ap s Z H Q I h
 refine HX a hfew hline rfl (thn (l ap s Z H _ I h) λv s1 c=>?_)
 obtain⟨x,H1,f,r1,k,g⟩:=c
 obtain⟨h1,h2⟩:=k ap s1 v f r1
 refine⟨T,id,p,slot,b,h1,h2,?_⟩
 have d:=j cpos ap s1 Z H1 _ f g
 rw[hs]at d ⊢
 refine FE (by show(false || (backTo cpos (starEach es X.env)).any (·.1))=false;rw[hplain]<;>rfl) (Calls.evalArgs_plain ?_)
 exact thn d λus q ⟨vs,H2,i,r2,n⟩=>m ap q Z H2 x vs v us Q i r1 r2 n
end L2
namespace Fl
def aJE(X:Cx):V->L9 V->Hp->VK->Prop:=λx xs H Q=>∃ p es k kv y,x=.ref p/\xs=[kv,y]/\DicAt X H p es k kv/\Q ((atE es k).getD y) H
section
variable{X:Cx}{c:Ct}{E:XK}{e a b:E2}{st:Stmt}{pos:Pos}
theorem aL8(b:X.A.units+64 < cLine):MtR X "dict.get" (aJE X):=by
 intro ap s Z H x xs v us Q I a d h
 obtain⟨p,es,k,kv,y,rfl,rfl,D,q⟩:=h
 cases(show v=Value.ref p from a)
 cases d with
 | @cons _ ku _ us r1 t=>
  cases t with
  | @cons _ yu _ us r2 t=>
   cases t
   exact aL4 b D I r1 r2 λe s' c r=>⟨_,H,c,r,q⟩
def aB8(K:Frag)(w:W9)(a:Az)(es:L9 Ent):Prop:=(a == sysModules)=false/\∃ o ar ep,K.lookup a=some o/\o.ExactDict/\o.data=.dict ar ep/\Paired (nJ w) es ar.toList
def aT4(e:Ent):Prop:=∃ k,e.1=keyPy k/\e.2.1=kV k
def aJF(X:Cx)(p:Az)(es:L9 Ent):V->L9 V->Hp->VK->Prop:=λx xs H Q=>∃ k y,x=.ref p/\xs=[kV k,y]/\Q ((atE es (keyPy k)).getD y) H
theorem aB9{es:L9 Ent}(hM:aB8 X.K X.w p es)(m:∀ e∈es,aT4 e)(nd:(es.map (·.1)).Nodup):MtR X "dict.get" (aJF X p es):=by
 intro ap s Z H x xs v us Q I r D h
 obtain⟨k,y,rfl,rfl,q⟩:=h
 cases(show v=Value.ref p from r)
 obtain⟨C,o,ar,ep,h1,h2,n,u⟩:=hM
 have h1:=I.kIn p o h1
 cases D with
 | @cons _ ku _ us r1 t=>
  cases t with
  | @cons _ yu _ us r2 t=>
   cases t
   obtain⟨xs,d,c,f⟩:=aBO (P:=X.prog) u m
   have j:(cD X.prog X.w).is k ku=true:=aGC r1
   have dd:s.heap.DictOf (cD X.prog X.w) p xs:=by
    refine⟨o,ar,ep,h1,h2,n,λA l=>f A (by simpa using l),d,?_⟩
    have:es.map (·.1)=(xs.map (·.1)).map keyPy:=by rw[AZ];exact lU (g:=λe:Ent=>e.1) (λa b h=>h.1) c
    rw[this]at nd
    exact qS nd
   refine FW C4 ⟨o,h1,h2.1⟩ FF (E6 _ _ _) (H9 (cD X.prog X.w) p j C yu) ⟨_,dd.mapOf,⟨_,H,I.tok _,?_,q⟩⟩
   have q:=lF (k:=k) c
   cases e:atE es (keyPy k)with
   | none=>rw[e]at q;rw[iE.none_of q];exact r2
   | some z=>
    rw[e]at q
    obtain⟨E,B,i⟩:=iE.some_of q
    rw[B];exact i
def sS(a0:L9 (Dz×Dz))(k y:Dz):R Dz:=if jY k=true then .ok ((cM a0 k).getD y)else .bad
theorem aCA{es:L9 Ent}{b:L9 (Dz×Dz)}{f g:Sg->R Dz}(hM:aB8 X.K X.w p es)(hr:∀ F,MapRel c.K F es b)(h:PE X e (aGU X "dict" (aJF X p es) (tC (.ref p)) (b9 (tV (bC c) c E f) (b9 (tV (bC c) c E g) eJ)))):PD X c E e (e2 (sS b) f g):=PE.imp h λZ H Q ⟨Y,F,ab,k⟩=>by
 refine⟨λap s v I r=>?_,Y,F,ab,(Rk.bind k).imp λd _ q v A H1 s1 r1=>?_⟩
 .cases (show v=Value.ref p from r)
  obtain⟨G,o,ar,ep,h1,h2,j,D⟩:=hM
  have h1:=I.kIn p o h1
  exact⟨⟨o,h1,h2.1⟩,λa z=>by cases z;exact⟨o,h1,h2.2.1⟩⟩
 .refine ⟨Y,A,ab.ext s1,((Rk.bind q).ext s1).imp λy _ q u i H2 m r2=>?_⟩
  unfold sS at q
  split at q
  .rename_i t
   obtain⟨l,rfl⟩:=x5 t
   obtain rfl:=x6 r1
   refine⟨l,u,rfl,rfl,?_⟩
   rcases(hr i).get (keyPy l)with ⟨n,x⟩|⟨B,C,h1,h2,j⟩
   · rw [x]at q; rw [n]; exact Rk.ok q u i H2 (s1.trans m) r2
   · rw [h2]at q; rw [h1]; exact Rk.ok q B i H2 (s1.trans m) j
  .exact q.elim
def pK(a b x y:Str):L9 Ent:=[(.str a,.str a,.str b),(.str x,.str x,.str y)]
theorem zW{F:Hp}{a b:Str}(h:a≠x):MapRel K F (pK a b x y) [(.str a,.str b),(.str x,.str y)]:=
 ⟨rfl,.cons (.str _) (.cons (.str _) .nil),.cons (.str _) (.cons (.str _) .nil),by simp[h]⟩
theorem zX{a b:Str}:∀ e∈pK a b x y,aT4 e:=by
 intro e c
 rcases AW.mp c with rfl|c
 .exact ⟨.inr a,rfl,rfl⟩
 .obtain rfl:=AM.mp c
  exact⟨.inr x,rfl,rfl⟩
theorem aWP{w:W9}{a b:Str}{d f e:Nat}(c:(p == sysModules)=false)(l:K.lookup p=some {cls:=.type "dict",data:=.dict #[{hash:=PyData.keyHash w.params a,key:=.str a g,val:=.str b d},{hash:=PyData.keyHash w.params x,key:=.str x f,val:=.str y e}] n}):aB8 K w p (pK a b x y):=
 ⟨c,_,_,_,l,⟨rfl,rfl,rfl⟩,rfl,.cons ⟨(nI w a).symm,⟨_,rfl⟩,⟨_,rfl⟩⟩ (.cons ⟨(nI w x).symm,⟨_,rfl⟩,⟨_,rfl⟩⟩ .nil)⟩
end
theorem aCB{a b:Str}(h:a≠x):((pK a b x y).map (·.1)).Nodup:=by simp[pK,h]
section
variable{X:Cx}{c:Ct}{E:XK}
end
section
variable{X:Cx}{c:Ct}{E:XK}{e:E2}{P:P9}{w:W9}{base:Hz}
end
end Fl
namespace L2
theorem bS.got{w:W9}{H:Hp}{h:Hz}{o:HO}(x:bS P w H h a o):∃ u,h.get? a=some u:=by
 cases o with
 | lst xs=>obtain⟨_,_,_,_,e⟩:=x;exact⟨_,e⟩
 | tup xs=>obtain⟨_,_,_,⟨o,e,_⟩⟩:=x;exact⟨_,e⟩
 | dK a0=>obtain⟨_,_,_,_,o,_,_,e,_⟩:=x;exact⟨_,e⟩
 | dT a0=>obtain⟨_,_,_,_,o,_,_,e,_⟩:=x;exact⟨_,e⟩
 | set S n=>obtain⟨o,_,_,_,e,_⟩:=x;exact⟨_,e⟩
 | ins C dx fs=>obtain⟨_,_,_,e,_⟩:=x;exact⟨_,e⟩
 | own y=>exact x
 | xd fs=>obtain⟨_,⟨_,_,_,e,_⟩,_⟩:=x;exact⟨_,e⟩
 | rng lo hi=>obtain⟨_,_,_,e⟩:=x;exact⟨_,e⟩
 | frz ob u=>exact⟨_,x.1⟩
 | tbl ps=>obtain⟨_,e,_⟩:=x;exact⟨_,e⟩
 | cod q=>obtain⟨c,o,vs,t,e,b,_⟩:=x;cases e;exact⟨_,b⟩
 | met f y=>exact⟨_,x⟩
 | ext φ=>exact x.2.1
theorem HOk.free{w:W9}{H:Hp}{h:Hz}(x:HOk P w H h)(e:h.get? a=none):H a=none:=by
 cases q:H a with
 | none=>rfl
 | some u=>
  obtain⟨o,z⟩:=(x a u q).got
  ext
def few(i:Int):Prop:=i=40\/i=60\/i=200\/i=300
end L2
namespace Fl
instance (i:Int):Decidable (few i):=by unfold few;infer_instance
section
variable{X:Cx}{c:Ct}{E:XK}{st:Stmt}{cn:Str}{C:Az}
end
end Fl
namespace HT
end HT
variable{qs:L9 (Pos×Str)}
namespace Fl
variable{F H:Hp}
def FnK(K:Frag)(H:Hp)(f:Az):Prop:=keepIn K (.ref f)=true\/∃ oc od fd sl,H f=some (FnO f ⟨oc,od,.func fd,sl⟩)
def aCC(X:Cx)(i:Nat)(E:XK)(t:TA):TE:=λZ H Q=>∃ f,Z[i]? = some (some (.ref f))/\FnK X.K H f/\t Z H λvs H1=>FnK X.K H1 f/\∃ k fd ps sp,Room k X.A/\FnOk X.prog X.w X.K X.mg X.base (CXe X.prog X.w) k f fd ps sp/\jX X.K fd ps []/\sp vs H1 Q E
theorem u0{X:Cx}{E:XK}{p pos:Pos}{t:TA}(G:PE X (.Name x p) (iW i))(hx:lC (CXe X.prog X.w) X E)(z:PA X (e::es) t)
  (B:starEach (e::es) X.env=(false,eval e X.env)::starEach es X.env:=by rfl) (hpl:(backTo pos (starEach es X.env)).any (·.1)=false:=by rfl):PE X (.Call (.Name x p) (e::es) [] pos) (aCC X i E t):=by
 intro ap s Z H Q I h
 obtain⟨f,C,d,h⟩:=h
 refine CZ (thn (G ap s Z H (λv H'=>v=.ref f/\H'=H) I ⟨_,C,rfl,rfl⟩) λu y n=>?_)
 obtain⟨v,m,b,D,e1,e2⟩:=n
 subst e1 e2
 obtain rfl:u=Value.ref f:=D
 have g:∀ (us:L9 V9) (s1:S9),AP X ap Z (λvs H1=>FnK X.K H1 f/\∃ k fd ps sp,Room k X.A/\FnOk X.prog X.w X.K X.mg X.base (CXe X.prog X.w) k f fd ps sp/\jX X.K fd ps []/\sp vs H1 Q E) us s1->
   (∃ H1,Inv X ap Z H1 s1/\FnK X.K H1 f)/\wpAny (model X.prog X.w) X.A (call (.ref f) us) (EP X ap Z Q) X.xe s1:=by
  rintro us s1 ⟨vs,H1,c,r,a,k,fd,ps,sp,hr,F,hb,q⟩
  refine⟨⟨H1,c,a⟩,aHX (dvs:=[]) (ds:=[]) F hr hb .nil hx c r ?_⟩
  simp_all
 rcases d with d|⟨l,od,fd,sl,d⟩
 .refine GK (h₀:=X.base) b.ok.mod.kin d (thn (z pos ap y Z m _ b h) λus s1 j=>?_) B hpl
  obtain⟨⟨H1,c,_⟩,q⟩:=g us s1 j
  exact⟨c.kIn,q⟩
 .refine PySem.W.callWith_F ⟨l,od,fd,sl,FnO.get b.hok d⟩ (thn (z pos ap y Z m _ b h) λus s1 j=>?_) B hpl
  obtain⟨⟨H1,c,a⟩,q⟩:=g us s1 j
  refine⟨?_,q⟩
  rcases a with a|⟨l,od,fd,sl,a⟩
  .cases e:X.K.lookup f with
   | none=>unfold keepIn at a;dsimp only at a;rw[e]at a;cases a
   | some o=>
    have e1:=c.kIn f o e
    exfalso
    have e2:=b.kIn f o e
    obtain⟨o',h1,h2⟩:∃ o',m f=some (FnO f o')/\True:=⟨_,d,trivial⟩
    have J:=b.bs f o (b.ok.mod.kin f o e)
    ext
  .exact ⟨l,od,fd,sl,FnO.get c.hok a⟩
def yI(m i:Nat)(f:Sg->R (L9 Dz)):Sg->R Dz:=λY=>match Y[i]? with
 | some (some (.g k n G))=>(f Y).bind λds=>if k<=m/\ds.length=n then G ds else .bad
 | _=>.bad
theorem aJG{X:Cx}{c:Ct}{E:XK}{m:Nat}{T:Hp}{f:Sg->R (L9 Dz)}(hG:c.g=gOf X.prog X.w X.K X.mg X.base T)(y:X.K=c.K)(hM:X.mg=c.mg)(hr:Room m X.A)(h:PE X e (aCC X i E (tAd c E f))):PD X c E e (yI m i f):=PE.imp h λZ H Q ⟨Y,F,ab,k⟩=>by
 unfold yI at k
 split at k
 .rename_i l n G hi
  obtain⟨v,I,L⟩:=ab.slot i _ hi
  obtain⟨t,P,rfl,s1,B⟩:=(show AF c.g c.K c.mg F (.g l n G) v from L)
  rw[hG]at B
  obtain⟨fd,ps,N,S,O,J⟩:=(show Beh X.prog X.w X.K X.mg X.base T t P l n G from B)
  have j:∀ b H',aC F b->aC b H'->FnK X.K H' t:=λb H' M U=>J.imp id λ⟨D,od,fd,sl,e⟩=>⟨D,od,fd,sl,U _ _ (M _ _ (s1 _ _ e))⟩
  refine⟨t,I,j F H (a7 F) ab.fh,Y,F,ab,(Rk.bind k).imp λds _ q vs b H' e1 r=>?_⟩
  refine⟨j b H' e1.ff e1.fh,?_⟩
  by_cases p:l<=m/\ds.length=n
  .rw[AN p]at q
   refine⟨l,fd,ps,_,hr.mono p.1,O,S,b,ds,λa o z=>e1.ff a o (s1 a o z),λa o z=>e1.ff a o (ab.f0 a o (ab.t0 a o (by rw[hG];exact z))),e1.fh,by rw[y];exact r,p.2,?_⟩
   cases u:G ds with
   | bad=>rw[u]at q;exact q
   | ok d=>rw[u]at q;exact λv s H2 e2 r2=>Rk.ok q v s H2 (e1.trans e2) (by rw[y]at r2;exact r2)
   | ex x=>rw[u]at q;exact λa C s H2 e2 r2=>q a C s H2 ((ab.all.trans e1).trans e2) (by rw[y,hM]at r2;exact r2)
  .rw[AL p]at q;exact q.elim
 .exact k.elim
noncomputable def sT:Dz->Bool
 | .none=>true
 | .bool _=>true
 | .int _=>true
 | .str _=>true
 | _=>false
theorem aL9{a:Hp}{v:V}{d:Dz}(h:sT d=true)(r:DatV K F v d):DatV K a v d:=by
 cases d with
 | none=>cases r;exact .non
 | bool b=>cases r;exact .bl b
 | int i=>cases r;exact .int i
 | str x=>cases r;exact .str x
 | list xs=>cases h
 | tuple xs=>cases h
 | dict xs=>cases h
def k8(K:Frag)(F H:Hp):L9 V->L9 Dz->Prop
 | [],[]=>True
 | v::vs,d::ds=>aM K F H v d/\k8 K F H vs ds
 | _,_=>False
theorem k8.ext{F' H':Hp}(e:Ext F H F' H'):∀ {vs:L9 V} {ds:L9 Dz},k8 K F H vs ds->k8 K F' H' vs ds
 | [],[],_=>trivial
 | v::vs,d::ds,h=>⟨aM.ext e h.1,k8.ext e h.2⟩
theorem k8.len:∀ {vs:L9 V} {ds:L9 Dz},k8 K F H vs ds->vs.length=ds.length
 | [],[],_=>rfl
 | v::vs,d::ds,h=>by rw[A7,A7,k8.len h.2]
def tAr(c:Ct)(E:XK)(f:Sg->R (L9 Dz)):TA:=λZ H Q=>∃ Y F,Ab c Y Z F H/\Rk c E F H (f Y) λds=>∀ vs F' H',Ext F H F' H'->k8 c.K F' H' vs ds->Q vs H'
theorem aQB{X:Cx}{c:Ct}{E:XK}:PA X [] (tAr c E aB):=PA.imp bE λZ H Q ⟨Y,F,ab,k⟩=>Rk.ok k [] F H (Ext.refl ab.fh) trivial
theorem aCD{X:Cx}{c:Ct}{E:XK}{f:Sg->R Dz}{g:Sg->R (L9 Dz)}(h:PR X c E e f)(h2:PA X es (tAr c E g))(j:starEach (e::es) X.env=(false,eval e X.env)::starEach es X.env:=by rfl):PA X (e::es) (tAr c E (aA f g)):=PA.imp (aX h h2 j) λZ H Q a=>by
 obtain⟨Y,F,ab,k⟩:=a
 refine⟨Y,F,ab,(Rk.bind k).imp λx _ q v i H1 s1 r1=>⟨Y,i,ab.ext s1,((Rk.bind q).ext s1).imp λxs _ q vs d H2 b r2=>?_⟩⟩
 exact Rk.ok q (v::vs) d H2 (s1.trans b) ⟨aM.ext b r1,r2⟩
theorem aT5(s:aC F H):∀ {vs:L9 V} {ds:L9 Dz},k8 K F H vs ds->∃ FL,aC F FL/\aC FL H/\DatVs K FL vs ds
 | [],[],_=>⟨F,a7 F,s,.nil⟩
 | v::vs,d::ds,h=>by
  obtain⟨FL,a,b,r⟩:=aT5 s h.2
  rcases h.1 with q|⟨p,us,xs,rfl,rfl,h1,h2⟩
  .exact ⟨FL,a,b,.cons (q.same a) r⟩
  .refine ⟨λx=>if x=p then some (.lst us)else FL x,λx o z=>?_,λx o z=>?_,?_⟩
   .by_cases c:x=p
    .subst c
     have:=s x o z
     ext
    .exact (AL c).trans (a x o z)
   .by_cases c:x=p
    .grind
    .exact b x o ((AL c).symm.trans z)
   .have e:aC FL (λx=>if x=p then some (.lst us)else FL x):=λx o z=>by
     by_cases c:x=p
     .subst c
      have:=b x o z
      ext
     .grind
    exact .cons (.lst (SqL.of (AN rfl)) (h2.same λx o z=>e x o (a x o z))) (r.same e)
def aAT(m i:Nat)(f:Sg->R (L9 Dz)):Sg->R Dz:=λY=>match Y[i]? with
 | some (some (.g k n G))=>(f Y).bind λds=>if k<=m/\ds.length=n then(match G ds with | .ok d=>if sT d=true then .ok d else .bad|_=>.bad)else .bad
 | _=>.bad
theorem aQC{X:Cx}{c:Ct}{E:XK}{m:Nat}{T:Hp}{f:Sg->R (L9 Dz)}(hG:c.g=gOf X.prog X.w X.K X.mg X.base T)(D:X.K=c.K)(hM:X.mg=c.mg)(hr:Room m X.A)(h:PE X e (aCC X i E (tAr c E f))):PD X c E e (aAT m i f):=PE.imp h λZ H Q ⟨Y,F,ab,k⟩=>by
 unfold aAT at k
 split at k
 .rename_i p n G hi
  obtain⟨v,I,S⟩:=ab.slot i _ hi
  obtain⟨y,W,rfl,s1,B⟩:=(show AF c.g c.K c.mg F (.g p n G) v from S)
  rw[hG]at B
  obtain⟨fd,ps,U,N,V,J⟩:=(show Beh X.prog X.w X.K X.mg X.base T y W p n G from B)
  have l:∀ j H',aC F j->aC j H'->FnK X.K H' y:=λj H' L O=>J.imp id λ⟨P,od,fd,sl,e⟩=>⟨P,od,fd,sl,O _ _ (L _ _ (s1 _ _ e))⟩
  refine⟨y,I,l F H (a7 F) ab.fh,Y,F,ab,(Rk.bind k).imp λds _ q vs j H' e1 r=>?_⟩
  refine⟨l j H' e1.ff e1.fh,?_⟩
  by_cases t:p<=m/\ds.length=n
  .rw[AN t]at q
   obtain⟨FL,a,b,M⟩:=aT5 e1.fh r
   refine⟨p,fd,ps,_,hr.mono t.1,V,N,FL,ds,λx o z=>a x o (e1.ff x o (s1 x o z)),λx o z=>a x o (e1.ff x o (ab.f0 x o (ab.t0 x o (by rw[hG];exact z)))),b,by rw[D];exact M,t.2,?_⟩
   cases C:G ds with
   | bad=>rw[C]at q;exact q
   | ok d=>
    rw[C]at q
    intro v F2 H2 e2 r2
    have s:Rk c E F H (if sT d=true then R.ok d else .bad) _:=q
    by_cases u:sT d=true
    .rw[AN u]at s
     refine Rk.ok s v j H2 (e1.trans ⟨e2.hh,a7 j,λx o z=>e2.hh x o (e1.fh x o z),λx z n=>absurd z n⟩) (by rw[D]at r2;exact aL9 u r2)
    .rw[AL u]at s;exact s.elim
   | ex x=>rw[C]at q;exact q.elim
  .rw[AL t]at q;exact q.elim
 .exact k.elim
theorem aQD{xs:L9 V}(b:Celd cs F)(h:SqL K F a xs):SqL K (hid cs F) a xs:=by
 rcases h with (h|⟨o,h⟩)|h
 · exact .inl (.inl (by rw [a9 (b.out h λ_ v z => nomatch z)]; exact h))
 · exact .inl (.inr ⟨o, by rw [a9 (b.out h λ_ v z => by unfold dF at z; cases z)]; exact h⟩)
 · exact .inr h
theorem aQE{xs:L9 V}(b:Celd cs F)(h:SqT K F a xs):SqT K (hid cs F) a xs:=by
 rcases h with (h|⟨o,h⟩)|h
 · exact .inl (.inl (by rw [a9 (b.out h λ_ v z => nomatch z)]; exact h))
 · exact .inl (.inr ⟨o, by rw [a9 (b.out h λ_ v z => by unfold dF at z; cases z)]; exact h⟩)
 · exact .inr h
mutual
theorem aET(hc:Celd cs F):∀ {v:V} {d:Dz},DatV K F v d->DatV K (hid cs F) v d
 | _,_,.non=>.non
 | _,_,.bl b=>.bl b
 | _,_,.int i=>.int i
 | _,_,.str x=>.str x
 | _,_,.lst h r=>.lst (aQD hc h) (mO hc r)
 | _,_,.tup h r=>.tup (aQE hc h) (mO hc r)
 | _,_,.pl h=>.pl (by rw[a9 (hc.out h λ_ v z=>nomatch z)];exact h)
theorem mO(hc:Celd cs F):∀ {vs:L9 V} {ds:L9 Dz},DatVs K F vs ds->DatVs K (hid cs F) vs ds
 | _,_,.nil=>.nil
 | _,_,.cons h r=>.cons (aET hc h) (mO hc r)
end
theorem aQF{e C b:Az}{od:O9 Az}{o:Obj}{v:V}(h:ExO e C od=dF b o v):False:=by unfold ExO dF at h;cases h
theorem aMA{K:Frag}{mg:Str->O9 V9}{F:Hp}{e:Er}{a C:Az}{cs:L9 Az}(b:Celd cs F)(h:kG K mg F e a C):kG K mg (hid cs F) e a C/\a∉cs:=by
 obtain⟨m,od,h1,h2⟩:=h
 have c:=b.out h1 λ_ v z=>aQF z
 refine⟨⟨m,od,by rw[a9 c];exact h1,h2.imp id ?_⟩,c⟩
 rintro ⟨d,fvs,e1,e2,e3,e4⟩
 exact⟨d,fvs,e1,by rw[a9 (b.out e2 λ_ v z=>nomatch z)];exact e2,e3,mO b e4⟩
theorem aCE{c:Cv}{H a:Hp}(s:aC (pub c H) a):Celd (cL c) a:=λb d=>by
 obtain⟨p,e⟩:=gY.mp d
 exact⟨p.1,p.2,s _ _ (qR e)⟩
theorem aMB{a:Cv}{F H:Hp}(s:aC F H):aC (pub a F) (pub a H):=λb o e=>by
 by_cases c:b∈cL a
 .obtain ⟨p,q⟩:=gY.mp c
  rw[qR q]at e ⊢;exact e
 .rw[dG c]at e ⊢;exact s b o e
theorem zY{c:Cv}{F H f H2:Hp}(g:∀ b∈cL c,H b=none)(s:aC F H)(e:Ext (pub c F) (pub c H) f H2):Ext F H (hid (cL c) f) (hid (cL c) H2):=by
 have i:∀ b∈cL c,F b=none:=λb a=>aP s (g b a)
 have outH:∀ b o,H b=some o->b∉cL c:=λb o q z=>by rw[g b z]at q;cases q
 have d:∀ b o,F b=some o->b∉cL c:=λb o q z=>by rw[i b z]at q;cases q
 refine⟨λb o q=>?_,λb o q=>?_,λb o q=>?_,λb q n=>?_⟩
 .have a:=outH b o q
  rw[a9 a];exact e.hh b o (by rw[dG a];exact q)
 .have a:=d b o q
  rw[a9 a];exact e.ff b o (by rw[dG a];exact q)
 .obtain ⟨h,a⟩:=o7 q
  rw[a9 a];exact e.fh b o h
 .by_cases a:b∈cL c
  .exact absurd (oG a) n
  .rw[a9 a]at n
   have:=e.nw b (by rw[dG a];exact q) n
   unfold lV at this ⊢
   rw[dG a]at this;exact this
noncomputable def dOf:R A->R Dz
 | .ok (.d x)=>.ok x
 | .ok _=>.bad
 | .ex e=>.ex e
 | .bad=>.bad
def CloOk(P:P9)(w:W9)(K:Frag)(mg:Str->O9 V9)(base:Hz)(T:Hp)(S:ClSt)(fr:L9 Str)(k n:Nat)(Gm:L9 A->L9 Dz->R Dz):Prop:=
 ∀ (F0 F1:Hp) (caps:L9 A) (cvs:L9 V) (f:Az) (cl:L9 (Str×Az)) (doc pm ct:V9) (cc:Az),aC T F0->AFs (gOf P w K mg base T) K mg F0 caps cvs->aC F0 F1->
  F1 f=some (FnO f (S.obj cl doc pm cc ct))->F1 cc=some (.cod S.qual)->CapAt F1 fr cl cvs->(∀ c∈aT fr cl,F0 c=none)->Beh P w K mg base T f F1 k n (Gm caps)
theorem aEU{cs:L9 Az}{F H d H2:Hp}(s:aC F H)(i:Celd cs F)(g:∀ c∈cs,H2 c=none)(e:Ext (hid cs F) (hid cs H) d H2):Ext F H (shw cs F d) (shw cs H H2)/\aC d (shw cs F d):=by
 have f:∀ c∈cs,d c=none:=λc h=>aP e.fh (g c h)
 refine⟨⟨λb o q=>?_,λb o q=>?_,λb o q=>?_,λb q n=>?_⟩,λb o q=>?_⟩
 .by_cases a:b∈cs
  .rw[qQ a];exact q
  .rw[dE a];exact e.hh b o (by rw[a9 a];exact q)
 .by_cases a:b∈cs
  .rw[qQ a];exact q
  .rw[dE a];exact e.ff b o (by rw[a9 a];exact q)
 .by_cases a:b∈cs
  .rw[qQ a]at q ⊢;exact s b o q
  .rw[dE a]at q ⊢;exact e.fh b o q
 .by_cases a:b∈cs
  .obtain ⟨o,v,z⟩:=i b a
   ext
  .rw[dE a]at n
   have:=e.nw b (by rw[a9 a];exact q) n
   unfold lV at this ⊢
   rw[a9 a]at this;exact this
 .rw[dE λz=>by rw[f b z]at q;cases q];exact q
theorem AFs.data{g:Gb}{K:Frag}{mg:Str->O9 V9}{F:Hp}:∀ {vs:L9 V} {ds:L9 Dz},DatVs K F vs ds->AFs g K mg F (ds.map .d) vs
 | _,_,.nil=>trivial
 | _,_,.cons h r=>⟨h,AFs.data r⟩
theorem AFs.append{g:Gb}{K:Frag}{mg:Str->O9 V9}{F:Hp}:∀ {as bs:L9 A} {vs us:L9 V},AFs g K mg F as vs->AFs g K mg F bs us->AFs g K mg F (as++bs) (vs++us)
 | [],_,[],_,_,h=>h
 | a::as,bs,v::vs,us,h,h2=>⟨h.1,AFs.append h.2 h2⟩
section
variable{P:P9}{w:W9}{K:Frag}{mg:Str->O9 V9}{base:Hz}{T:Hp}{S:ClSt}{N ps fr:L9 Str}{k:Nat}
theorem zZ{e j F H:Hp}{a:L9 A}{cvs vs:L9 V}(i:aC T e)(f:AFs (gOf P w K mg base T) K mg e a cvs)(k:aC e j)(g:aC j F)(h:aC F H)(C:CapAt j fr cl cvs)(l:∀ c∈aT fr cl,e c=none)(r:DatVs K F vs ds) :
  Celd (aT fr cl) F/\aC T (hid (aT fr cl) F)/\aC (hid (aT fr cl) F) (hid (aT fr cl) H)/\AFs (gOf P w K mg base T) K mg (hid (aT fr cl) F) (ds.map .d++a) (vs++cvs):=by
 have m:Celd (aT fr cl) F:=(C.same g).celd
 have n:aC e (hid (aT fr cl) F):=λb o q=>by
  rw[a9 λz=>by rw[l b z]at q;cases q];exact g b o (k b o q)
 refine⟨m,λb o q=>n b o (i b o q),λb o q=>?_,(AFs.data (mO m r)).append (f.same n)⟩
 obtain⟨p,s⟩:=o7 q
 rw[a9 s];exact h b o p
def cB(n:Nat)(fb:Sg->R Fw):L9 A->L9 Dz->R Dz:=λcaps ds=>dOf (fnF n fb (ds.map .d++caps))
theorem aEV{F H:Hp}{Q:VK}{E:XK}{r:R A}(b:aC F H)(j:Celd cs F)(h:match dOf r with
 | .bad=>False
 | .ok d=>∀ v F' H',Ext F H F' H'->DatV K F' v d->Q v H'
 | .ex e=>∀ a C F' H',Ext F H F' H'->kG K mg F' e a C->E (.ref C) (some a) H'):match (generalizing:=false) r with
 | .bad=>False
 | .ok a=>∀ v F' H',Ext (hid cs F) (hid cs H) F' H'->AF (gOf P w K mg base T) K mg F' a v->(∀ a∈cs,H' a=none)->Q v (shw cs H H')
 | .ex e=>∀ a C F' H',Ext (hid cs F) (hid cs H) F' H'->kG K mg F' e a C->(∀ a∈cs,H' a=none)->E (.ref C) (some a) (shw cs H H'):=by
 cases r with
 | bad=>exact h
 | ok a=>
  cases a with
  | d x=>
   intro v F' H' e q i
   obtain⟨e2,c⟩:=aEU b j i e
   exact h v _ _ e2 (DatV.same c q)
  | l xs=>exact False.elim h
  | m xs=>exact False.elim h
  | x e=>exact False.elim h
  | g k n f=>exact False.elim h
  | k S=>exact False.elim h
  | f S=>exact False.elim h
  | o S=>exact False.elim h
  | w S=>exact False.elim h
 | ex x=>
  intro a C F' H' e q i
  obtain⟨e2,c⟩:=aEU b j i e
  exact h a C _ _ e2 (q.same c)
theorem wQ{body:L9 Stmt}{fb:Sg->R Fw}(hb:S.body=.stmts body)(Sc:CloScope N ps fr S.scope)(x:∀ (cl:L9 (Str×Az)) (doc pm:V9) (cc:Az) (ct:V9) (us:L9 V9),us.length=ps.length->bindArgs (S.fd cl doc pm cc ct) ⟨us,[]⟩=pure (ps.zip us))
  (g:∀ (f cc:Az) (cl:L9 (Str×Az)) (A:U9) (outer:L9 Env) (s:S9) (H F:Hp) (E E':XK),Room k (A.deeper (bU S.qual S.scope s.heap.objs.size f (.ref cc) cl))->
   lL ((iQ (CXe P w) P w K mg base N fr S.qual S.scope f (.ref cc) cl A outer s H E').fly E) ⟨K,mg,w,F,hid (aT fr cl) H,gOf P w K mg base T,(bU S.qual S.scope s.heap.objs.size f (.ref cc) cl).cells,λ_=>none⟩ E body fb) :
  CloOk P w K mg base T S fr (k+1) ps.length (cB N.length fb):=by
 intro X Z i cvs f cl doc pm ct cc y j B D p C q
 refine⟨S.fd cl doc pm cc ct,ps,rfl,.all (x cl doc pm cc ct),⟨λvs H Q E h=>?_,λA outer s H args us vs Q E hr M t W u=>?_⟩,.inr ⟨_,_,_,_,D⟩⟩
 .obtain ⟨F,ds,_,_,_,h1,h2,_⟩:=h
  rw[h1.length,h2]
 .obtain ⟨F,ds,h1,h2,l,G,I,J⟩:=u
  obtain⟨V,O,U,L⟩:=zZ y j B h1 l C q G
  refine aIE hb (l _ _ (h1 _ _ D)) (l _ _ (h1 _ _ p)) Sc (C.same λb o z=>l b o (h1 b o z)) hr M t W (by rw[G.length,I]) λm=>⟨_,g f cc cl A outer s H (hid (aT fr cl) F) _ E m,?_⟩
  have Y:=aEV (P:=P) (w:=w) (base:=base) (T:=T) (r:=fnF N.length fb (ds.map .d++i)) l V J
  refine sQ (n:=N.length) (fb:=fb) (Q:=λv H'=>(∀ a∈aT fr cl,H' a=none)->Q v (shw (aT fr cl) H H')) (E:=λc e H'=>(∀ a∈aT fr cl,H' a=none)->E c e (shw (aT fr cl) H H')) O U L ?_
  ext
theorem aJH{body:E2}{fe:Sg->R Dz}(hb:S.body=.expr body)(Sc:CloScope N ps fr S.scope)(u:∀ (cl:L9 (Str×Az)) (doc pm:V9) (cc:Az) (ct:V9) (us:L9 V9),us.length=ps.length->bindArgs (S.fd cl doc pm cc ct) ⟨us,[]⟩=pure (ps.zip us))
  (g:∀ (f cc:Az) (cl:L9 (Str×Az)) (A:U9) (outer:L9 Env) (s:S9) (H F:Hp) (E E':XK),Room k (A.deeper (bU S.qual S.scope s.heap.objs.size f (.ref cc) cl))->
   PD ((iQ (CXe P w) P w K mg base N fr S.qual S.scope f (.ref cc) cl A outer s H E').fly E) ⟨K,mg,w,F,hid (aT fr cl) H,gOf P w K mg base T,(bU S.qual S.scope s.heap.objs.size f (.ref cc) cl).cells,λ_=>none⟩ E body fe) :
  CloOk P w K mg base T S fr (k+1) ps.length (cB N.length (aN (vD fe))):=by
 intro Z F1 c cvs f cl doc pm ct cc y j B I n C p
 refine⟨S.fd cl doc pm cc ct,ps,rfl,.all (u cl doc pm cc ct),⟨λvs H Q E h=>?_,λA outer s H args us vs Q E hr U q Y t=>?_⟩,.inr ⟨_,_,_,_,I⟩⟩
 .obtain ⟨F,ds,_,_,_,h1,h2,_⟩:=h
  rw[h1.length,h2]
 .obtain ⟨F,ds,h1,h2,l,J,L,M⟩:=t
  obtain⟨X,V,W,O⟩:=zZ y j B h1 l C p J
  refine aLM hb (l _ _ (h1 _ _ I)) (l _ _ (h1 _ _ n)) Sc (C.same λb o z=>l b o (h1 b o z)) hr U q Y (by rw[J.length,L]) λm=>⟨_,g f cc cl A outer s H (hid (aT fr cl) F) _ E m,?_⟩
  have i:=aEV (P:=P) (w:=w) (base:=base) (T:=T) (r:=fnF N.length (aN (vD fe)) (ds.map .d++c)) l X M
  refine⟨_,_,aBY V W O,?_⟩
  unfold fnF aN vD at i
  cases e:fe ((ds.map Fl.A.d++c).map some++replicate (N.length - (ds.map Fl.A.d++c).length) none)with
  | bad=>rw[e]at i;exact i
  | ok d=>rw[e]at i;exact λv D H' e1 r1 G=>i v D H' e1 r1 G
  | ex x=>rw[e]at i;exact λa C D H' e1 r1 G=>i a C D H' e1 r1 G
end
def pM(c:Ct)(F:Hp)(S:ClSt)(v:V):Prop:=∃ f cl doc pm cc ct,v=.ref f/\F f=some (FnO f (S.obj cl doc pm cc ct))/\F cc=some (.cod S.qual)/\ClOf c.cells S.scope cl
theorem pM.same{c:Ct}{F a:Hp}{S:ClSt}{v:V}(s:aC F a):pM c F S v->pM c a S v:=by
 rintro ⟨f,cl,doc,pm,cc,ct,h1,h2,h3,h4⟩
 exact⟨f,cl,doc,pm,cc,ct,h1,s _ _ h2,s _ _ h3,h4⟩
theorem aEW{c:Ct}{S:ClSt}{P0:Az}{qs:L9 (Pos×Str)}{cells:L9 (Str×Az)}{Y:Sg}{Z:L2.St}{F H:Hp}{Q:VK}(i:cells=c.cells)(m:c.g.T P0=some (.tbl qs))(ab:Ab c Y Z F H)(h:∀ v F' H',Ext F H F' H'->pM c F' S v->Q v H'):tMk cells S P0 qs Z H Q:=by
 subst i
 refine⟨ab.fh _ _ (ab.f0 _ _ (ab.t0 _ _ m)),λf b cl doc pm ct H1 k l e=>?_⟩
 have e1:∃ d,Ext F H d H1/\d b=some (.cod S.qual):=by
  rcases k with ⟨q,rfl⟩|⟨q,rfl⟩
  .refine ⟨upd F b (.cod S.qual),⟨a7 _,λa o z=>?_,λa o z=>?_,λa z n=>?_⟩,aL⟩
   .by_cases w:a=b
    .subst w
     have:=ab.fh a o z
     rw[q]at this;cases this
     exact aL
    .rw[aE w];exact z
   .by_cases w:a=b
    .subst w;rw[aL]at z;rw[q];exact z
    .rw[aE w]at z;exact ab.fh a o z
   .by_cases w:a=b
    .subst w;exact .inr ⟨_,q⟩
    .rw[aE w]at n;exact absurd z n
  .exact ⟨upd F b (.cod S.qual),Ext.new ab.fh q,aL⟩
 obtain⟨d,e1,j⟩:=e1
 have e2:Ext d H1 (upd d f (FnO f (S.obj cl doc pm b ct))) (upd H1 f (FnO f (S.obj cl doc pm b ct))):=Ext.new e1.fh l
 exact h (.ref f) _ _ (e1.trans e2) ⟨f,cl,doc,pm,b,ct,rfl,aL,e2.ff _ _ j,e⟩
noncomputable def nN(i:Nat)(q:Str):Sg->R Fw:=λY=>.ok (.nx (Y.set i (some (.k q))))
theorem sU{X:Cx}{c:Ct}{E:XK}{st:Stmt}{i:Nat}{q:Str}{S:ClSt}{P0:Az}{qs:L9 (Pos×Str)}{cells:L9 (Str×Az)}(b:cells=c.cells)(m:c.cls q=some S)(n:c.g.T P0=some (.tbl qs))(h:PS X st (kD (tMk cells S P0 qs) (i6 i))):PSf X c E st (nN i q):=PS.imp h λD Z H d=>by
 obtain⟨Y,F,ab,k⟩:=d
 refine aEW b n ab λv j H' e l=>?_
 exact Rk.ok k _ j H' e.ff ((ab.ext e).setF (a:=.k q) (let ⟨f,cl,doc,pm,cc,ct,h⟩:=l;⟨S,f,cl,doc,pm,cc,ct,m,h⟩) λz=>nomatch z)
noncomputable def nO:O9 (O9 A)->O9 A
 | some (some (.d x))=>some (.d x)
 | some (some (.x e))=>some (.x e)
 | some (some (.g k n G))=>some (.g k n G)
 | _=>none
noncomputable def eK:L9 Nat->Sg->O9 (L9 A)
 | [],_=>some []
 | j::js,Y=>match nO Y[j]?,eK js Y with
  | some a,some as=>some (a::as)
  | _,_=>none
theorem wR{o:O9 (O9 A)}{a:A}(h:nO o=some a):o=some (some a)/\∀ {c:Ct} {F H:Hp} {v:V},AO c F H a v->AF c.g c.K c.mg F a v:=by
 unfold nO at h
 split at h<;>cases h
 · exact⟨rfl, λz => z⟩
 · exact⟨rfl, λz => z⟩
 · exact⟨rfl, λz => z⟩
theorem aEX{c:Ct}{Y:Sg}{Z:L2.St}{F H:Hp}(ab:Ab c Y Z F H):∀ {js:L9 Nat} {caps:L9 A},eK js Y=some caps->∃ cvs,AFs c.g c.K c.mg F caps cvs/\cvs.length=js.length/\∀ (i:Nat) j,js[i]? = some j->∃ v,cvs[i]? = some v/\Z[j]? = some (some v)
 | [],_,h=>by cases h;exact⟨[],trivial,rfl,λi j z=>by simp at z⟩
 | j::js,caps,h=>by
  unfold eK at h
  split at h
  .rename_i a as h1 h2
   cases h
   obtain⟨cvs,r,l,g⟩:=aEX ab h2
   obtain⟨f,m⟩:=wR h1
   obtain⟨v,k,o⟩:=ab.slot j a f
   refine⟨v::cvs,⟨m o,r⟩,by simp[l],λi d e=>?_⟩
   cases i with
   | zero=>simp at e;subst e;exact⟨v,rfl,k⟩
   | succ i=>obtain⟨p,b,n⟩:=g i d (by simpa using e);exact⟨p,by simpa using b,n⟩
  .cases h
def aCF(X:Cx)(T:Hp)(c:Ct)(js:L9 Nat)(Y:Sg)(F:Hp)(a:A)(v:V):Prop:=AF c.g c.K c.mg F a v \/
 ∃ S fr sl k n Gm caps,a=.g k n (Gm caps)/\pM c F S v/\CloOk X.prog X.w X.K X.mg X.base T S fr k n Gm/\(∀ y,(y,NameKind.free)∈S.scope.names->y∈fr)/\(∀ y∈fr,(y,NameKind.free)∈S.scope.names)/\sl.map (λj=>X.N[j]?)=fr.map some/\(∀ j∈sl,j∈js)/\eK sl Y=some caps
theorem aCF.same{X:Cx}{T:Hp}{c:Ct}{js:L9 Nat}{Y:Sg}{F d:Hp}{a:A}{v:V}(s:aC F d)(h:aCF X T c js Y F a v):aCF X T c js Y d a v:=by
 rcases h with h|⟨S,fr,sl,k,n,Gm,b,h1,h2,e⟩
 · exact .inl (AF.same s h)
 · exact .inr ⟨S, fr, sl, k, n, Gm, b, h1, h2.same s, e⟩
def aGV(X:Cx)(T:Hp)(c:Ct)(js:L9 Nat)(Y:Sg)(F:Hp):L9 A->L9 V->Prop
 | [],[]=>True
 | a::as,v::vs=>aCF X T c js Y F a v/\aGV X T c js Y F as vs
 | _,_=>False
def tK1(X:Cx)(T:Hp)(c:Ct)(js:L9 Nat)(E:XK)(f:Sg->R A):TE:=λZ H Q=>∃ Y F,Ab c Y Z F H/\Rk c E F H (f Y) λa=>∀ v F' H',Ext F H F' H'->aCF X T c js Y F' a v->Q v H'
def tKs(X:Cx)(T:Hp)(c:Ct)(js:L9 Nat)(E:XK)(f:Sg->R (L9 A)):TA:=λZ H Q=>∃ Y F,Ab c Y Z F H/\Rk c E F H (f Y) λas=>∀ vs F' H',Ext F H F' H'->aGV X T c js Y F' as vs->Q vs H'
section
variable{X:Cx}{T:Hp}{c:Ct}{js:L9 Nat}{E:XK}{e:E2}{es:L9 E2}
theorem sV{f:Sg->R A}(h:PV X c E e f):PE X e (tK1 X T c js E f):=PE.imp h λZ H Q ⟨Y,F,ab,k⟩=>⟨Y,F,ab,k.imp λa _ q v b H' e1 r=>q v b H' e1 (.inl r)⟩
def lX(q:Str)(sl:L9 Nat)(k n:Nat)(Gm:L9 A->L9 Dz->R Dz)(i:Nat):Sg->R A:=λY=>match Y[i]?,eK sl Y with
 | some (some (.k q')),some caps=>if q'=q then .ok (.g k n (Gm caps))else .bad
 | _,_=>.bad
theorem sW{q:Str}{S:ClSt}{sl:L9 Nat}{Gm:L9 A->L9 Dz->R Dz}(p:c.cls q=some S)(M:CloOk X.prog X.w X.K X.mg X.base T S fr k n Gm)(h1:∀ y,(y,NameKind.free)∈S.scope.names->y∈fr)(h2:∀ y∈fr,(y,NameKind.free)∈S.scope.names)
  (o:sl.map (λj=>X.N[j]?)=fr.map some) (r:∀ j∈sl,j∈js) (h:PE X e (iW i)):PE X e (tK1 X T c js E (lX q sl k n Gm i)):=PE.imp h λZ H Q ⟨Y,F,ab,k⟩=>by
 unfold lX at k
 split at k
 .rename_i s a hi t
  by_cases b:s=q
  .rw[AN b]at k
   subst b
   obtain⟨v,m,u,f,cl,doc,pm,l,ct,g,d⟩:=ab.slot i _ hi
   rw[p]at g;cases g
   have d:pM c F S v:=⟨f,cl,doc,pm,l,ct,d⟩
   exact⟨v,m,Rk.ok k v F H (Ext.refl ab.fh) (.inr ⟨_,fr,sl,_,_,Gm,a,rfl,d,M,h1,h2,o,r,t⟩)⟩
  .rw[AL b]at k;exact k.elim
 .exact k.elim
def pN(sl:L9 Nat)(k n:Nat)(Gm:L9 A->L9 Dz->R Dz):Sg->R A:=λY=>match eK sl Y with
 | some caps=>.ok (.g k n (Gm caps))
 | none=>.bad
theorem aJI{S:ClSt}{sl:L9 Nat}{Gm:L9 A->L9 Dz->R Dz}{P0:Az}{cells:L9 (Str×Az)}(b:cells=c.cells)(o:c.g.T P0=some (.tbl qs))(M:CloOk X.prog X.w X.K X.mg X.base T S fr k n Gm)(h1:∀ y,(y,NameKind.free)∈S.scope.names->y∈fr)(h2:∀ y∈fr,(y,NameKind.free)∈S.scope.names)
  (l:sl.map (λj=>X.N[j]?)=fr.map some) (f:∀ j∈sl,j∈js) (h:PE X e (tMk cells S P0 qs)):PE X e (tK1 X T c js E (pN sl k n Gm)):=PE.imp h λZ H Q ⟨Y,F,ab,k⟩=>by
 unfold pN at k
 split at k
 .rename_i a i
  exact aEW b o ab λv d H' e1 m=>Rk.ok k v d H' e1 (.inr ⟨_,fr,sl,_,_,Gm,a,rfl,m,M,h1,h2,l,f,i⟩)
 .exact k.elim
theorem sX:PA X [] (tKs X T c js E aB):=PA.imp bE λZ H Q ⟨Y,F,ab,k⟩=>Rk.ok k [] F H (Ext.refl ab.fh) trivial
end
section
variable{X:Cx}{T:Hp}{c:Ct}{js:L9 Nat}{E:XK}{e:E2}{es:L9 E2}
theorem dX{f:Sg->R A}{g:Sg->R (L9 A)}(h:PE X e (tK1 X T c js E f))(h2:PA X es (tKs X T c js E g))(j:starEach (e::es) X.env=(false,eval e X.env)::starEach es X.env:=by rfl):PA X (e::es) (tKs X T c js E (aA f g)):=PA.imp (aX h h2 j) λZ H Q a=>by
 obtain⟨Y,F,ab,k⟩:=a
 refine⟨Y,F,ab,(Rk.bind k).imp λx _ q v i H1 s1 r1=>⟨Y,i,ab.ext s1,((Rk.bind q).ext s1).imp λxs _ q vs d H2 b r2=>?_⟩⟩
 exact Rk.ok q (v::vs) d H2 (s1.trans b) ⟨r1.same b.ff,r2⟩
theorem aCG:∀ {js:L9 Nat} {Y:Sg} {caps:L9 A},eK js Y=some caps->∀ j∈js,∃ a,Y[j]? = some (some a)
 | [],_,_,_,j,hj=>by simp at hj
 | i::js,Y,caps,h,j,hj=>by
  unfold eK at h
  split at h
  .rename_i a b h1 h2
   rcases AW.mp hj with z|z
   · subst z; exact⟨a, (wR h1).1⟩
   · exact aCG h2 j z
  .cases h
theorem aQG{N:L9 α}{sl:L9 Nat}{fr:L9 α}(h:sl.map (λj=>N[j]?)=fr.map some):sl.length=fr.length/\∀ (i:Nat) x,fr[i]? = some x->∃ j,sl[i]? = some j/\N[j]? = some x:=by
 have a:sl.length=fr.length:=by have:=CQ length h;simpa using this
 refine⟨a,λi x e=>?_⟩
 have hi:i < fr.length:=(AJ.mp e).1
 have h2:(sl.map (λj=>N[j]?))[i]? = (fr.map some)[i]?:=by rw[h]
 rw[AC,AC,e,AI (by ext)]at h2
 exact⟨sl[i],AI _,BL h2⟩
theorem aMC{S:ClSt}{sl:L9 Nat}{Gm:L9 A->L9 Dz->R Dz}{d:L9 A}{Y:Sg}{Z:L2.St}{F H:Hp}{m:Cv}{v:V}(hG:c.g=gOf X.prog X.w X.K X.mg X.base T)(E:X.K=c.K)(hM:X.mg=c.mg)(q:X.env.cells=c.cells)(ab:Ab c Y Z F H)(R:PubRel X Z H js m)
  (hA:pM c F S v) (M:CloOk X.prog X.w X.K X.mg X.base T S fr k n Gm) (h1:∀ y,(y,NameKind.free)∈S.scope.names->y∈fr) (h2:∀ y∈fr,(y,NameKind.free)∈S.scope.names)
  (h3:sl.map (λj=>X.N[j]?)=fr.map some) (h4:∀ j∈sl,j∈js) (hc:eK sl Y=some d):AF c.g c.K c.mg (pub m F) (.g k n (Gm d)) v:=by
 obtain⟨f,cl,doc,pm,cc,ct,rfl,W,q2,t⟩:=hA
 obtain⟨cvs,r,l,gt⟩:=aEX ab hc
 obtain⟨Q,g3⟩:=aQG h3
 have C:∀ b∈cL m,F b=none:=λb hb=>aP ab.fh (R.free b hb)
 have J:aC F (pub m F):=kF C
 have u:∀ (i:Nat) x v,fr[i]? = some x->cvs[i]? = some v->∃ a o,cl.lookup x=some a/\m.lookup a=some (o,v):=λi x v e1 e2=>by
  obtain⟨j,p,D⟩:=g3 i x e1
  obtain⟨v',O,e6⟩:=gt i j p
  rw[e2]at O;cases O
  obtain⟨x',a,o,v2,U,e8,L,G⟩:=R.all j (h4 j (AH p))
  rw[D]at U;cases U
  rw[e6]at L;cases L
  obtain⟨P,B⟩:=t.all (x,.free) (h2 x (AH e1)) rfl
  have s:=t.of _ _ B
  rw[<-q]at s
  have h:X.env.cells.lookup x=some P:=s
  rw[e8]at h;cases h
  exact⟨a,o,B,G⟩
 refine⟨f,pub m F,rfl,a7 _,?_⟩
 rw[hG]
 refine M F (pub m F) d cvs f cl doc pm ct cc (λa o z=>ab.f0 a o (ab.t0 a o (by rw[hG];exact z))) (by rw[E,hM,<-E,<-hM];rw[hG]at r;rw[<-E,<-hM]at r;exact r) J (J _ _ W) (J _ _ q2) ⟨l.trans Q,λn c e=>h1 n (t.only n c e),λn n' c e e'=>R.inj n n' c (by rw[q];exact t.of _ _ e) (by rw[q];exact t.of _ _ e'),λi x v e1 e2=>?_⟩ λa ha=>?_
 .obtain ⟨a,o,p,D⟩:=u i x v e1 e2
  exact⟨a,o,p,qR D⟩
 .obtain ⟨x,hx,e⟩:=DN.mp ha
  obtain⟨i,hi,I⟩:=EK.mp hx
  obtain⟨P,o,p,D⟩:=u i x (cvs[i]'(by rw[l,Q];exact hi)) (by rw[AI hi,I]) (AI _)
  rw[e]at p;cases p
  exact C a (gY.mpr ⟨_,D⟩)
theorem z7{Y:Sg}{Z:L2.St}{F H:Hp}{cv:Cv}(hG:c.g=gOf X.prog X.w X.K X.mg X.base T)(hK:X.K=c.K)(hM:X.mg=c.mg)(hcl:X.env.cells=c.cells)(ab:Ab c Y Z F H)(R:PubRel X Z H js cv):∀ {as:L9 A} {vs:L9 V},aGV X T c js Y F as vs->AFs c.g c.K c.mg (pub cv F) as vs
 | [],[],_=>trivial
 | a::as,v::vs,h=>by
  refine⟨?_,z7 hG hK hM hcl ab R h.2⟩
  rcases h.1 with q|⟨S,fr,sl,k,n,Gm,d,rfl,e,i,m,f,o,p,l⟩
  · exact AF.same (kF λb j => aP ab.fh (R.free b j)) q
  · exact aMC hG hK hM hcl ab R e i m f o p l
def iI(js:L9 Nat)(n:Nat)(G:L9 A->R A)(f:Sg->R (L9 A)):Sg->R A:=λY=>match eK js Y with
 | some _=>(f Y).bind λas=>if as.length=n then(dOf (G as)).bind λx=>.ok (.d x)else .bad
 | none=>.bad
theorem wS{G:L9 A->R A}{g:Gb}{f:Sg->R (L9 A)}(hG:c.g=gOf X.prog X.w X.K X.mg X.base T)(hK:X.K=c.K)(hM:X.mg=c.mg)(u:X.env.cells=c.cells)(hg:g=c.g)(U:K=c.K)(hm:mg=c.mg)
  (p:∀ j∈js,∃ x,X.N[j]? = some x/\X.env.kindOf x=some .cell/\X.fn x=true) (h:PE X e (aIJ X js (spF g K mg n G) E (tKs X T c js E f))):PV X c E e (iI js n G f):=PE.imp h λZ H Q ⟨Y,F,ab,k⟩=>by
 subst hg U hm
 unfold iI at k
 split at k
 .rename_i I hc
  refine⟨Y,F,ab,(Rk.bind k).imp λr _ q vs L H1 e1 r1=>⟨λj J=>?_,λD R=>?_⟩⟩
  .obtain ⟨x,W,a2,V⟩:=p j J
   obtain⟨a,ha⟩:=aCG hc j J
   obtain⟨v,P,_⟩:=ab.slot j a ha
   exact⟨x,v,W,a2,V,P⟩
  .by_cases B:r.length=n
   .rw[AN B]at q
    have s:=ab.ext e1
    have y:∀ b∈cL D,L b=none:=λb t=>aP e1.fh (R.free b t)
    refine⟨pub D L,r,λa o z=>kF y a o (e1.ff a o (ab.f0 a o (ab.t0 a o z))),aMB e1.fh,z7 hG hK hM u s R r1,B,?_⟩
    cases i:G r with
    | bad=>rw[i]at q;exact q
    | ok a=>
     rw[i]at q
     cases a with
     | d x=>
      intro v O H2 e2 r2
      exact Rk.ok q v _ _ (e1.trans (zY R.free e1.fh e2)) (aET (aCE e2.ff) r2)
     | l xs=>exact False.elim q
     | m xs=>exact False.elim q
     | x xs=>exact False.elim q
     | g k n f=>exact False.elim q
     | k S=>exact False.elim q
     | f S=>exact False.elim q
     | o S=>exact False.elim q
     | w S=>exact False.elim q
    | ex x=>
     rw[i]at q
     intro a C O H2 e2 r2
     obtain⟨M,q2⟩:=aMA (aCE e2.ff) r2
     exact⟨q a C _ _ ((ab.all.trans e1).trans (zY R.free e1.fh e2)) M,λb t=>by cases t;exact q2⟩
   .rw[AL B]at q;exact q.elim
 .exact k.elim
end
section
variable{P:P9}{w:W9}{K:Frag}{mg:Str->O9 V9}{base:Hz}{T:Hp}
def gF(G:L9 A->R A):L9 Dz->R Dz:=λds=>dOf (G (ds.map .d))
theorem aJJ{ps:L9 Str}{G:L9 A->R A}(C:bI P w K mg base T k x ps G):∃ f,mg x=some (.ref f)/\∀ F1,Beh P w K mg base T f F1 k ps.length (gF G):=by
 obtain⟨f,fd,F,b,m,p⟩:=C
 refine⟨f,m,λF1=>⟨fd,ps,rfl,b,F.imp λvs H Q E h=>?_,.inl p⟩⟩
 obtain⟨F,ds,_,h2,q,i,j,c⟩:=h
 refine⟨F,ds.map .d,h2,q,AFs.data i,by simpa using j,?_⟩
 unfold gF at c
 cases e:G (ds.map .d)with
 | bad=>rw[e]at c;exact c
 | ok a=>
  rw[e]at c
  cases a with
  | d x=>exact c
  | l xs=>exact False.elim c
  | m xs=>exact False.elim c
  | x xs=>exact False.elim c
  | g k n f=>exact False.elim c
  | k S=>exact False.elim c
  | f S=>exact False.elim c
  | o S=>exact False.elim c
  | w S=>exact False.elim c
 | ex x=>rw[e]at c;exact c
def aGW(k n:Nat)(G:L9 A->R A):Sg->R A:=λ_=>.ok (.g k n (gF G))
theorem aQH{X:Cx}{c:Ct}{E:XK}{k:Nat}{x:Str}{ps:L9 Str}{G:L9 A->R A}{p:Pos}(hG:c.g=gOf X.prog X.w X.K X.mg X.base T)(C:bI X.prog X.w X.K X.mg X.base T k x ps G)(b:Gl X x)(a:(x == ("__debug__":Str))=false:=by decide):PV X c E (.Name x p) (aGW k ps.length G):=by
 obtain⟨f,m,B⟩:=aJJ C
 exact PE.imp (oD (v:=.ref f) b m rfl a) λZ H Q ⟨Y,F,ab,k⟩=>Rk.ok k (.ref f) F H (Ext.refl ab.fh) ⟨f,F,rfl,a7 F,by rw[hG];exact B F⟩
structure DefAtT(K:Frag)(mg:Str->Option V9)(base:Heap)(T:Hp)(qs:List (Pos×Str))(x:Str)(st:Stmt)(ps:List Str):Prop where
 ex:∃ f oc od kV doc pm an c0 ct osl P0,K.lookup f=some ⟨oc,od,.func (fnOf x x (fX st) (bF st) (aI st) .none kV doc pm an (.ref c0) ct),osl⟩/\codeIn K (.ref c0) x=true/\keepIn K (.ref f)=true /\
  jX K (fnOf x x (fX st) (bF st) (aI st) .none kV doc pm an (.ref c0) ct) ps []/\mg x=some (.ref f)/\Tb mg base c0 P0/\T P0=some (.tbl qs)
theorem aGX{h:Hz}{xs:L9 Str}{ps:L9 Str}(D:DefAt K mg x st ps)(l:K.In h)(n:aBK mg h base T qs xs)(hx:x∈xs):DefAtT K mg base T qs x st ps:=by
 obtain⟨f,fd,F,b,m⟩:=D.ex
 obtain⟨k,od,kV,doc,pm,j,a,ct,c,rfl,g,d⟩:=F.ex
 obtain⟨c0,P0,o,i,p⟩:=n x hx
 have e:a=.ref c0:=p f _ _ m (l _ _ g) rfl
 subst e
 exact⟨f,k,od,kV,doc,pm,j,c0,ct,c,P0,g,d,F.kp,b,m,i,o⟩
theorem sY{x:Str}{st:Stmt}{N ps:L9 Str}{k:Nat}{qs:L9 (Pos×Str)}{cls:Str->O9 ClSt}{fb:Sg->R Fw}(D:DefAtT K mg base T qs x st ps)(S:FnScope N ps (aI st))
  (a:∀ (f c0 P0:Az) (A:U9) (outer:L9 Env) (s:S9) (H F:Hp) (E:XK),Tb mg base c0 P0->T P0=some (.tbl qs)->Room k (A.deeper (envOfC x (aI st) s.heap.objs.size f (.ref c0)))->
   lL ((iX (CXe P w) P w K mg base N x (aI st) f (.ref c0) A outer s H E).fly E) ⟨K,mg,w,F,H,gOf P w K mg base T,(envOfC x (aI st) s.heap.objs.size f (.ref c0)).cells,cls⟩ E (bF st) fb):bI P w K mg base T (k+1) x ps (fnF N.length fb):=by
 obtain⟨f,r,od,kV,doc,pm,q,c0,ct,j,P0,g,c,o,b,m,e,n⟩:=D.ex
 refine⟨f,_,aF4 g c S (λvs H Q E h=>?_) (λA outer s H vs Q E hr h=>?_),b,m,o⟩
 .obtain ⟨F,i,_,_,h2,d,_⟩:=h
  rw[h2.len,d]
 .obtain ⟨F,i,p,h1,h2,d,l⟩:=h
  exact⟨_,(a f c0 P0 A outer s H F E e n hr).unfly λ_ _ z=>zO z,sQ p h1 h2 l⟩
end
noncomputable def aGY:Stmt->E2
 | .Assign _ e _=>e
 | .Return (some e) _=>e
 | _=>.Constant .none 0 ⟨0,0,0,0⟩
noncomputable def aGZ(e:E2)(i:Nat):E2:=match e with
 | .Call _ as _ _=>as.getD i (.Constant .none 0 ⟨0,0,0,0⟩)
 | e=>e
noncomputable def clS(q:Str):Stmt->ClSt
 | .FunctionDef x a b _ _ _ sc _ _ _=>⟨x,q,a,.stmts b,sc⟩
 | s=>⟨"",q,fX s,.stmts [],aI s⟩
noncomputable def clE(q:Str):E2->ClSt
 | .Lambda a b sc _=>⟨"<lambda>",q,a,.expr b,sc⟩
 | _=>⟨"",q,fX (.Pass ⟨0,0,0,0⟩),.stmts [],aI (.Pass ⟨0,0,0,0⟩)⟩
noncomputable def aG0:Stmt->Pos
 | .FunctionDef _ _ _ _ _ _ _ _ _ p=>p
 | _=>⟨0,0,0,0⟩
noncomputable def aT6:E2->Pos
 | .Lambda _ _ _ p=>p
 | _=>⟨0,0,0,0⟩
theorem wU{X:Cx}:∀ j∈([]:L9 Nat),∃ x,X.N[j]? = some x/\X.env.kindOf x=some .cell/\X.fn x=true:=λj h=>by simp at h
theorem l8{X:Cx}{i:Nat}{js:L9 Nat}(h:∃ x,X.N[i]? = some x/\X.env.kindOf x=some .cell/\X.fn x=true)(t:∀ j∈js,∃ x,X.N[j]? = some x/\X.env.kindOf x=some .cell/\X.fn x=true):∀ j∈i::js,∃ x,X.N[j]? = some x/\X.env.kindOf x=some .cell/\X.fn x=true:=λj a=>by
 rcases AW.mp a with z|z
 · subst z; exact h
 · exact t j z
end Fl
variable{z i1 i2:Az}
namespace Zp
variable{f1 f2:L9 Az}{P1 P2:Nat->V9->Prop}{S1 S2:Nat->Hz->Prop}
section
variable{prog:P9}{w:W9}{A:U9}{E:V9->S9->Prop}{s:S9}
theorem tU{t:Az}{items}{x:V9}(a:s.heap.IsTupleIter it t i)
  (g:s.heap.IsTuple t items) (hx:items[i]? = some x) (f:∀ h',h'.IsTupleIter it t (i+1)->Heap.SameBut it s.heap h'->Q x {s with heap:=h'}) :
  wpAny (model prog w) A (Builtin.SmallTypes.nextOf (.ref it)) Q E s:=by
 obtain⟨o,c,h,b⟩:=id a
 obtain⟨k,d,_,j,e⟩:=g
 unfold Builtin.SmallTypes.nextOf
 refine AA (CP (name:=Str.ofString "__next__") a.typeIs DV
  (CW DV a.typeIs GM ?_ (GF _)))
 show wpAny _ _ (field (.ref it) 0 >>= _) _ _ s
 refine AA (B0 c b (x:=.ref t) rfl ?_)
 show wpAny _ _ (if (Value.ref t == Value.none)=true then _ else _) _ _ s
 rw[AL (show ¬ ((Value.ref t == Value.none)=true)from BR)]
 show wpAny _ _ (field (.ref it) 1 >>= _) _ _ s
 refine AA (B0 c b (x:=.int i 0) rfl ?_)
 show wpAny _ _ (seqItems? (.ref t) >>= _) _ _ s
 refine AA (C3 d e ?_)
 simp only[DC,hx]
 refine AA (DZ c b (by simp) (AE ⟨x,rfl,AE (f _ ?_ (BU ..))⟩))
 exact⟨_,BK _ c (EI (C0 b _)),(Obj.cls_mapFields ..).trans h,by
  rw[C0 b];simp[rawInt]⟩
theorem u9{t:Az}{items}(h:A.handled=none)
  (b:s.heap.IsTupleIter it t i) (j:s.heap.IsTuple t items) (hx:items[i]? = none)
  (k:∀ h' e,Heap.ExtBut it s.heap h'->(∃ o,h'.get? e=some o/\o.cls=.type "StopIteration")->E (.ref e) {s with heap:=h'}) :
  wpAny (model prog w) A (Builtin.SmallTypes.nextOf (.ref it)) Q E s:=by
 obtain⟨o,g,p,f⟩:=id b
 obtain⟨n,c,_,l,d⟩:=j
 unfold Builtin.SmallTypes.nextOf
 refine AA (CP (name:=Str.ofString "__next__") b.typeIs DV
  (CW DV b.typeIs GM ?_ (GF _)))
 show wpAny _ _ (field (.ref it) 0 >>= _) _ _ s
 refine AA (B0 g f (x:=.ref t) rfl ?_)
 show wpAny _ _ (if (Value.ref t == Value.none)=true then _ else _) _ _ s
 rw[AL (show ¬ ((Value.ref t == Value.none)=true)from BR)]
 show wpAny _ _ (field (.ref it) 1 >>= _) _ _ s
 refine AA (B0 g f (x:=.int i 0) rfl ?_)
 show wpAny _ _ (seqItems? (.ref t) >>= _) _ _ s
 refine AA (C3 c d ?_)
 simp only[DC,hx]
 refine AA (EL (AA (DZ g f (by simp) ?_)))
 show wpAny _ _ (newExc (.type "StopIteration") [] >>= _) _ _ _
 refine AA ?_
 simp only[newExc,newTuple]
 refine AA (B4 ?_ (by size_fits))
 refine AA (m:=firstArgMember _ _) (wpAny_of_eq (a:=Value.none) (by first|rfl|(simp only[firstArgMember];rfl)) ?_)
 refine B4 ?_ (by size_fits)
 simp only[raiseNew]
 refine AA (wpAny_handled ?_)
 first|rw[show A.in1.handled=none from h]|rw[h]
 refine AA (AE (wpAny_throw ?_))
 exact k _ _ (((BU ..).extBut.push _).push _) ⟨_,AV _ rfl,rfl⟩
end
theorem aD1{w:W9}{A:U9}(f:A.handled=none)(it l:Az)(c:l≠it)(items:Array V9) :
  Draws prog w A it [it,l] items.size (λi v=>items[i]? = some v) (λi h=>h.IsTupleIter it l i/\h.IsTuple l items) where
 live:=λ_ _ st=>let ⟨o,ho,_⟩:=st.1;⟨o,ho⟩
 frame:=λ_ _ _ st d=>⟨let ⟨o,ho,r⟩:=st.1;⟨o,d it (by simp) o ho,r⟩,let ⟨o,ho,r⟩:=st.2;⟨o,d l (by simp) o ho,r⟩⟩
 item:=λi s Q E hi st e=>by
  refine tU st.1 st.2 (x:=items[i]) (by simp[hi]) λh' a b=>?_
  exact e _ h' s.toks (by simp[hi]) ⟨a,st.2.extBut b.extBut c⟩ b
 done:=λs Q E st g=>u9 f st.1 st.2 (by simp) g
structure Apart(z TI TO i1 i2:Az)(f1 f2:List Az):Prop where
 TIz:TI≠z
 TOz:TO≠z
 i1z:i1≠z
 i2z:i2≠z
 TITO:TI≠TO
 TIi1:TI≠i1
 TIi2:TI≠i2
 TOi1:TO≠i1
 TOi2:TO≠i2
 i12:i1≠i2
 z1:z∉f1
 z2:z∉f2
 t1:TO∉f1
 t2:TO∉f2
 i1f2:i1∉f2
 i2f1:i2∉f1
section
variable{prog:P9}{w:W9}{A:U9}{E:V9->S9->Prop}{s:S9}
abbrev mP(h:Hz)(z TI TO:Az)(f0 f1:V9):Prop:=h.get? z=some {cls:=.type "zip",dict:=none,data:=.fields #[f0,f1,.bool false,.ref TI,.ref TO],slots:=#[]}
theorem aCH{M:Model}{A:U9}{E:V9->S9->Prop}{s:S9}{Q:O9 Obj->S9->Prop}(h:Q (s.heap.get? a) s):wpAny M A (loadIfAlive a) Q E s:=λΓ p _=>by
 unfold loadIfAlive
 simp_all
theorem aJK{TI TO:Az}{f0:V9}{c:Bool}{Q:Bool->S9->Prop}(hz:mP s.heap z TI TO f0 (.bool c))(a:f0=.none\/∃ T:Az,f0=rawInt T/\s.heap.get? T=none)(h:Q true s):wpAny (model prog w) A (Builtin.SmallTypes.ownedTupleIsFree (.ref z)) Q E s:=by
 unfold Builtin.SmallTypes.ownedTupleIsFree
 refine AA (B0 hz rfl (x:=f0) rfl ?_)
 rcases a with rfl|⟨T,rfl,b⟩
 .exact AE h
 .show wpAny _ _ (loadIfAlive ((T:Int)).toNat >>= _) _ _ s
  refine AA (aCH ?_)
  rw[show((T:Int)).toNat=T by ext,b]
  exact AE h
def ZN(h:Hz)(z TI TO:Az):Prop:=(∃ f0 bb,mP h z TI TO f0 (.bool bb)/\(f0=.none\/∃ T:Az,f0=rawInt T))/\∃ a b,IsPair h TO a b
theorem aQI{TI TO T:Az}{oT:Obj}{b:Bool}{Q:Bool->S9->Prop}(hz:mP s.heap z TI TO (rawInt T) (.bool b))(d:s.heap.get? T=some oT)
  (h:∀ h',mP h' z TI TO (rawInt T) (.bool true)->Heap.SameBut z s.heap h'->Q false {s with heap:=h'}):wpAny (model prog w) A (Builtin.SmallTypes.ownedTupleIsFree (.ref z)) Q E s:=by
 unfold Builtin.SmallTypes.ownedTupleIsFree
 refine AA (B0 hz rfl (x:=rawInt T) rfl ?_)
 show wpAny _ _ (loadIfAlive ((T:Int)).toNat >>= _) _ _ s
 refine AA (aCH ?_)
 rw[show((T:Int)).toNat=T by ext,d]
 show wpAny _ _ (field (.ref z) 1 >>= _) _ _ s
 refine AA (B0 hz rfl (x:=.bool b) rfl ?_)
 cases b with
 | true=>exact AE (h _ hz ⟨rfl,λ_ _=>rfl⟩)
 | false=>
  show wpAny _ _ (setField (.ref z) 1 (.bool true) >>= _) _ _ s
  refine AA (C5 hz (by simp) λh1 c a=>?_)
  exact AE (h h1 c a)
theorem Draws.nx{f:L9 Az}{P:Nat->V9->Prop}{S:Nat->Hz->Prop}(D:Draws prog w A it f n P S)(h:i<=n)(st:S i s.heap)
  (a:i < n->∀ x h' tk,P i x->S (i+1) h'->Heap.SameBut it s.heap h'->Q x {s with heap:=h',toks:=tk})
  (hE:i=n->∀ h' e,Heap.ExtBut it s.heap h'->(∃ o,h'.get? e=some o/\o.cls=.type "StopIteration")->E (.ref e) {s with heap:=h'}):wpAny (model prog w) A (Builtin.SmallTypes.nextOf (.ref it)) Q E s:=by
 rcases FX i n with l|l
 .exact D.item i s Q E l st (a l)
 .obtain rfl:i=n:=Nat.le_antisymm h l
  exact D.done s Q E st (hE rfl)
structure Nxt(P1 P2:Nat->V9->Prop)(S1 S2:Nat->Heap->Prop)(h:Heap)(z TI TO i1 i2:Az)(i:Nat)(x y:V9)(h':Heap):Prop where
 p1:P1 i x
 p2:P2 i y
 zn:ZN h' z TI TO
 s1:S1 (i+1) h'
 s2:S2 (i+1) h'
 pr:IsPair h' h.objs.size x y
 sz:h'.objs.size=h.objs.size+1
 kp:∀ c o,c≠z->c≠TO->c≠i1->c≠i2->h.get? c=some o->h'.get? c=some o
theorem aT7{TI TO:Az}{n1 n2:Nat}(D:Apart z TI TO i1 i2 f1 f2)
  (X:Draws prog w A i1 f1 n1 P1 S1) (Y:Draws prog w A i2 f2 n2 P2 S2) (hz:ZN s.heap z TI TO) (am:IsPair s.heap TI (.ref i1) (.ref i2)) (h1:S1 i s.heap) (h2:S2 i s.heap) (l1:i<=n1) (l2:i < n1->i<=n2)
  (hQ:i < n1->i < n2->∀ x y h' tk,Nxt P1 P2 S1 S2 s.heap z TI TO i1 i2 i x y h'->Q (.ref s.heap.objs.size) {s with heap:=h',toks:=tk})
  (hE:i=n1\/(i < n1/\i=n2)->∀ h' tk e,(∀ c o,c≠z->c≠TO->c≠i1->c≠i2->s.heap.get? c=some o->h'.get? c=some o)->(∃ o,h'.get? e=some o/\o.cls=.type "StopIteration")->E (.ref e) {s with heap:=h',toks:=tk}) :
  wpAny (model prog w) A (Builtin.«zip.__next__» ⟨[.ref z],[]⟩) (λaj s'=>∃ v,aj=.done (.ret v)/\Q v s') E s:=by
 have fr:∀ {f:L9 Az} {c:Az} {g g':Hz},Heap.SameBut c g g'->c∉f->∀ b∈f,∀ o,g.get? b=some o->g'.get? b=some o:=λhs hc b hb o e=>hs.extBut _ _ (λz=>hc (z▸hb)) e
 obtain⟨⟨f0,bb,hz,hf⟩,a,b,ai⟩:=hz
 show wpAny _ _ (field (.ref z) 2 >>= _) _ _ _
 refine AA (B0 hz rfl (x:=.bool false) rfl ?_)
 show wpAny _ _ (field (.ref z) 3 >>= _) _ _ _
 refine AA (B0 hz rfl (x:=.ref TI) rfl (AA (C3 am rfl ?_)))
 show wpAny _ _ (Builtin.SmallTypes.ownedTupleIsFree (.ref z) >>= _) _ _ _
 have hc:(f0=.none\/∃ T:Az,f0=rawInt T/\s.heap.get? T=none)\/∃ (T:Az) (o:Obj),f0=rawInt T/\s.heap.get? T=some o:=by
  rcases hf with h|⟨T,h⟩
  .exact .inl (.inl h)
  .cases hg:s.heap.get? T with
   | none=>exact .inl (.inr ⟨T,h,hg⟩)
   | some o=>exact .inr ⟨T,o,h,hg⟩
 rcases hc with ak|⟨T,oT,rfl,hT⟩
 .refine AA (aJK hz ak ?_)
  simp only[DJ]
  refine AA (EL ?_)
  refine AA (B0 hz rfl (x:=.ref TO) rfl ?_)
  refine AA (C5 hz (by simp) λC t k=>?_)
  replace t:mP C z TI TO .ellipsis (.bool bb):=t
  refine AA ?_
  simp only[List.zipIdx_cons,List.zipIdx_nil,EB,GE]
  refine AA (AA (wpAny_onRaise ?_))
  show wpAny _ _ (Builtin.SmallTypes.nextOf (.ref i1) >>= _) _ _ _
  refine AA (Draws.nx (s:={s with heap:=C}) X l1 (X.frame _ _ _ h1 (fr k D.z1)) (λq1 x r V px J d=>AE ?_) λq r e d he=>?_)
  .have d:Heap.SameBut i1 C r:=d
   have N:IsPair r TO a b:=d.extBut _ _ D.TOi1 (k.extBut _ _ D.TOz ai)
   refine AA (C3 N rfl ?_)
   refine AA (wpAny_updateSeq_pair N λl F j=>?_)
   replace F:IsPair l TO x b:=F
   have j:Heap.SameBut TO r l:=j
   refine AA (wpAny_letGo (AE ?_))
   refine AA (AA (wpAny_onRaise ?_))
   show wpAny _ _ (Builtin.SmallTypes.nextOf (.ref i2) >>= _) _ _ _
   have S:mP l z TI TO .ellipsis (.bool bb):=j.extBut _ _ D.TOz.symm (d.extBut _ _ D.i1z.symm t)
   refine AA (Draws.nx (s:={s with heap:=l,toks:=V}) Y (l2 q1) (Y.frame _ _ _ (Y.frame _ _ _ (Y.frame _ _ _ h2 (fr k D.z2)) (fr d D.i1f2)) (fr j D.t2)) (λq2 y B ag py ae m=>AE ?_) λq B e m he=>?_)
   .have m:Heap.SameBut i2 l B:=m
    have M:IsPair B TO x b:=m.extBut _ _ D.TOi2 F
    refine AA (C3 M rfl ?_)
    refine AA (wpAny_updateSeq_pair M λp u n=>?_)
    replace u:IsPair p TO x y:=u
    refine AA (wpAny_letGo (AE (AE ?_)))
    refine AA (C3 u rfl ?_)
    refine AA (wpAny_newTuple ?_)
    have n:Heap.SameBut TO B p:=n
    have hsz:p.objs.size=s.heap.objs.size:=by rw[n.1,m.1,j.1,d.1,k.1]
    have U:mP p z TI TO .ellipsis (.bool bb):=n.extBut _ _ D.TOz.symm (m.extBut _ _ D.i2z.symm S)
    have aa:z < p.objs.size:=AS U
    show wpAny _ _ (Builtin.SmallTypes.ownedTupleHandOut (.ref z) (.ref p.objs.size) >>= _) _ _ _
    refine AA ?_
    unfold Builtin.SmallTypes.ownedTupleHandOut
    have ah:mP (p.push {cls:=.type "tuple",data:=.seq #[x,y]}) z TI TO .ellipsis (.bool bb):=AD _ U
    refine AA (C5 ah (by simp) λh₇ K H=>?_)
    replace K:mP h₇ z TI TO (rawInt p.objs.size) (.bool bb):=K
    refine C5 K (by simp) λh₈ ac I=>?_
    have up:∀ c o,c≠z->p.get? c=some o->h₈.get? c=some o:=λc o G e=>I.extBut _ _ G (H.extBut _ _ G (AD _ e))
    refine AE ⟨_,rfl,?_⟩
    show Q (.ref p.objs.size) _
    rw[hsz]
    refine hQ q1 q2 x y h₈ ag ⟨px,py,⟨⟨_,false,ac,.inr ⟨_,rfl⟩⟩,x,y,up _ _ D.TOz u⟩,?_,?_,?_,by rw[I.1,H.1,BM,hsz],λc o G W Z c4 e=>up c o G (n.extBut _ _ W (m.extBut _ _ c4 (j.extBut _ _ W (d.extBut _ _ Z (k.extBut _ _ G e)))))⟩
    .exact X.frame _ _ _ (X.frame _ _ _ (X.frame _ _ _ (X.frame _ _ _ J (fr j D.t1)) (fr m D.i2f1)) (fr n D.t1)) λb hb o e=>up b o (λq=>D.z1 (q▸hb)) e
    .exact Y.frame _ _ _ (Y.frame _ _ _ ae (fr n D.t2)) λb hb o e=>up b o (λq=>D.z2 (q▸hb)) e
    .rw[<-hsz]
     exact I.extBut _ _ (BY aa) (H.extBut _ _ (BY aa) (AV _ rfl))
   .have m:Heap.ExtBut i2 l B:=m
    obtain⟨oe,L,R⟩:=he
    have P:mP B z TI TO .ellipsis (.bool bb):=m _ _ D.i2z.symm S
    have ad:e≠z:=λx=>by subst x;rw[P]at L;cases L;simp at R
    exact C5 P (by simp) λp _ n=>hE (.inr ⟨q1,q⟩) p V e (λc o G W Z c4 x=>n.extBut _ _ G (m _ _ c4 (j.extBut _ _ W (d.extBut _ _ Z (k.extBut _ _ G x))))) ⟨oe,n.extBut _ _ ad L,R⟩
  .obtain ⟨oe,L,R⟩:=he
   have O:mP r z TI TO .ellipsis (.bool bb):=d _ _ D.i1z.symm t
   have ad:e≠z:=λx=>by subst x;rw[O]at L;cases L;simp at R
   exact C5 O (by simp) λl _ j=>hE (.inl q) l s.toks e (λc o G _ Z _ x=>j.extBut _ _ G (d _ _ Z (k.extBut _ _ G x))) ⟨oe,j.extBut _ _ ad L,R⟩
 .refine AA (aQI hz hT λC t k=>?_)
  simp only[CG,DI]
  show wpAny _ _ ((forIn #[Value.ref i1,Value.ref i2] _ _) >>= _) _ _ _
  refine AA ?_
  rw[<-Array.forIn_toList]
  simp only[EB,GE]
  refine AA (AA (CJ ?_))
  show wpAny _ _ (Builtin.SmallTypes.nextOf (.ref i1) >>= _) _ _ _
  refine AA (Draws.nx (s:={s with heap:=C}) X l1 (X.frame _ _ _ h1 (fr k D.z1)) (λq1 x r V px J d=>AE (AE ?_)) λq r e d he=>hE (.inl q) r s.toks e (λc o G _ W _ x=>d _ _ W (k.extBut _ _ G x)) he)
  have d:Heap.SameBut i1 C r:=d
  refine AA (AA (CJ ?_))
  show wpAny _ _ (Builtin.SmallTypes.nextOf (.ref i2) >>= _) _ _ _
  refine AA (Draws.nx (s:={s with heap:=r,toks:=V}) Y (l2 q1) (Y.frame _ _ _ (Y.frame _ _ _ h2 (fr k D.z2)) (fr d D.i1f2)) (λq2 y l ag py af j=>AE (AE (AE ?_))) λq l e j he=>hE (.inr ⟨q1,q⟩) l V e (λc o G _ W Z x=>j _ _ Z (d.extBut _ _ W (k.extBut _ _ G x))) he)
  have j:Heap.SameBut i2 r l:=j
  have hsz:l.objs.size=s.heap.objs.size:=by rw[j.1,d.1,k.1]
  refine AA (wpAny_newTuple (hsz:=by show 2<=sizeLine;decide) (AE ⟨_,rfl,?_⟩))
  show Q (.ref l.objs.size) _
  rw[hsz]
  have up:∀ c o,l.get? c=some o->(l.push {cls:=.type "tuple",data:=.seq #[x,y]}).get? c=some o:=λc o e=>AD _ e
  have kp:∀ c o,c≠z->c≠TO->c≠i1->c≠i2->s.heap.get? c=some o->(l.push {cls:=.type "tuple",data:=.seq #[x,y]}).get? c=some o:=λc o G _ W Z e=>up c o (j.extBut _ _ Z (d.extBut _ _ W (k.extBut _ _ G e)))
  refine hQ q1 q2 x y _ ag ⟨px,py,⟨⟨_,true,up _ _ (j.extBut _ _ D.i2z.symm (d.extBut _ _ D.i1z.symm t)),.inr ⟨_,rfl⟩⟩,a,b,up _ _ (j.extBut _ _ D.TOi2 (d.extBut _ _ D.TOi1 (k.extBut _ _ D.TOz ai)))⟩,X.frame _ _ _ (X.frame _ _ _ J (fr j D.i2f1)) λb hb o e=>up b o e,Y.frame _ _ _ af λb hb o e=>up b o e,?_,by rw[BM,hsz],kp⟩
  rw[<-hsz]
  exact AV _ rfl
theorem sZ{TI TO:Az}{n1 n2:Nat}{Q:O9 V9->S9->Prop}(D:Apart z TI TO i1 i2 f1 f2)
  (k:Draws prog w A.in1 i1 f1 n1 P1 S1) (v:Draws prog w A.in1 i2 f2 n2 P2 S2) (hz:ZN s.heap z TI TO) (a:IsPair s.heap TI (.ref i1) (.ref i2)) (h1:S1 i s.heap) (h2:S2 i s.heap) (l:i<=n1) (r:i < n1->i<=n2)
  (g:i < n1->i < n2->∀ x y h' tk,Nxt P1 P2 S1 S2 s.heap z TI TO i1 i2 i x y h'->Q (some (.ref s.heap.objs.size)) {s with heap:=h',toks:=tk})
  (hE:i=n1\/(i < n1/\i=n2)->∀ h' tk,(∀ c o,c≠z->c≠TO->c≠i1->c≠i2->s.heap.get? c=some o->h'.get? c=some o)->Q none {s with heap:=h',toks:=tk}):wpAny (model prog w) A (pyNext (.ref z)) Q E s:=by
 have d:s.TypeIs (.ref z) "zip":=by obtain⟨⟨_,_,h,_⟩,_⟩:=hz;exact⟨_,h,rfl⟩
 unfold pyNext
 refine AA (IK (CP (name:=Str.ofString "__next__") d HQ
  (CW HQ d F.entry_zip_next
   (aT7 D k v hz a h1 h2 l r (λf t x y h' tk n=>AE (g f t x y h' tk n)) λq h' tk e j p=>?_) (F.args_zip_next_1 _))))
 obtain⟨o,m,u⟩:=p
 refine AA (HE (T:="StopIteration") (b:=true) ⟨o,m,u⟩ isSubtype_stop ?_)
 exact AE (hE q _ _ j)
theorem aT8{TI TO T:Az}{Q:Unit->S9->Prop}(hz:ZN s.heap z TI TO)(h:TO≠z)(f:∀ h',ZN h' z TI TO->Heap.SameBut z s.heap h'->Q () {s with heap:=h'}):wpAny (model prog w) A (letOwnedTupleGo tg (.ref z) (.ref T)) Q E s:=by
 have stay:Q () s:=f s.heap hz ⟨rfl,λ_ _=>rfl⟩
 obtain⟨⟨l,k,g,j⟩,a,b,i⟩:=hz
 have d:wpAny (model prog w) A (do
   let o <-load z
   match o.cls,o.data with
   | .type n,.fields vs=>
    if ["enumerate","zip","dict_itemiterator","dict_reverseitemiterator","odict_iterator","itertools.zip_longest","itertools.pairwise"].contains n && vs[0]? == some (rawInt T)then
     rule "for.unpacks-the-owned-tuple"
     updateField z 0 .none
   | _,_=>pure ()) Q E s:=by
  refine AA (wpAny_load g ?_)
  show wpAny _ _ (if _ then _ else _) Q E s
  split
  .refine AA (EL ?_)
   show wpAny _ _ (setField (.ref z) 0 .none) Q E s
   exact C5 g (by simp) λh' e c=>f h' ⟨⟨_,_,e,.inl rfl⟩,a,b,c.extBut _ _ h i⟩ c
  .exact AE stay
 unfold letOwnedTupleGo
 cases tg<;>first|exact d|exact AE stay
theorem aT9{TI TO:Az}(hz:ZN s.heap z TI TO)(h:Q (.ref z) s):wpAny (model prog w) A (pyIter (.ref z)) Q E s:=by
 have a:s.TypeIs (.ref z) "zip":=by obtain⟨⟨_,_,h,_⟩,_⟩:=hz;exact⟨_,h,rfl⟩
 refine wpAny_pyIter_slot a F.slot_zip_iter (CW F.slot_zip_iter a F.entry_zip_iter ?_ (F.args_zip_iter_1 _))
 show wpAny _ _ (ret (.ref z)) _ _ s
 exact AE ⟨_,rfl,"zip",_,a,HQ.lookup,h⟩
end
def mQ(v:V9)(o:Obj)(h:Hz):Prop:=∀ (prog:P9) (w:W9) (A:U9) (E:V9->S9->Prop) (s:S9) (Q:V9->S9->Prop),s.heap=h->Q (.ref h.objs.size) {s with heap:=h.push o}->wpAny (model prog w) A (pyIter v) Q E s
noncomputable abbrev H2(h:Hz)(o1 o2:Obj):Hz:=(h.push o1).push o2
noncomputable abbrev H3(h:Hz)(o1 o2:Obj):Hz:=(H2 h o1 o2).push {cls:=.type "tuple",data:=.seq #[.ref h.objs.size,.ref (h.push o1).objs.size]}
noncomputable abbrev H4(h:Hz)(o1 o2:Obj):Hz:=(H3 h o1 o2).push {cls:=.type "tuple",data:=.seq #[.none,.none]}
noncomputable abbrev H5(h:Hz)(o1 o2:Obj):Hz:=(H4 h o1 o2).push {cls:=.type "zip",data:=.fields #[.none,.bool false,.bool false,.ref (H2 h o1 o2).objs.size,.ref (H3 h o1 o2).objs.size]}
theorem aJL(l j:V9)(a e:Obj) :
  Meets (Builtin.«zip.__new__» ⟨[.type "zip",l,j],[]⟩) (λ_ R s=>mQ l a s.heap/\mQ j e (s.heap.push a) /\
   R (.ok (.ret (.ref (H4 s.heap a e).objs.size))) {s with heap:=H5 s.heap a e}):=
 .of_wp λprog w A R s h=>by
  obtain⟨b,g,d,c,os⟩:=s;obtain⟨k,i,h⟩:=h
  have m:=sub_zip
  have n:∀ {A:U9} {E:V9->S9->Prop} {Q:V9->S9->Prop},Q (.ref b.objs.size) ⟨b.push a,g,d,c,os⟩->wpAny (model prog w) A (pyIter l) Q E ⟨b,g,d,c,os⟩:=λf=>k prog w _ _ ⟨b,g,d,c,os⟩ _ rfl f
  have p2:∀ {A:U9} {E:V9->S9->Prop} {Q:V9->S9->Prop},Q (.ref (b.push a).objs.size) ⟨(b.push a).push e,g,d,c,os⟩->wpAny (model prog w) A (pyIter j) Q E ⟨b.push a,g,d,c,os⟩:=λf=>i prog w _ _ ⟨b.push a,g,d,c,os⟩ _ rfl f
  wp_walk using n,p2
  exact⟨_,rfl,h⟩
section
variable{prog:P9}{w:W9}{A:U9}{E:V9->S9->Prop}{s:S9}
theorem aCI{k g:V9}{a b:Obj}(h1:mQ k a s.heap)(h2:mQ g b (s.heap.push a))(f1:a.isFreed=false)(f2:b.isFreed=false)
  (h:∀ h',IsZip h' (s.heap.objs.size+4) (s.heap.objs.size+2) (s.heap.objs.size+3) .none->IsPair h' (s.heap.objs.size+2) (.ref s.heap.objs.size) (.ref (s.heap.objs.size+1))->
   IsPair h' (s.heap.objs.size+3) .none .none->h'.get? s.heap.objs.size=some a->h'.get? (s.heap.objs.size+1)=some b->h'.objs.size=s.heap.objs.size+5->
   (∀ c o,s.heap.get? c=some o->h'.get? c=some o)->Q (.ref (s.heap.objs.size+4)) {s with heap:=h'}) :
  wpAny (model prog w) A (call (.type "zip") [k,g]) Q E s:=by
 refine callType_new F.called_zip (by decide) (F.typeCall_zip_2 _ _) (F.newCall_zip_2 _ _) (λobj=>F.args_object_init_3 obj _ _) F.entry_zip_new
  (aJL k g a b) ⟨h1,h2,?_⟩
 have e:(s.heap.push a).objs.size=s.heap.objs.size+1:=BM ..
 have f:(H2 s.heap a b).objs.size=s.heap.objs.size+2:=by rw[BM,e]
 have d:(H3 s.heap a b).objs.size=s.heap.objs.size+3:=by rw[BM,f]
 have j:(H4 s.heap a b).objs.size=s.heap.objs.size+4:=by rw[BM,d]
 have p:(H5 s.heap a b).objs.size=s.heap.objs.size+5:=by rw[BM,j]
 have i:(H5 s.heap a b).get? (H4 s.heap a b).objs.size=some _:=AV _ rfl
 have m:(H5 s.heap a b).get? (H3 s.heap a b).objs.size=some _:=AD _ (AV _ rfl)
 have n:(H5 s.heap a b).get? (H2 s.heap a b).objs.size=some _:=AD _ (AD _ (AV _ rfl))
 have l:(H5 s.heap a b).get? (s.heap.push a).objs.size=some b:=AD _ (AD _ (AD _ (AV _ f2)))
 have q:(H5 s.heap a b).get? s.heap.objs.size=some a:=AD _ (AD _ (AD _ (AD _ (AV _ f1))))
 show _/\_
 rw[f,d,j]at i
 rw[e,f]at n
 rw[d]at m
 rw[e]at l
 rw[j]
 exact⟨⟨_,i,rfl⟩,h _ i n m q l p λc o x=>
  AD _ (AD _ (AD _ (AD _ (AD _ x))))⟩
end
end Zp
namespace L2
variable{Z:St}{H:Hp}
abbrev Col:=Hp->L9 V->Prop
structure ColOk(P:Program)(w:World)(K:Frag)(C:Col)(it:Az)(tn:Nat->Heap->Prop):Prop where
 obj:∀ i h,tn i h->∃ o,h.get? it=some o/\∀ v,o.data≠.cell v
 keep:∀ i h h',tn i h->(∀ o,h.get? it=some o->h'.get? it=some o)->tn i h'
 one:∀ (X:Cx),X.prog=P->X.w=w->X.K=K->∀ ap s Z H xs ys,Inv X ap Z H s->C H xs->C H ys->xs=ys
 draw:∀ (X:Cx),X.prog=P->X.w=w->X.K=K->∀ (i:Nat) (ap:List (Az×Obj)) (s:S9) (Z:St) (H:Hp) (xs:List V) (A:Around),Inv X ap Z H s->gI X ap H it->tn i s.heap->C H xs->A.handled=none->
  ∃ fp Pv St,Draws P w A it fp xs.length Pv St/\St i s.heap/\(∀ j h,St j h->tn j h)/\(∀ j v,Pv j v->∃ x,xs[j]? = some x/\aR x v)/\∀ b,gI X ap H b->b≠it->b∉fp
theorem aEY{X:Cx}(I:Inv X ap Z H s)(d:gI X ap H b)(e:X.base.get? a=some o):b≠a:=by
 obtain⟨_,_,_,f,_⟩:=d
 intro z
 rcases f with c|c
 .exact I.ok.noex a o e (z▸c)
 .have g:=AS e
  have h:=I.ok.bsz
  ext
theorem aJM{X:Cx}{xs:L9 V}(I:Inv X ap Z H s)(c:gI X ap H b)(h:SqL X.K H a xs):b≠a:=by
 rcases h with (h|⟨o,h⟩)|⟨o,vs,n,h,_⟩
 · intro z; rw [<- z, c.1]at h; cases h
 · intro z; rw [<- z, c.1]at h; cases h
 · exact aEY I c (I.ok.mod.kin _ _ h)
theorem aJN{X:Cx}{xs:L9 V}(I:Inv X ap Z H s)(c:gI X ap H b)(h:SqT X.K H a xs):b≠a:=by
 rcases h with (h|⟨o,h⟩)|⟨o,vs,n,h,_⟩
 · intro z; rw [<- z, c.1]at h; cases h
 · intro z; rw [<- z, c.1]at h; cases h
 · exact aEY I c (I.ok.mod.kin _ _ h)
theorem aMD{w:W9}(a it:Az):ColOk P w K (λH xs=>SqL K H a xs) it (λi h=>h.IsListIter it a i) where
 obj:=λi h ⟨o,e,c,d⟩=>⟨o,e,λv z=>by rw[d]at z;cases z⟩
 keep:=λi h h' st k=>st.at λo e=>k o e
 one:=by
  intro X q y m ap s Z H xs ys I h1 h2
  subst m
  exact I.list_inj h1 h2
 draw:=by
  intro X q y m i ap s Z H xs A I B st g G
  subst q y m
  obtain⟨f,n,p,J⟩:=I.list g
  have l:=aJM I B g
  refine⟨[it,a],(λi v=>f.toArray[i]? = some v),(λi h=>h.IsListIter it a i/\h.IsList a f.toArray),by rw[show xs.length=f.toArray.size by rw[n.length];simp];exact Draws.list G it a (BF l) f.toArray,⟨st,p.isList⟩,λj h z=>z.1,λj v e=>?_,λb F C D=>?_⟩
  .have x:f[j]? = some v:=by simpa using e
   have r:j < xs.length:=by rw[n.length];exact(AJ.mp x).1
   obtain⟨u,t,E⟩:=n.get (AI r)
   rw[x]at t;cases t
   exact⟨_,AI r,E⟩
  .rcases AW.mp D with z|z
   · exact C z
   · exact aJM I F g (by simpa using z)
theorem aJO{w:W9}(a it:Az):ColOk P w K (λH xs=>SqT K H a xs) it (λi h=>h.IsTupleIter it a i) where
 obj:=λi h ⟨o,e,c,d⟩=>⟨o,e,λv z=>by rw[d]at z;cases z⟩
 keep:=λi h h' ⟨o,e,r⟩ k=>⟨o,k o e,r⟩
 one:=by
  intro X q t m ap s Z H xs ys I h1 h2
  subst m
  exact I.tuple_inj h1 h2
 draw:=by
  intro X q t m i ap s Z H xs A I x st g E
  subst q t m
  obtain⟨f,n,p,G⟩:=I.tuple g
  have l:=aJN I x g
  refine⟨[it,a],(λi v=>f.toArray[i]? = some v),(λi h=>h.IsTupleIter it a i/\h.IsTuple a f.toArray),by rw[show xs.length=f.toArray.size by rw[n.length];simp];exact Zp.aD1 E it a (BF l) f.toArray,⟨st,p⟩,λj h z=>z.1,λj v e=>?_,λb D F B=>?_⟩
  .have C:f[j]? = some v:=by simpa using e
   have y:j < xs.length:=by rw[n.length];exact(AJ.mp C).1
   obtain⟨u,J,L⟩:=n.get (AI y)
   simp_all
  .rcases AW.mp B with z|z
   · ext
   · exact aJN I D g (by simpa using z)
noncomputable def vA(z:Str):L9 V:=z.cps.toList.map λc=>V.str ⟨#[c]⟩
theorem aQJ{w:W9}(z:Str)(t:Tok)(it:Az):ColOk P w K (λ_ xs=>xs=vA z) it (λi h=>h.IsStrIter it (strIterType z) z t i) where
 obj:=λi h ⟨o,e,c,d⟩=>⟨o,e,λv z=>by rw[d]at z;cases z⟩
 keep:=λi h h' ⟨o,e,r⟩ k=>⟨o,k o e,r⟩
 one:=λ_ _ _ _ _ _ _ _ _ _ _ h1 h2=>h1.trans h2.symm
 draw:=by
  intro X f p q i ap s Z H xs A I x st g a
  subst f p q g
  have n:Draws X.prog X.w A it [it] z.cps.size (λi v=>∃ c u,z.cps[i]? = some c/\v=.str ⟨#[c]⟩ u) (λi h=>h.IsStrIter it (strIterType z) z t i):=by
   unfold strIterType
   split
   · exact Draws.strAscii a it z t
   · exact Draws.strWide a it z t
  refine⟨[it],_,_,by rw[show(vA z).length=z.cps.size by unfold vA;simp];exact n,st,λj h z=>z,?_,λb y l m=>l (by simpa using m)⟩
  rintro j v ⟨c,u,hc,rfl⟩
  exact⟨.str ⟨#[c]⟩,by unfold vA;rw[AC,DU,hc];rfl,u,rfl⟩
def Itz(C1 C2:Col):It:=
 ⟨λi H=>∃ xs ys,C1 H xs/\C2 H ys/\i < xs.length/\i < ys.length,λi H x H'=>∃ p u v,H p=none/\x=.ref p/\H'=upd H p (.tup [u,v])/\(∀ xs,C1 H xs->xs[i]? = some u)/\∀ ys,C2 H ys->ys[i]? = some v,
  λi H=>∃ xs ys,C1 H xs/\C2 H ys/\(i=xs.length\/(i < xs.length/\i=ys.length))⟩
theorem aCJ{w:W9}{F E:Col}{TI TO:Az}{m l:Nat->Hz->Prop}{X:Cx}{xs ys:L9 V}(J:ColOk P w K F i1 m)(B:ColOk P w K E i2 l)(hd:[z,TI,TO,i1,i2].Nodup)(r:X.prog=P)(hw:X.w=w)(D:X.K=K)(hc:X.calm=true)(I:Inv X ap Z H s)(d:∀ b∈[z,TI,TO,i1,i2],gI X ap H b)
  (st:Zp.ZN s.heap z TI TO/\IsPair s.heap TI (.ref i1) (.ref i2)/\m i s.heap/\l i s.heap) (L:F H xs) (S:E H ys) :
  (∀ c∈[z,TI,TO,i1,i2],c < s.heap.objs.size)/\∃ f1 P1 S1 f2 P2 S2,Draws P w X.A.in1 i1 f1 xs.length P1 S1/\Draws P w X.A.in1 i2 f2 ys.length P2 S2/\S1 i s.heap/\(∀ j h,S1 j h->m j h)/\(∀ j v,P1 j v->∃ x,xs[j]? = some x/\aR x v)/\S2 i s.heap/\(∀ j h,S2 j h->l j h)/\(∀ j v,P2 j v->∃ x,ys[j]? = some x/\aR x v)/\Zp.Apart z TI TO i1 i2 f1 f2:=by
 obtain⟨⟨⟨_,_,s1,_⟩,a,b,s3⟩,s2,G,C⟩:=st
 simp only[C9,AW,DK,GG,not_or,D0,and_true,not_false_eq_true]at hd
 obtain⟨⟨M,d2,t,y⟩,⟨U,W,d7⟩,⟨q,u⟩,f⟩:=hd
 have k:X.A.in1.handled=none:=I.ok.hd hc
 obtain⟨f1,P1,S1,N,Q,Y,O,n⟩:=J.draw X r hw D i ap s Z H xs X.A.in1 I (d i1 (by simp)) G L k
 obtain⟨f2,P2,S2,D2,T,R,b3,p⟩:=B.draw X r hw D i ap s Z H ys X.A.in1 I (d i2 (by simp)) C S k
 refine⟨λc g=>?_,f1,P1,S1,f2,P2,S2,N,D2,Q,Y,O,T,R,b3,BF M,BF d2,BF t,BF y,U,W,d7,q,u,f,n z (d z (by simp)) t,p z (d z (by simp)) y,n TO (d TO (by simp)) q,p TO (d TO (by simp)) u,p i1 (d i1 (by simp)) f,n i2 (d i2 (by simp)) (BF f)⟩
 simp only[AW,DK,GG]at g
 rcases g with rfl|rfl|rfl|rfl|rfl
 .exact AS s1
 .exact AS s2
 .exact AS s3
 .obtain ⟨o,e,_⟩:=J.obj _ _ G;exact AS e
 .obtain ⟨o,e,_⟩:=B.obj _ _ C;exact AS e
theorem aME{w:W9}{C1 C2:Col}{TI TO:Az}{t1 t2:Nat->Hz->Prop}(O:ColOk P w K C1 i1 t1)(M:ColOk P w K C2 i2 t2)(hd:[z,TI,TO,i1,i2].Nodup) :
  Turn P w K tg (Itz C1 C2) [z,TI,TO,i1,i2] z (λi h=>Zp.ZN h z TI TO/\IsPair h TI (.ref i1) (.ref i2)/\t1 i h/\t2 i h) where
 mem:=by simp
 obj:=λi h ad c N=>by
  obtain⟨⟨⟨_,_,s1,_⟩,a,b,s3⟩,s2,s4,s5⟩:=ad
  simp only[AW,DK,GG]at N
  rcases N with rfl|rfl|rfl|rfl|rfl
  .exact ⟨_,s1,λv z=>by have z':Data.fields _=Data.cell v:=z;cases z'⟩
  .grind
  .grind
  .exact O.obj i h s4
  .exact M.obj i h s5
 keep:=λi h h' ⟨⟨⟨f,g,s1,r⟩,a,b,s3⟩,s2,s4,s5⟩ k=>⟨⟨⟨f,g,k z (by simp) _ s1,r⟩,a,b,k TO (by simp) _ s3⟩,k TI (by simp) _ s2,O.keep i h h' s4 λo e=>k i1 (by simp) o e,M.keep i h h' s5 λo e=>k i2 (by simp) o e⟩
 item:=by
  intro X A B G N i ap s Z H E I t st hg
  obtain⟨xs,ys,U,V,l1,l2⟩:=hg
  obtain⟨F,f1,P1,S1,f2,P2,S2,D1,D2,Y,a2,a3,b1,b2,b3,p⟩:=aCJ O M hd A B G N I t st U V
  have Q:=λzs (h:C1 H zs)=>O.one X A B G ap s Z H zs xs I h U
  have R:=λzs (h:C2 H zs)=>M.one X A B G ap s Z H zs ys I h V
  subst A B G
  refine Zp.sZ p D1 D2 st.1 st.2.1 Y b1 (B5 l1) (λ_=>B5 l2) (λ_ _ x y h' tk n=>?_) λq=>by ext
  obtain⟨u,hu,ru⟩:=a3 i x n.p1
  obtain⟨v,hv,rv⟩:=b3 i y n.p2
  refine⟨_,rfl,Zp.aT8 n.zn p.TOz λh2 zn T=>?_⟩
  have ac:s.heap.objs.size≠z:=BY (F z (by simp))
  have fT:H s.heap.objs.size=none:=I.hok.fresh (AK _)
  have j:∀ c o,c∉[z,TI,TO,i1,i2]->s.heap.get? c=some o->h2.get? c=some o:=λc o d q=>by
   simp only[AW,DK,GG,not_or]at d
   exact(T.2 c d.1).trans (n.kp c o d.1 d.2.2.1 d.2.2.2.1 d.2.2.2.2 q)
  have aa:∀ c l,H c=some l->c∉[z,TI,TO,i1,i2]:=λc l q D=>by rw[(t c D).1]at q;cases q
  have S:HOk X.prog X.w H h2:=λc l q=>by
   refine(I.hok c l q).stay (λc' v' d q'=>j c' v' ?_ q') (λ_ q=>q) (λ_ _ q=>q) λ_ _ q=>q
   ext
  have J:∀ c l,H c=some l->c≠s.heap.objs.size:=λc l q=>a6 q fT
  refine⟨.ref s.heap.objs.size,upd H s.heap.objs.size (.tup [u,v]),?_,rfl,⟨_,u,v,fT,rfl,rfl,λzs C=>by rw[Q zs C];exact hu,λzs C=>by rw[R zs C];exact hv⟩,⟨zn,(T.2 TI p.TIz).trans (n.kp TI _ p.TIz p.TITO p.TIi1 p.TIi2 st.2.1),O.keep _ _ _ (a2 _ _ n.s1) λo e=>(T.2 i1 p.i1z).trans e,M.keep _ _ _ (b2 _ _ n.s2) λo e=>(T.2 i2 p.i2z).trans e⟩,λc d=>by rw[aE (A3 (F c d))];exact(t c d).1⟩
  show Inv X ap Z _ {s with heap:=h2,gens:=s.gens,drawn:=s.drawn,toks:=tk}
  refine I.step (ch:=[z,TI,TO,i1,i2]) (λc d=>?_) (λc o _ _ d q _=>j c o d q) (λc o _ _ d q _=>⟨o.slots,j c o d q⟩)
   (λc o _ q n=>by rw[aE (A3 (AS q))];exact n) (λc o d q=>⟨o,j c o d q⟩) (λc ys q=>by rw[aE (J c _ q)];exact q) (λc o l q=>by rw[aE (J c _ q)];exact q)
   (λc ps q=>by rw[aE (J c _ q)];exact q) (λm hm=>?_) (HOk.track S fT ⟨by show 2<=sizeLine;decide,[x,y],.cons ru (.cons rv .nil),⟨_,(T.2 _ ac).trans n.pr,⟨rfl,rfl⟩,_,rfl⟩⟩) I.bare
  .obtain ⟨e0,e1,e2,e3,e4,e5⟩:=t c d
   ext
  .obtain ⟨o,L,ep,W,r⟩:=hm
   exact⟨o,L,ep,j _ o (λD=>(t _ D).2.1 rfl) W,r⟩
 done:=by
  intro X A B G N i ap s Z H E I t st hg
  obtain⟨xs,ys,U,V,ae⟩:=hg
  obtain⟨F,f1,P1,S1,f2,P2,S2,D1,D2,Y,a2,a3,b1,b2,b3,p⟩:=aCJ O M hd A B G N I t st U V
  subst A B G
  refine Zp.sZ p D1 D2 st.1 st.2.1 Y b1 (by ext) (λ_=>by ext) (λ_ _=>by ext) λ_ h' tk kp=>⟨rfl,?_⟩
  have j:∀ c o,c∉[z,TI,TO,i1,i2]->s.heap.get? c=some o->h'.get? c=some o:=λc o d q=>by
   ext
  have aa:∀ c l,H c=some l->c∉[z,TI,TO,i1,i2]:=λc l q D=>by rw[(t c D).1]at q;cases q
  refine I.step (g':=s.gens) (d':=s.drawn) (ch:=[z,TI,TO,i1,i2]) (λc d=>?_) (λc o _ _ d q _=>j c o d q) (λc o _ _ d q _=>⟨o.slots,j c o d q⟩) (λ_ _ _ _ n=>n) (λc o d q=>⟨o,j c o d q⟩) (λ_ _ q=>q) (λ_ _ _ q=>q) (λ_ _ q=>q) (λm hm=>?_) (λc l q=>?_) I.bare
  .obtain ⟨e0,e1,e2,e3,e4,e5⟩:=t c d
   ext
  .obtain ⟨o,L,ep,W,r⟩:=hm
   exact⟨o,L,ep,j _ o (λD=>(t _ D).2.1 rfl) W,r⟩
  .refine (I.hok c l q).stay (λc' v' d q'=>j c' v' ?_ q') (λ_ q=>q) (λ_ _ q=>q) λ_ _ q=>q
   ext
 self:=λ_ _ _ _ _ st h=>Zp.aT9 st.1 h
def rC(K:Frag)(H:Hp)(x:V)(C:Col):Prop:=
 (∃ a xs,x=.ref a/\SqL K H a xs/\C=λH xs=>SqL K H a xs)\/(∃ a xs,x=.ref a/\SqT K H a xs/\C=λH xs=>SqT K H a xs)\/∃ z,x=.str z/\C=λ_ xs=>xs=vA z
theorem mR{X:Cx}{x:V}{C:Col}(I:Inv X ap Z H s)(r:aR x u)(h:rC X.K H x C) :
  ∃ (o:Obj) (tn:Az->Nat->Hz->Prop),(∀ h':Hz,(∀ b ob,s.heap.get? b=some ob->h'.get? b=some ob)->Zp.mQ u o h')/\o.isFreed=false/\(∀ it,ColOk X.prog X.w X.K C it (tn it))/\∀ it h',h'.get? it=some o->tn it 0 h':=by
 rcases h with ⟨a,xs,rfl,f,rfl⟩|⟨a,xs,rfl,f,rfl⟩|⟨z,rfl,rfl⟩
 .cases r
  obtain⟨c,j,p,g⟩:=I.list f
  refine⟨{cls:=.type "list_iterator",data:=.fields #[.ref a,.int 0 0]},λit i h=>h.IsListIter it a i,λh' d prog w A E s' Q e q=>?_,rfl,λit=>aMD a it,λit h' e=>⟨_,e,rfl,rfl⟩⟩
  subst e
  refine E7 (l:=a) (items:=c.toArray) ?_ q
  obtain⟨o,e,r⟩:=p.isList
  exact⟨o,d _ _ e,r⟩
 .cases r
  obtain⟨c,j,p,g⟩:=I.tuple f
  refine⟨{cls:=.type "tuple_iterator",data:=.fields #[.ref a,.int 0 0]},λit i h=>h.IsTupleIter it a i,λh' d prog w A E s' Q e q=>?_,rfl,λit=>aJO a it,λit h' e=>⟨_,e,rfl,rfl⟩⟩
  subst e
  refine wpAny_pyIter_tuple (t:=a) (items:=c.toArray) ?_ q
  obtain⟨o,e,r⟩:=p
  exact⟨o,d _ _ e,r⟩
 .obtain ⟨t,rfl⟩:=r
  refine⟨{cls:=.type (strIterType z),data:=.fields #[.str z t,.int 0 0]},λit i h=>h.IsStrIter it (strIterType z) z t i,λh' d prog w A E s' Q e q=>?_,rfl,λit=>aQJ z t it,λit h' e=>⟨_,e,rfl,rfl⟩⟩
  subst e
  exact wpAny_pyIter_strU q
def aMF(K:Frag)(ta:TA):TI:=λZ H R=>ta Z H λvs H1=>∃ x y C1 C2,vs=[x,y]/\rC K H1 x C1/\rC K H1 y C2/\R (Itz C1 C2) H1
theorem aJP{X:Cx}{a b:E2}{ta:TA}{p pos:Pos}(F:Gl X "zip")(t:X.mg "zip"=none)(A:PA X [a,b] ta)(B:starEach [a,b] X.env=[(false,eval a X.env),(false,eval b X.env)]:=by rfl)(hs2:starEach [b] X.env=[(false,eval b X.env)]:=by rfl) :
  PI X tg (.Call (.Name "zip" p) [a,b] [] pos) (aMF X.K ta):=by
 intro ap s Z H R I h
 refine Call_ (jU I F t ID (B3 (thn (A pos ap s Z H _ I h) λus s1 ⟨vs,H1,f,r1,i⟩=>?_) (by rw[B,hs2]) (by rw[hs2];rfl)))
 obtain⟨x,y,S,O,rfl,J,n,q⟩:=i
 cases r1 with
 | cons ru rr=>
  cases rr with
  | cons rv rr=>
   cases rr
   rename_i u1 _ u2
   obtain⟨P,M,r,z,o,D⟩:=mR f ru J
   obtain⟨N,L,w,v,C,E⟩:=mR f rv n
   refine Zp.aCI (r _ λ_ _ e=>e) (w _ λ_ _ e=>AD _ e) z v λh' g m j u l T G=>?_
   have k:Inv X ap Z H1 {s1 with heap:=h'}:=f.kept (t':=s1.toks) G
   refine wpAny_pyIter_zip g ?_
   refine⟨s1.heap.objs.size+4,[s1.heap.objs.size+4,s1.heap.objs.size+2,s1.heap.objs.size+3,s1.heap.objs.size,s1.heap.objs.size+1],_,_,H1,rfl,k,aME (o _) (C _) ?_,⟨⟨⟨_,_,g,.inl rfl⟩,_,_,j⟩,m,D _ _ u,E _ _ l⟩,λc Q=>?_,q⟩
   .grind
   .have d:s1.heap.objs.size<=c:=by
     ext
    exact f.fpOk d (f.hok.fresh d)
end L2
variable{z:Str}
namespace Fl
variable{F B:Hp}
noncomputable def aG1(p:Dz×Dz):Dz:=.tuple [p.1,p.2]
noncomputable def iJ(x y:Dz):R (L9 Dz):=(aH x).bind λxs=>(aH y).bind λys=>.ok ((xs.zip ys).map aG1)
theorem lY{d:Dz}(h:aH d=.ok xs):xs.length<=16777216:=by
 unfold aH at h
 ext
theorem iK{d:Dz}{e:Er}:aH d≠.ex e:=by
 intro h
 unfold aH at h
 ext
theorem vB:∀ (cs:L9 Nat),DatVs K F (cs.map λc=>V.str ⟨#[c]⟩) (cs.map λc=>PyData.str ⟨#[c]⟩)
 | []=>.nil
 | c::t=>.cons (.str _) (vB t)
theorem s9{v:V}{d:Dz}(s:aC F B)(r:aM K F B v d)(h:aH d=.ok xs):∃ C vs,rC K B v C/\(∀ H1,aC B H1->C H1 vs)/\DatVs K F vs xs:=by
 unfold aH at h
 split at h
 .split at h
  .cases h
   obtain⟨p,vs,rfl,h1,h2⟩:=aM.lst_of s r
   exact⟨_,vs,.inl ⟨p,vs,rfl,h1,rfl⟩,λH1 q=>h1.same q,h2⟩
  .cases h
 .split at h
  .cases h
   obtain⟨p,vs,rfl,h1,_,h2⟩:=aM.tup_of s r
   exact⟨_,vs,.inr (.inl ⟨p,vs,rfl,h1.same s,rfl⟩),λH1 q=>(h1.same s).same q,h2⟩
  .cases h
 .rename_i z
  split at h
  .cases h
   obtain rfl:=aM.str_of r
   exact⟨_,vA z,.inr (.inr ⟨z,rfl,rfl⟩),λ_ _=>rfl,vB _⟩
  .cases h
 .cases h
theorem vC{v:V}{d:Dz}(s:aC F B)(r:DatV K F v d)(h:aH d=.ok xs):∃ C vs,rC K B v C/\(∀ H1,aC F H1->C H1 vs)/\DatVs K F vs xs:=by
 unfold aH at h
 split at h
 .split at h
  .cases h
   obtain⟨p,vs,rfl,h1,h2⟩:=DatV.lst_of r
   exact⟨_,vs,.inl ⟨p,vs,rfl,h1.same s,rfl⟩,λH1 q=>h1.same q,h2⟩
  .cases h
 .split at h
  .cases h
   obtain⟨p,vs,rfl,h1,h2⟩:=DatV.tup_of r
   exact⟨_,vs,.inr (.inl ⟨p,vs,rfl,h1.same s,rfl⟩),λH1 q=>h1.same q,h2⟩
  .cases h
 .rename_i z
  split at h
  .cases h
   obtain rfl:=DatV.str_of r
   exact⟨_,vA z,.inr (.inr ⟨z,rfl,rfl⟩),λ_ _=>rfl,vB _⟩
  .cases h
 .cases h
theorem aEZ:∀ {xs:L9 α} {ys:L9 β} {i:Nat} {x:α} {y:β},xs[i]? = some x->ys[i]? = some y->(xs.zip ys)[i]? = some (x,y)
 | [],_,_,_,_,h,_=>by simp at h
 | _::_,[],_,_,_,_,h=>by simp at h
 | x::xs,y::ys,0,_,_,h1,h2=>by simp at h1 h2;subst h1 h2;rfl
 | x::xs,y::ys,i+1,_,_,h1,h2=>by
  show(xs.zip ys)[i]? = _
  exact aEZ (by simpa using h1) (by simpa using h2)
theorem aE0{k h:Col}{us vs:L9 V}{ys:L9 Dz}(hz:xs.length<=16777216)(h1:∀ H1,aC F H1->aC B H1->k H1 us)(h2:∀ H1,aC F H1->aC B H1->h H1 vs)(f:DatVs K F us xs)(d2:DatVs K F vs ys) :
  Yld K (Itz k h) F B ((xs.zip ys).map aG1) where
 len:=by rw[bX,AB,EC];ext
 go:=λi l H1 c d b hi=>by
  rw[AB,EC]at hi
  have a:aC F H1:=λx o z=>d x o (c x o z)
  exact⟨us,vs,h1 H1 a b,h2 H1 a b,by rw[f.length];ext,by rw[d2.length];ext⟩
 yld:=λi l H1 v H2 x c d b y e=>by
  obtain⟨p,u,w,j,rfl,rfl,n,m⟩:=y
  have a:aC F H1:=λx o z=>d x o (c x o z)
  obtain⟨dx,e1,r1⟩:=f.get (n us (h1 H1 a b))
  obtain⟨q,e2,r2⟩:=d2.get (m vs (h2 H1 a b))
  rw[AC,aEZ e1 e2]at e
  cases e
  have g:=aC.upd (o:=.tup [u,w]) (aP d j)
  exact⟨_,Ext.new d j,.tup (SqT.of aL) (.cons ((r1.same c).same g) (.cons ((r2.same c).same g) .nil))⟩
 stop:=λl H1 c d b=>by
  have a:aC F H1:=λx o z=>d x o (c x o z)
  refine⟨us,vs,h1 H1 a b,h2 H1 a b,?_⟩
  rw[AB,EC,f.length,d2.length]
  ext
section
variable{X:Cx}{c:Ct}{E:XK}{tg e:E2}
theorem aQK{f g:Sg->R Dz}(t:X.K=c.K)(h:PI X tg e (aMF X.K (b9 (tV (bC c) c E f) (b9 (tV (bC c) c E g) eJ)))):PI0 X c E tg e (λY=>(f Y).bind λx=>(g Y).bind λy=>iJ x y):=PI.imp h λZ H Q b=>by
 obtain⟨Y,F,ab,k⟩:=b
 refine⟨Y,F,ab,(Rk.bind k).imp λx _ q v p H1 s1 r1=>⟨Y,p,ab.ext s1,((Rk.bind q).ext s1).imp λy _ q w d H' s r=>?_⟩⟩
 unfold iJ at q
 cases e1:aH x with
 | bad=>rw[e1]at q;exact q.elim
 | ex e=>exact absurd e1 iK
 | ok xs=>
  rw[e1]at q
  cases e2:aH y with
  | bad=>rw[R.bind_ok,e2]at q;exact q.elim
  | ex e=>exact absurd e2 iK
  | ok ys=>
   rw[R.bind_ok,e2]at q
   have a:DatV c.K d v x:=DatV.same s.ff r1
   obtain⟨o,us,m,A,l⟩:=vC s.fh a e1
   obtain⟨i,vs,u,n,j⟩:=vC s.fh r e2
   rw[t]
   exact⟨v,w,o,i,rfl,m,u,Rk.ok q _ d H' (s1.trans s) (aE0 (lY e1) (λH1 z _=>A H1 z) (λH1 z _=>n H1 z) l j)⟩
theorem aQL{f g:Sg->R Dz}(t:X.K=c.K)(h:PI X tg e (aMF X.K (b9 (tV (aU c) c E f) (b9 (tV (aU c) c E g) eJ)))):PIf X c E tg e (λY=>(f Y).bind λx=>(g Y).bind λy=>iJ x y):=PI.imp h λZ H Q b=>by
 obtain⟨Y,F,ab,k⟩:=b
 refine⟨Y,F,ab,(Rk.bind k).imp λx _ q v p H1 s1 r1=>⟨Y,p,ab.ext s1,((Rk.bind q).ext s1).imp λy _ q w d H' s r=>?_⟩⟩
 unfold iJ at q
 cases e1:aH x with
 | bad=>rw[e1]at q;exact q.elim
 | ex e=>exact absurd e1 iK
 | ok xs=>
  rw[e1]at q
  cases e2:aH y with
  | bad=>rw[R.bind_ok,e2]at q;exact q.elim
  | ex e=>exact absurd e2 iK
  | ok ys=>
   rw[R.bind_ok,e2]at q
   have a:aM c.K d H' v x:=aM.ext s r1
   obtain⟨o,us,m,A,l⟩:=s9 s.fh a e1
   obtain⟨i,vs,u,n,j⟩:=s9 s.fh r e2
   rw[t]
   exact⟨v,w,o,i,rfl,m,u,Rk.ok q _ H' d H' (s1.trans s) (a7 _) (aE0 (lY e1) (λH1 _ z=>A H1 z) (λH1 _ z=>n H1 z) l j)⟩
end
end Fl
variable{y:V9}
namespace L2
variable{key:V9}
section
variable{K:Type}[DecidableEq K]{prog:P9}{w:W9}{knd:KeyKind prog w K}{A:U9}{E:V9->S9->Prop}{s:S9}
theorem oM{a:L9 (K×V9)}{k:K}(h:valueAt a k=none):k∉a.map (·.1):=λq=>by
 obtain⟨kv,b,e⟩:=AT.mp q
 unfold valueAt at h
 have h:=Option.map_eq_none_iff.mp h
 ext
theorem aMG{d:Az}{f:L9 (K×V9)}{k:K}(c:knd.is k key=true)(j:s.heap.DictOf knd d f)
  (h1:∀ v,valueAt f k=some v->Q v {s with toks:=s.toks+1})
  (h2:valueAt f k=none->∀ h',h'.DictOf knd d (f++[(k,y)])->Heap.SameBut d s.heap h'->Q y {s with heap:=h',toks:=s.toks+1})
  (hsz:f.length<=sizeLine):wpAny (model prog w) A (dictSetDefault d key y) Q E s:=by
 have hz:s.heap.DictLe d sizeLine:=λo es ep h g=>by
  obtain⟨o',z,t,a,_,b,_,i,_⟩:=j
  rw[h]at a;cases a
  rw[g]at b;cases b
  have e1:=i.length
  ext
 cases e:valueAt f k with
 | some v=>exact wpAny_dictSetDefault_of (hz:=hz) c j.mapOf (λB p=>h1 B p) λm=>by rw[e]at m;cases m
 | none=>
  have u:=oM e
  obtain⟨o,es,ep,h,x,g,n,i,m⟩:=j
  have hi:(es.findIdx? λe=>knd.is k e.key)=none:=by
   have q:(es.findIdx? λe=>knd.is k e.key)=f.findIdx? λkv=>decide (kv.1=k):=by rw[<-i.findIdx k];obtain⟨l⟩:=es;simp
   ext
  unfold dictSetDefault
  try with_reducible refine CJ ?_
  refine AA (knd.pyHash c (AA (wpAny_dictFind_of (s:={s with toks:=s.toks+1}) c h g n ?_)))
  rw[hi]
  have r:=hz _ _ _ h g
  refine AA (EL (AA (wpAny_updateDictKeys (hz:=r) (s:={s with toks:=s.toks+1}) h g (AE (h2 e _ ⟨_,_,ep+1,BK _ h (Obj.isFreed_of_dict (EM g _)),x.mapDictKeys _,EM g _,n.push c _,?_,?_⟩ (BU ..))))))
  .have q:=i.append c (knd.hash k) y
   ext
  .grind
end
section
variable{K:Type}[DecidableEq K]{prog:P9}{w:W9}{knd:HeapKind prog w K}{A:U9}{E:V9->S9->Prop}{s:S9}
theorem aQM{d:Az}{xs:L9 (K×Az×V9)}{k:K}(B:knd.room A)(b:knd.is s.heap k a)(C:s.heap.DictOfH knd d xs)
  (h1:∀ p,atKey xs k=some p->Q p.2 {s with toks:=s.toks+knd.draws k})
  (h2:atKey xs k=none->∀ h',h'.DictOfH knd d (storedH xs k a y)->Heap.SameBut d s.heap h'->Q y {s with heap:=h',toks:=s.toks+knd.draws k})
  (hsz:xs.length<=sizeLine):wpAny (model prog w) A (dictSetDefault d (.ref a) y) Q E s:=by
 obtain⟨o,es,ep,g,D,f,n,m,u⟩:=C
 unfold dictSetDefault
 try with_reducible refine CJ ?_
 refine AA (knd.pyHash B b (AA (wpAny_dictFind_heap (s:={s with toks:=s.toks+knd.draws k}) B b g f n m u (λl=>?_) (λj p v=>?_))))
 .have i:k∉xs.map (·.1):=not_mem_keys_of_get l
  have h:=atKey_none_of_get l
  have h2:=h2 h
  rw[storedH_new h]at h2
  have r:es.size<=sizeLine:=by have e:=size_of_entries n;ext
  refine AA (EL (AA (wpAny_updateDictKeys (hz:=r) (s:={s with toks:=s.toks+knd.draws k}) g f (AE (h2 _ ⟨_,_,ep+1,BK _ g (Obj.isFreed_of_dict (EM f _)),D.mapDictKeys _,EM f _,by simp[n,entryOfKey],λx c=>?_,?_⟩ (BU ..))))))
  .rcases BD.mp c with c|c
   · exact knd.keeps (m x c) g f (BU ..)
   · rw [AM.mp c]; exact knd.keeps b g f (BU ..)
  .rw[BE,DE]
   refine⟨u,by simp,λx c z t=>?_⟩
   rw[show z=k by simpa using t]
   exact λq=>i (q▸c)
 .refine AA (E9 (s:={s with toks:=s.toks+knd.draws k}) g f ?_)
  rw[entry_at n j,v]
  exact AA (EL (AE (h1 p (atKey_of_get u v))))
end
theorem aCK{w:W9}{d:Az}(c:(d == sysModules)=false) :
  MeetsIn prog w (Builtin.«dict.setdefault» ⟨[.ref d,key,y],[]⟩) (λA R s=>s.TypeIs (.ref d) "dict"/\wpAny (model prog w) A.in1 (dictSetDefault d key y) (λv s'=>R (.ok (.ret v)) s') (λe s'=>R (.error e) s') s):=
 .of_wp λA R s a=>by
  obtain⟨b,h⟩:=a
  unfold Builtin.«dict.setdefault»
  refine AA ?_
  unfold Builtin.Dict.keyAndDefault
  refine AA (FN b ?_)
  show wpAny _ _ (pure (d,key,some y)) _ _ s
  refine AE ?_
  show wpAny _ _ (if (d == sysModules)=true then _ else(dictSetDefault d key y >>= _)) _ _ s
  rw[AL (by rw[c];exact BR)]
  exact AA (BZ h (λv s' q=>AE ⟨v,rfl,q⟩) λ_ _ q=>q)
end L2
variable{y:Dz}
namespace Fl
def aUA(X:Cx):V->L9 V->Hp->VK->Prop:=λx xs H Q=>∃ p es k kv y,x=.ref p/\xs=[kv,y]/\DicAt X H p es k kv/\es.length<=sizeLine/\(∀ v,atE es k=some v->Q v H)/\(atE es k=none->∀ ep,Q y (upd H p (bB X.w p (jZ es k kv y) ep)))
section
variable{X:Cx}{c:Ct}{E:XK}{e a b:E2}{st:Stmt}{pos:Pos}
theorem aJQ(P:X.A.units+64 < cLine):MtR X "dict.setdefault" (aUA X):=by
 intro ap s Z H x xs v us Q I O S h
 obtain⟨p,es,k,kv,y,rfl,rfl,D,N,K,M⟩:=h
 cases(show v=Value.ref p from O)
 cases S with
 | @cons _ ku _ us r1 t=>
  cases t with
  | @cons _ yu _ us r2 t=>
   cases t
   have c:s.TypeIs (.ref p) "dict":=by
    obtain⟨ep,l⟩:=D.o
    obtain⟨⟨_,o,ar,h1,h2,_⟩,_,_⟩:=(show bS X.prog X.w H s.heap p (bB X.w p es ep)from I.hok p _ l)
    exact⟨o,h1,h2.1⟩
   obtain⟨n,⟨b,xs,rfl,rfl,g,q,dd⟩|⟨d,xs,rfl,rfl,g,q,dd⟩⟩:=D.cases I r1
   .have G:xs.length<=sizeLine:=by rw[<-Paired.length g];exact N
    have a:=mL (k:=k) g
    refine FW DL c GA (FY _ _ _) (aCK n) ⟨c,aQM (jM P) q dd (λpr C=>?_) (λC h' f E=>?_) G⟩
    .rw[C]at a
     cases e:atE es k with
     | none=>rw[e]at a;cases a
     | some z=>
      rw[e]at a
      exact⟨_,H,I.tok _,a,K z e⟩
    .rw[C]at a
     have e:atE es k=none:=by
      cases e:atE es k with
      | none=>rfl
      | some z=>rw[e]at a;cases a
     obtain⟨j,ar,ep,i,h2,B,J,_,L⟩:=f
     obtain⟨F,l⟩:=D.o
     refine⟨y,_,jJ I (by rw[l];exact True.intro) E ⟨j,i⟩ (f7 (ep:=ep) n ⟨j,ar,i,h2,B,?_⟩),r2,M e ep⟩
     rw[J]
     exact mJ (aAP r2 g)
   .have G:xs.length<=sizeLine:=by rw[<-Paired.length g];exact N
    have a:=lF (k:=d) g
    refine FW DL c GA (FY _ _ _) (aCK n) ⟨c,aMG q dd (λv m=>?_) (λm h' f E=>?_) G⟩
    .rw[m]at a
     cases e:atE es (keyPy d)with
     | none=>rw[e]at a;cases a
     | some z=>
      rw[e]at a
      exact⟨_,H,I.tok _,a,K z e⟩
    .rw[m]at a
     have e:atE es (keyPy d)=none:=by
      cases e:atE es (keyPy d)with
      | none=>rfl
      | some z=>rw[e]at a;cases a
     have pv:=aAQ (k:=d) r2 g
     have r:stored xs d yu=xs++[(d,yu)]:=by
      unfold stored
      rw[AL]
      intro z
      obtain⟨kv,h1,h2⟩:=List.any_eq_true.mp z
      exact oM m (AT.mpr ⟨kv,h1,A5 h2⟩)
     rw[r]at pv
     obtain⟨j,ar,ep,i,h2,B,J,L,_⟩:=f
     obtain⟨F,l⟩:=D.o
     refine⟨y,_,jJ I (by rw[l];exact True.intro) E ⟨j,i⟩ (f7 (ep:=ep) n ⟨j,ar,i,h2,B,?_⟩),r2,M e ep⟩
     exact mK pv L λR u=>J R (by simpa using u)
def pO(i:Nat)(f g:Sg->R Dz):Sg->R Fw:=λY=>match Y[i]? with
 | some (some (.m a0))=>(f Y).bind λk=>(g Y).bind λy=>if bH k (a0.map (·.1))=true/\a0.length<=16777216 then .ok (.nx (if bJ a0 k=true then Y else Y.set i (some (.m (putM a0 k y)))))else .bad
 | _=>.bad
theorem aE1{f g:Sg->R Dz}(Q:X.K=c.K)(hW:X.w=c.w)(h:PS X st (v4 (aGU X "dict" (aUA X) (iW i) (b9 (tV (bC c) c E f) (b9 (tV (bC c) c E g) eJ))))):PSf X c E st (pO i f g):=PS.imp h λD Z H ⟨Y,F,ab,k⟩=>by
 unfold pO at k
 split at k
 .rename_i j hi
  obtain⟨_,x,p,es,rfl,⟨ep,L⟩,_⟩:=ab.slot i _ hi
  refine⟨_,x,λap s v I r=>?_,Y,F,ab,(Rk.bind k).imp λd _ q v P H1 s1 r1=>?_⟩
  .cases (show v=Value.ref p from r)
   rw[<-hW]at L
   obtain⟨⟨_,o,ar,h1,h2,_⟩,_,_⟩:=(show bS X.prog X.w H s.heap p (bB X.w p es ep)from I.hok p _ L)
   exact⟨⟨o,h1,h2.1⟩,λa z=>by cases z;exact⟨o,h1,h2.2.1⟩⟩
  .refine ⟨Y,P,ab.ext s1,((Rk.bind q).ext s1).imp λy _ q u G H2 B r2=>?_⟩
   split at q
   .rename_i J
    have b:=s1.trans B
    have e:=ab.ext b
    obtain⟨S,n,l,N,m⟩:=aAR Q hW e hi (DatV.same B.ff r1) J.1
    rw[x]at l
    cases l
    have C:=yG (k:=d) m.k1 m.vs
    refine⟨p,n,d,v,u,rfl,rfl,N,?_,λz O=>?_,λO=>?_⟩
    .have:n.length=j.length:=by have:=CQ length m.k1;simpa using this
     rw[this,bX];exact J.2
    .have A:bJ j d=true:=by
      rcases C with ⟨M,_⟩|⟨_,_,_,t,_⟩
      · simp_all
      · unfold bJ; rw [t]; rfl
     rw[AN A]at q
     exact Rk.ok q Z G _ b.ff e
    .have A:¬ bJ j d=true:=by
      rcases C with ⟨_,t⟩|⟨_,_,M,_,_⟩
      · unfold bJ; rw [t]; intro z; cases z
      · simp_all
     rw[AL A]at q
     intro ep
     rw[hW]
     exact Rk.ok q Z G _ b.ff (e.putM hi x (m.put (DatV.same B.ff r1) r2))
   .exact q.elim
 .exact k.elim
end
def aG2(i:Nat):Sg->R Fw:=λY=>match Y[i]? with
 | some (some (.l xs))=>.ok (.nx (Y.set i (some (.l xs.reverse))))
 | _=>.bad
theorem z8{F:Hp}:∀ {vs:L9 V} {xs:L9 Dz},DatVs K F vs xs->DatVs K F vs.reverse xs.reverse
 | _,_,.nil=>.nil
 | _,_,.cons h t=>by
  rw[EG,EG]
  exact(z8 t).append (.cons h .nil)
section
variable{X:Cx}{c:Ct}{E:XK}{st:Stmt}
theorem aUB(h:PS X st (v4 (aS9 X.K "list" aA8 (iW i)))):PSf X c E st (aG2 i):=PS.imp h λD Z H ⟨Y,F,ab,k⟩=>by
 unfold aG2 at k
 split at k
 .rename_i xs hi
  obtain⟨v,a,p,vs,rfl,h2,e,d,b⟩:=ab.slot i _ hi
  refine⟨_,a,.inl ⟨rfl,vs,SqL.of h2⟩,p,vs,rfl,rfl,h2,?_⟩
  exact Rk.ok k Z F _ (a7 F) (ab.putL hi a (z8 b))
 .exact k.elim
end
end Fl
namespace Zp
theorem aJR(v:V9)(o:Obj) :
  Meets (Builtin.«enumerate.__new__» ⟨[.type "enumerate",v],[]⟩) (λ_ R s=>mQ v o s.heap /\
   R (.ok (.ret (.ref (s.heap.push o).objs.size))) {s with heap:=(s.heap.push o).push {cls:=.type "enumerate",data:=.fields #[.none,.bool false,.ref s.heap.objs.size,rawInt 0,.none,.none]}}):=
 .of_wp λprog w A R s h=>by
  obtain⟨a,g,d,b,os⟩:=s;obtain⟨i,h⟩:=h
  have f:=sub_enumerate
  have e:∀ {A:U9} {E:V9->S9->Prop} {Q:V9->S9->Prop},Q (.ref a.objs.size) ⟨a.push o,g,d,b,os⟩->wpAny (model prog w) A (pyIter v) Q E ⟨a,g,d,b,os⟩:=λj=>i prog w _ _ ⟨a,g,d,b,os⟩ _ rfl j
  wp_walk
  refine wpAny_stack_any λst=>AE ?_
  split
  .rename_i c _ _ _ _ _
   cases(c == Value.type "enumerate")<;>(wp_walk using e;exact⟨_,rfl,h⟩)
  .wp_walk using e
   exact⟨_,rfl,h⟩
theorem aMH{w:W9}{A:U9}{v:V9}(h1:mQ v o s.heap)(f1:o.isFreed=false)
  (h:∀ h',IsEnum h' (s.heap.objs.size+1) s.heap.objs.size 0 .none->h'.get? s.heap.objs.size=some o->h'.objs.size=s.heap.objs.size+2->(∀ b o,s.heap.get? b=some o->h'.get? b=some o)->Q (.ref (s.heap.objs.size+1)) {s with heap:=h'}) :
  wpAny (model prog w) A (call (.type "enumerate") [v]) Q E s:=by
 refine callType_new F.called_enumerate (by decide) (F.typeCall_enumerate_1 _) (F.newCall_enumerate_1 _) (λobj=>F.args_object_init_2 obj _) F.entry_enumerate_new (aJR v o) ⟨h1,?_⟩
 have a:(s.heap.push o).objs.size=s.heap.objs.size+1:=BM ..
 show _/\_
 rw[a]
 have c:IsEnum ((s.heap.push o).push {cls:=.type "enumerate",data:=.fields #[.none,.bool false,.ref s.heap.objs.size,rawInt 0,.none,.none]}) (s.heap.objs.size+1) s.heap.objs.size 0 .none:=by
  have q:=AV (s.heap.push o) (o:={cls:=.type "enumerate",data:=.fields #[.none,.bool false,.ref s.heap.objs.size,rawInt 0,.none,.none]}) rfl
  rw[a]at q;exact q
 exact⟨⟨_,c,rfl⟩,h _ c (AD _ (AV _ f1)) (by rw[BM,a]) λb o y=>AD _ (AD _ y)⟩
end Zp
namespace L2
def Itn(C:Col):It:=
 ⟨λi H=>∃ xs,C H xs/\i < xs.length,λi H x H'=>∃ p v,H p=none/\x=.ref p/\H'=upd H p (.tup [.int i,v])/\∀ xs,C H xs->xs[i]? = some v,λi H=>∃ xs,C H xs/\i=xs.length⟩
theorem aJS{w:W9}{k1}{L:Pos}{C:Col}{e:Az}{tn:Nat->Hz->Prop}(c:ColOk P w K C it tn)(v:e≠it) :
  Turn P w K (.Tuple es k1 L) (Itn C) [e,it] e (λi h=>(∃ old,IsEnum h e it i old)/\tn i h) where
 mem:=by simp
 obj:=λi h st b a=>by
  obtain⟨⟨old,s1⟩,l⟩:=st
  rcases AW.mp a with z|z
  .grind
  .obtain rfl:b=it:=by simpa using z
   exact c.obj i h l
 keep:=λi h h' st k=>by
  obtain⟨⟨old,s1⟩,l⟩:=st
  exact⟨⟨old,k e (by simp) _ s1⟩,c.keep i h h' l λo q=>k it (by simp) o q⟩
 item:=by
  intro X y B F U i ap s Z H E I g st hg
  obtain⟨⟨old,s1⟩,l⟩:=st
  obtain⟨xs,O,J⟩:=hg
  have p:X.A.in1.handled=none:=I.ok.hd U
  obtain⟨fp,Pv,S,D,R,a2,a3,a4⟩:=c.draw X y B F i ap s Z H xs X.A.in1 I (g it (by simp)) l O p
  have one:=λzs (h:C H zs)=>c.one X y B F ap s Z H zs xs I h O
  subst y B F
  obtain⟨o2,Q,_⟩:=c.obj _ _ l
  refine HK D s1 R J v (a4 e (g e (by simp)) v) λu h' W pu so si st ae kp=>?_
  obtain⟨x,T,ru⟩:=a3 i u pu
  refine⟨_,rfl,GW so λh2 se sb=>?_⟩
  have aa:s.heap.objs.size≠e:=BY (AS s1)
  have ac:h2.get? s.heap.objs.size=some {cls:=.type "tuple",data:=.seq #[.int i W,u]}:=(sb.2 _ aa).trans st
  have Y:H s.heap.objs.size=none:=I.hok.fresh (AK _)
  have f:∀ b o,b∉[e,it]->s.heap.get? b=some o->h2.get? b=some o:=λb o a q=>by
   simp only[AW,DK,GG,not_or]at a
   exact(sb.2 b a.1).trans (kp b o a.1 a.2 q)
  have af:∀ b j,H b=some j->b∉[e,it]:=λb j q N=>by rw[(g b N).1]at q;cases q
  have M:HOk X.prog X.w H h2:=λb j q=>by
   refine(I.hok b j q).stay (λc' v' d q'=>f c' v' ?_ q') (λ_ q=>q) (λ_ _ q=>q) λ_ _ q=>q
   ext
  have G:HOk X.prog X.w (upd H s.heap.objs.size (.tup [.int i,x])) h2:=HOk.track M Y ⟨by show 2<=sizeLine;decide,[.int i W,u],.cons ⟨_,rfl⟩ (.cons ru .nil),⟨_,ac,⟨rfl,rfl⟩,_,rfl⟩⟩
  have t:∀ b j,H b=some j->b≠s.heap.objs.size:=λb j q=>a6 q Y
  have I2:Inv X ap Z (upd H s.heap.objs.size (.tup [.int i,x])) {s with heap:=h2,gens:=s.gens,drawn:=s.drawn,toks:=W+1}:=by
   refine I.step (ch:=[e,it]) (λb a=>?_) (λb o _ _ d q _=>f b o d q) (λb o _ _ d q _=>⟨o.slots,f b o d q⟩)
    (λb o _ q n=>by rw[aE (A3 (AS q))];exact n) (λb o d q=>⟨o,f b o d q⟩) (λb ys q=>by rw[aE (t b _ q)];exact q) (λb o j q=>by rw[aE (t b _ q)];exact q)
    (λb ps q=>by rw[aE (t b _ q)];exact q) (λm hm=>?_) G I.bare
   .obtain ⟨e0,e1,e2,e3,e4,e5⟩:=g b a
    ext
   .obtain ⟨o,ad,ep,ho,r⟩:=hm
    exact⟨o,ad,ep,f _ o (λN=>(g _ N).2.1 rfl) ho,r⟩
  refine⟨.ref s.heap.objs.size,_,I2,rfl,⟨_,x,Y,rfl,rfl,λzs V=>by rw[one zs V];exact T⟩,⟨⟨_,by simpa using se⟩,c.keep _ _ _ (a2 _ _ si) λo q=>(sb.2 it v.symm).trans q⟩,λb a=>?_⟩
  rw[aE]
  .exact (g b a).1
  .intro N
   have J:b < s.heap.objs.size:=by
    simp only[AW,DK,GG]at a
    rcases a with rfl|rfl
    · ext
    · exact AS Q
   ext
 done:=by
  intro X y B F U i ap s Z H E I g st hg
  obtain⟨⟨old,s1⟩,l⟩:=st
  obtain⟨xs,O,rfl⟩:=hg
  have p:X.A.in1.handled=none:=I.ok.hd U
  obtain⟨fp,Pv,S,D,R,a2,a3,a4⟩:=c.draw X y B F _ ap s Z H xs X.A.in1 I (g it (by simp)) l O p
  subst y B F
  obtain⟨g0,g1,g2,g3,g4,g5⟩:=g it (by simp)
  exact HY D s1 R λh' eb=>⟨rfl,I.turned (t':=s.toks) (λb o a q=>eb b o a q) g0 g1 g3 g4 g5⟩
 self:=λ_ _ _ _ _ st h=>E8 st.1.choose_spec h
def aOD(K:Frag)(ta:TA):TI:=λZ H R=>ta Z H λvs H1=>∃ x C,vs=[x]/\rC K H1 x C/\R (Itn C) H1
theorem aQN{X:Cx}{k1}{d:Pos}{a:E2}{ta:TA}{p pos:Pos}(y:Gl X "enumerate")(v:X.mg "enumerate"=none)(l:PA X [a] ta)(m:starEach [a] X.env=[(false,eval a X.env)]:=by rfl) :
  PI X (.Tuple es k1 d) (.Call (.Name "enumerate" p) [a] [] pos) (aOD X.K ta):=by
 intro ap s Z H R I h
 refine Call_ (jU I y v GL (B3 (thn (l pos ap s Z H _ I h) λus s1 f=>?_) m rfl))
 obtain⟨vs,H1,c,r1,i⟩:=f
 obtain⟨x,C,rfl,E,q⟩:=i
 obtain⟨u,rfl,w⟩:=kZ r1
 obtain⟨F,G,t,D,n,r⟩:=mR c w E
 refine Zp.aMH (t _ λ_ _ e=>e) D λh' g o k A=>?_
 have j:Inv X ap Z H1 {s1 with heap:=h'}:=c.kept (t':=s1.toks) A
 refine E8 g ?_
 refine⟨s1.heap.objs.size+1,[s1.heap.objs.size+1,s1.heap.objs.size],_,_,H1,rfl,j,aJS (n _) (BY (D3 _)),⟨⟨_,g⟩,r _ _ o⟩,λb B=>?_,q⟩
 rcases AW.mp B with z|z
 .subst z
  exact c.fpOk (GI _) (c.hok.fresh (GI _))
 .obtain rfl:b=s1.heap.objs.size:=by simpa using z
  exact c.fpOk (AK _) (c.hok.fresh (AK _))
end L2
namespace Fl
def pP(p:Dz×Nat):Dz:=.tuple [.int (p.2:Int),p.1]
def pQ(x:Dz):R (L9 Dz):=(aH x).bind λxs=>.ok (xs.zipIdx.map pP)
theorem aQO{F B:Hp}{C:Col}{us:L9 V}(hz:xs.length<=16777216)(h1:∀ H1,aC F H1->aC B H1->C H1 us)(f:DatVs K F us xs):Yld K (Itn C) F B (xs.zipIdx.map pP) where
 len:=by rw[bX,AB,C6];exact hz
 go:=λi h H1 b a d hi=>by
  rw[AB,C6]at hi
  have c:aC F H1:=λx o z=>a x o (b x o z)
  exact⟨us,h1 H1 c d,by rw[f.length];exact hi⟩
 yld:=λi h H1 v H2 x b a d y e=>by
  obtain⟨p,u,g,rfl,rfl,k⟩:=y
  have c:aC F H1:=λx o z=>a x o (b x o z)
  obtain⟨dx,e1,r1⟩:=f.get (k us (h1 H1 c d))
  rw[AC,EN,e1]at e
  simp only[DA,HF]at e
  cases e
  have j:=aC.upd (o:=.tup [.int i,u]) (aP a g)
  exact⟨_,Ext.new a g,.tup (SqT.of aL) (.cons (.int _) (.cons ((r1.same b).same j) .nil))⟩
 stop:=λh H1 b a d=>by
  have c:aC F H1:=λx o z=>a x o (b x o z)
  refine⟨us,h1 H1 c d,?_⟩
  rw[AB,C6,f.length]
section
variable{X:Cx}{c:Ct}{E:XK}{tg e:E2}
theorem aQP{f:Sg->R Dz}(i:X.K=c.K)(h:PI X tg e (aOD X.K (b9 (tV (bC c) c E f) eJ))):PI0 X c E tg e (e1 pQ f):=PI.imp h λZ H Q a=>by
 obtain⟨Y,F,ab,k⟩:=a
 refine⟨Y,F,ab,(Rk.bind k).imp λx _ q v d H' s r=>?_⟩
 unfold pQ at q
 cases e1:aH x with
 | bad=>rw[e1]at q;exact q.elim
 | ex e=>exact absurd e1 iK
 | ok xs=>
  rw[e1]at q
  obtain⟨g,us,b,j,l⟩:=vC s.fh r e1
  rw[i]
  exact⟨v,g,rfl,b,Rk.ok q _ d H' s (aQO (lY e1) (λH1 z _=>j H1 z) l)⟩
end
noncomputable def fzM(i:Nat)(Y:Sg):Sg:=match Y[i]? with
 | some (some (.m a0))=>Y.set i (some (.f a0))
 | _=>Y
def aMI(i:Nat)(f:Sg->R Fw):Sg->R Fw:=λY=>f (fzM i Y)
theorem Ab.frzM{c:Ct}{Y:Sg}{Z:L2.St}{F H:Hp}(hw:c.w=c.g.w)(b:Ab c Y Z F H)(i:Nat):∃ F',aC F F'/\Ab c (fzM i Y) Z F' H:=by
 unfold fzM
 split
 .rename_i xs hi
  obtain⟨v,h,p,es,rfl,⟨ep,h2⟩,a,d,e⟩:=b.slot i _ hi
  exact⟨_,aC.upd a,b.publ hi h rfl h2 a d rfl (show AF c.g c.K c.mg _ (.f xs) _ from⟨p,es,rfl,⟨ep,by rw[aL,hw]⟩,e.same (aC.upd a)⟩)⟩
 .exact ⟨F,a7 F,b⟩
section
variable{X:Cx}{c:Ct}{E:XK}{e:E2}{st:Stmt}
theorem aUC(hw:c.w=c.g.w)(i:Nat){f:Sg->R Fw}(h:PSf X c E st f):PSf X c E st (aMI i f):=PS.imp h λD Z H b=>by
 obtain⟨Y,F,ab,k⟩:=b
 obtain⟨j,s,d⟩:=ab.frzM hw i
 refine⟨fzM i Y,j,d,?_⟩
 have a:Rk c E F H (f (fzM i Y)) (iH c F D):=k
 cases q:f (fzM i Y)with
 | bad=>rw[q]at a;exact a
 | ok w=>rw[q]at a;exact iH.same s a
 | ex e=>rw[q]at a;exact a
end
end Fl
namespace Zp
def Raw(h:Hz)(d:Az)(ar:Array DictEntry)(ep:Nat):Prop:=∃ o,h.get? d=some o/\o.ExactDict/\o.data=.dict ar ep
section
variable{prog:P9}{w:W9}{A:U9}{E:V9->S9->Prop}{s:S9}{d it:Az}{ar:Array DictEntry}{ep i:Nat}
theorem aMJ(g:(d == sysModules)=false)(e:Raw s.heap d ar ep)(q:Q (.ref s.heap.objs.size) {s with heap:=s.heap.push {cls:=.type "dict_keyiterator",data:=.fields #[.ref d,.int 0 0,.int ar.size 0,.int ep 0]}}) :
  wpAny (model prog w) A (pyIter (.ref d)) Q E s:=by
 obtain⟨o,c,f,a⟩:=e
 have b:s.TypeIs (.ref d) "dict":=⟨o,c,f.1⟩
 refine wpAny_pyIter_slot b F.slot_dict_iter (CW F.slot_dict_iter b F.entry_dict_iter ?_ (F.args_dict_iter_1 _))
 unfold Builtin.«dict.__iter__»
 refine AA ?_
 unfold Builtin.Dict.dictSlotNone
 refine AA (FN b (AE ?_))
 show wpAny _ _ (Builtin.Dict.showsAll d >>= _) _ _ s
 unfold Builtin.Dict.showsAll
 rw[AL (by rw[g];exact BR)]
 refine AA (AE (AA (E9 c a (AA (HR c a ?_)))))
 refine AA (B4 (AE ⟨_,rfl,"dict_keyiterator",_,⟨_,AV _ rfl,rfl⟩,CO.lookup,?_⟩))
 simpa[rawInt] using q
theorem aMK{Q:O9 V9->S9->Prop}{en:DictEntry}(a:s.heap.IsKeyIter it d i ar.size ep)(h:Raw s.heap d ar ep)(hx:ar[i]? = some en)
  (q:∀ h',h'.IsKeyIter it d (i+1) ar.size ep->Heap.SameBut it s.heap h'->Q (some en.key) {s with heap:=h'}):wpAny (model prog w) A (pyNext (.ref it)) Q E s:=by
 obtain⟨o,g,j,f⟩:=id a
 obtain⟨od,c,k,e⟩:=h
 unfold pyNext
 refine AA (IK (CP (name:=Str.ofString "__next__") a.typeIs CO
  (CW CO a.typeIs GB ?_ (FZ _))))
 refine AA (AE (AA (AA ?_)))
 first|refine AA (DF a.typeIs (AE ?_))|refine AA (D5 a.typeIs (AE ?_))
 refine AA (wpAny_fieldsOf g f ?_)
 simp only[show Builtin.Dict_items.ownsTuple "dict_keyiterator"=false by decide,CG,DI]
 show wpAny _ _ (if (Value.ref d == Value.none)=true then _ else _) _ _ s
 rw[AL (show ¬ ((Value.ref d == Value.none)=true)from BR)]
 refine AA (AE (AA (E9 c e ?_)))
 rw[AL (by simp)]
 refine AA (AE (AA (HR c e ?_)))
 rw[AL (by simp)]
 refine AE ?_
 simp only[show ¬ ((i:Int) < 0)from by ext,DI,DC,hx]
 refine AA ?_
 first|refine AA (DF a.typeIs (AE ?_))|refine AA (D5 a.typeIs (AE ?_))
 refine AA (wpAny_isOneOf_keyiter a.typeIs ?_)
 show wpAny _ _ (setField (.ref it) 1 (rawInt ((i:Int)+1)) >>= _) _ _ s
 refine AA (DZ g f (by simp) ?_)
 have b:(s.heap.update it (Obj.mapFields (·.setIfInBounds 1 (rawInt ((i:Int)+1))))).IsKeyIter it d (i+1) ar.size ep:=
  ⟨_,BK _ g (EI (C0 f _)),(Obj.cls_mapFields ..).trans j,by rw[C0 f];simp[rawInt]⟩
 refine AA (CJ (AA (wpAny_isOneOf_keyiter (s:={s with heap:=s.heap.update it (Obj.mapFields (·.setIfInBounds 1 (rawInt ((i:Int)+1))))}) b.typeIs ?_)))
 show wpAny _ _ (pure en.key) _ _ _
 exact AE (AE ⟨_,rfl,AE (q _ b (BU ..))⟩)
theorem aQQ{Q:O9 V9->S9->Prop}(l:A.handled=none)(c:s.heap.IsKeyIter it d i ar.size ep)(j:Raw s.heap d ar ep)(hx:ar.size<=i)
  (q:∀ h',Heap.ExtBut it s.heap h'->Q none {s with heap:=h'}):wpAny (model prog w) A (pyNext (.ref it)) Q E s:=by
 obtain⟨o,h,n,g⟩:=id c
 obtain⟨od,e,k,f⟩:=j
 unfold pyNext
 refine AA (IK (CP (name:=Str.ofString "__next__") c.typeIs CO
  (CW CO c.typeIs GB ?_ (FZ _))))
 refine AA (AE (AA (AA ?_)))
 first|refine AA (DF c.typeIs (AE ?_))|refine AA (D5 c.typeIs (AE ?_))
 refine AA (wpAny_fieldsOf h g ?_)
 simp only[show Builtin.Dict_items.ownsTuple "dict_keyiterator"=false by decide,CG,DI]
 show wpAny _ _ (if (Value.ref d == Value.none)=true then _ else _) _ _ s
 rw[AL (show ¬ ((Value.ref d == Value.none)=true)from BR)]
 refine AA (AE (AA (E9 e f ?_)))
 rw[AL (by simp)]
 refine AA (AE (AA (HR e f ?_)))
 rw[AL (by simp)]
 refine AE ?_
 simp only[show ¬ ((i:Int) < 0)from by ext,DI,DC,IA hx]
 refine AA ?_
 first|refine AA (DF c.typeIs (AE ?_))|refine AA (D5 c.typeIs (AE ?_))
 show wpAny _ _ (setField (.ref it) 0 .none >>= _) _ _ s
 refine AA (DZ h g (by simp) ?_)
 show wpAny _ _ (newExc (.type "StopIteration") [] >>= _) _ _ _
 refine AA ?_
 simp only[newExc,newTuple]
 refine AA (B4 ?_ (by size_fits))
 refine AA (m:=firstArgMember _ _) (wpAny_of_eq (a:=Value.none) (by first|rfl|(simp only[firstArgMember];rfl)) ?_)
 refine B4 ?_ (by size_fits)
 simp only[raiseNew]
 refine AA (wpAny_handled ?_)
 rw[show A.in1.handled=none from l]
 refine AA (AE (wpAny_throw ?_))
 refine AA (HE (T:="StopIteration") (b:=true) ⟨_,AV _ rfl,rfl⟩ isSubtype_stop ?_)
 exact AE (q _ (((BU ..).extBut.push _).push _))
end
end Zp
variable{a:L9 (Dz×Dz)}{x:Dz}{ep:Nat}
namespace Fl
def Itd(w:W9)(d:Az)(es:L9 Ent)(ep:Nat):It:=
 ⟨λi H=>H d=some (bB w d es ep)/\i < es.length,λi H x H'=>H'=H/\∃ e,es[i]? = some e/\x=e.2.1,λi H=>H d=some (bB w d es ep)/\i=es.length⟩
theorem wV{f:α->β->Prop}:∀ {xs:L9 α} {ys:L9 β} {i:Nat} {x:α},Paired f xs ys->xs[i]? = some x->∃ y,ys[i]? = some y/\f x y
 | _,_,_,_,.nil,h=>by simp at h
 | _,_,0,_,.cons q t,h=>by simp at h;subst h;exact⟨_,rfl,q⟩
 | _,_,i+1,_,.cons q t,h=>by
  obtain⟨y,h1,h2⟩:=wV (i:=i) t (by simpa using h)
  exact⟨y,by simpa using h1,h2⟩
theorem yJ{X:Cx}{Z:L2.St}{H:Hp}{d:Az}{es:L9 Ent}(I:Inv X ap Z H s)(h:H d=some (bB X.w d es ep)):(d == sysModules)=false/\∃ ar,Zp.Raw s.heap d ar ep/\Paired (nJ X.w) es ar.toList:=by
 obtain⟨⟨b,o,ar,h1,h2,c,a⟩,_,_⟩:=(show bS X.prog X.w H s.heap d (bB X.w d es ep)from I.hok d _ h)
 exact⟨b,ar,⟨o,h1,h2,c⟩,a⟩
theorem aML{w:W9}(d it:Az)(es:L9 Ent)(ep:Nat):Turn P w K tg (Itd w d es ep) [it] it (λi h=>h.IsKeyIter it d i es.length ep) where
 mem:=by simp
 obj:=λi h st b a=>by
  obtain rfl:b=it:=by simpa using a
  obtain⟨o,e,c,dd⟩:=st
  exact⟨o,e,λv z=>by rw[dd]at z;cases z⟩
 keep:=λi h h' st k=>st.at λo e=>k it (by simp) o e
 item:=by
  intro X m r u A i ap s Z H E I g st q
  subst m r u
  obtain⟨t,hi⟩:=q
  obtain⟨hd,ar,hr,j⟩:=yJ I t
  have l:es.length=ar.size:=by rw[FH j];simp
  obtain⟨en,h1,h2,B,G⟩:=wV j (AI hi)
  obtain⟨y,f1,f2,x,p,n⟩:=g it (by simp)
  rw[l]at st
  refine Zp.aMK st hr (en:=en) (by simpa using h1) λh' f F=>?_
  have C:Inv X ap Z H {s with heap:=h'}:=I.turned (t':=s.toks) (λb o a e=>(F.2 b a).trans e) y f1 x p n
  obtain⟨o,e,c,dd⟩:=id f
  rw[<-l]at f
  exact⟨_,rfl,v5 (s:={s with heap:=h'}) e c dd (by decide) ⟨es[i].2.1,H,C,B,⟨rfl,_,AI hi,rfl⟩,f,λb a=>(g b a).1⟩⟩
 done:=by
  intro X m r u A i ap s Z H E I g st q
  subst m r u
  obtain⟨t,hi⟩:=q
  obtain⟨hd,ar,hr,j⟩:=yJ I t
  have l:es.length=ar.size:=by rw[FH j];simp
  obtain⟨y,f1,f2,x,p,n⟩:=g it (by simp)
  rw[l]at st
  exact Zp.aQQ (I.ok.hd A) st hr (by ext) λh' D=>⟨rfl,I.turned (t':=s.toks) (λb o a e=>D b o a e) y f1 x p n⟩
 self:=λ_ _ _ _ _ st h=>wpAny_pyIter_keyiter st h
def aYD(X:Cx)(tl:TE):TI:=λZ H R=>tl Z H λx H1=>∃ d es ep,x=.ref d/\H1 d=some (bB X.w d es ep)/\R (Itd X.w d es ep) H1
section
variable{X:Cx}{c:Ct}{E:XK}{tg e:E2}
theorem aQR{l:E2}{tl:TE}(i:PE X l tl):PI X tg l (aYD X tl):=by
 intro ap s Z H R I h
 refine thn (i ap s Z H _ I h) λv s1 f=>?_
 obtain⟨x,H1,a,r1,g⟩:=f
 obtain⟨d,es,ep,rfl,j,q⟩:=g
 cases r1
 obtain⟨k,ar,hr,m⟩:=yJ a j
 have c:ar.size=es.length:=by rw[FH m];simp
 refine Zp.aMJ k hr ?_
 rw[c]
 refine⟨s1.heap.objs.size,[s1.heap.objs.size],_,_,H1,rfl,a.kept (t':=s1.toks) λb o e=>AD _ e,aML d _ es ep,⟨_,AV _ rfl,rfl,rfl⟩,λb n=>?_,q⟩
 obtain rfl:b=s1.heap.objs.size:=by simpa using n
 exact a.fpOk (AK _) (a.hok.fresh (AK _))
theorem aG3{F:Hp}{es:L9 Ent}(m:MapRel K F es a){en:Ent}(h:es[i]? = some en)(hx:(a.map (·.1))[i]? = some x):DatV K F en.2.1 x:=by
 obtain⟨d,h1,h2⟩:=m.k2.get (i:=i) (x:=en.2.1) (by rw[AC,h];rfl)
 rw[hx]at h1
 cases h1
 exact h2
theorem aQS{F B:Hp}{w:W9}{d:Az}{es:L9 Ent}(hz:a.length<=16777216)(c:F d=some (bB w d es ep))(m:MapRel K F es a):Yld K (Itd w d es ep) F B (a.map (·.1)):=by
 have g:es.length=a.length:=by simpa using congrArg length m.k1
 exact {
  len:=by rw[bX,AB];exact hz
  go:=λi b H1 h1 h2 f hi=>⟨h2 _ _ (h1 _ _ c),by rw[AB]at hi;ext⟩
  yld:=λi b H1 v H2 x h1 h2 f y e=>by
   obtain⟨rfl,j,h,rfl⟩:=y
   exact⟨b,Ext.refl h2,(aG3 m h e).same h1⟩
  stop:=λb H1 h1 h2 f=>⟨h2 _ _ (h1 _ _ c),by rw[AB];exact g.symm⟩}
noncomputable def aAU(i:Nat):Sg->R (L9 Dz):=λY=>match Y[i]? with
 | some (some (.f a0))=>if a0.length<=16777216 then .ok (a0.map (·.1))else .bad
 | _=>.bad
theorem aQT(hW:X.w=c.g.w)(h:PE X e (iW i)):PI0 X c E tg e (aAU i):=PI.imp (aQR h) λZ H Q ⟨Y,F,ab,k⟩=>by
 unfold aAU at k
 split at k
 .rename_i f hi
  split at k
  .rename_i b
   obtain⟨v,a,p,es,rfl,⟨ep,h2⟩,d⟩:=ab.slot i _ hi
   refine⟨_,a,p,es,ep,rfl,by rw[hW];exact ab.fh _ _ h2,?_⟩
   rw[hW]
   exact Rk.ok k _ F H (Ext.refl ab.fh) (aQS b h2 d)
  .exact k.elim
 .exact k.elim
end
end Fl
namespace Zp
abbrev vE(h:Hz)(S:Az)(cb:Array V9)(c:Nat):Prop:=h.get? S=some {cls:=.type "list",dict:=none,data:=.seq cb c,slots:=#[]}
theorem aMM{w:W9}{A:U9}{R:Result->S9->Prop}{I S:Az}{n:Nat}{res:V9}(J Jf:Array V9->Hz->Prop)(x:n<=sizeLine)
  (size:∀ cb h,J cb h->cb.size<=n)
  (frame:∀ cb h h',J cb h->h'.objs.size=h.objs.size->(∀ b o,b≠S->h.get? b=some o->h'.get? b=some o)->J cb h')
  (item:∀ cb (s:S9) (c:Nat) (Q:O9 V9->S9->Prop) (E:V9->S9->Prop),cb.size < n->J cb s.heap->vE s.heap S cb c->(∀ v h' tk,J (cb.push v) h'->vE h' S cb c->Q (some v) {s with heap:=h',toks:=tk})->wpAny (model prog w) A.in1 (pyNext (.ref I)) Q E s)
  (done:∀ cb (s:S9) (c:Nat) (Q:O9 V9->S9->Prop) (E:V9->S9->Prop),cb.size=n->J cb s.heap->vE s.heap S cb c->(∀ h' tk,Jf cb h'->vE h' S cb c->Q none {s with heap:=h',toks:=tk})->wpAny (model prog w) A.in1 (pyNext (.ref I)) Q E s) :
  ∀ (k:Nat) (s:S9) (cb:Array V9) (c:Nat),n - cb.size=k->J cb s.heap->vE s.heap S cb c->(∀ h' tk a j,Jf a h'->a.size=n->vE h' S a j->R (.ok (.ret res)) {s with heap:=h',toks:=tk})->
  codeAny (model prog w) A (.builtin "list.extend.loop" ⟨[.ref S,.ref I,res],[]⟩) R s:=by
 intro k
 induction k with
 | zero=>
  intro s cb c p g i l
  have:=size cb _ g
  refine F6 F.entry_extend_loop ?_
  rw[EO ES _]
  show wpAny _ A.in1 (pyNext (.ref I) >>= _) _ _ s
  exact AA (done cb s c _ _ (by ext) g i λh' tk f d=>AE (l h' tk cb c f (by ext) d))
 | succ k ih=>
  intro s cb c p g i l
  refine F6 F.entry_extend_loop ?_
  rw[EO ES _]
  show wpAny _ A.in1 (pyNext (.ref I) >>= _) _ _ s
  refine AA (item cb s c _ _ (by ext) g i λv h' tk f d=>?_)
  show wpAny _ A.in1 (updateSeq S (·.push v) >>= _) _ _ _
  refine AA (F7 d rfl (AE ⟨GX ES _,ih _ (cb.push v) _ (by rw[EW];ext) (frame _ _ _ f (FK ..) λb o t e=>?_) (BK _ d rfl) λh2 m a j r u q=>l h2 m a j r u q⟩) (by ext) (by show(cb.push v).size<=sizeLine+1;rw[EW];ext))
  exact(B7 _ _ (λh:S=b=>t h.symm)).trans e
theorem aG4:typeLookup (.type "zip") "__len__"=pure none:=by rw[HS,FP];kernel_rfl
theorem aD2:typeLookup (.type "zip") "__length_hint__"=pure none:=by rw[HS,FP];kernel_rfl
def Je(P1 P2:Nat->V9->Prop)(s0:Hz)(z TO i1 i2 S:Az)(cb:Array V9)(h:Hz):Prop:=(∀ (j k p q:Nat),j < k->cb[j]? = some (.ref p)->cb[k]? = some (.ref q)->p < q)/\(∀ (j:Nat) v,cb[j]? = some v->∃ p x y,v=.ref p/\S < p/\IsPair h p x y/\P1 j x/\P2 j y)/\∀ c o,c≠z->c≠TO->c≠i1->c≠i2->c≠S->s0.get? c=some o->h.get? c=some o
structure Jz(P1 P2:Nat->V9->Prop)(S1 S2:Nat->Heap->Prop)(s0:Heap)(z TI TO i1 i2 S:Az)(n:Nat)(cb:Array V9)(h:Heap):Prop where
 size:cb.size<=n
 inc:∀ (j k p q:Nat),j < k->cb[j]? = some (.ref p)->cb[k]? = some (.ref q)->p < q
 top:∀ (j p:Nat),cb[j]? = some (.ref p)->p < h.objs.size
 told:∀ (j:Nat) v,cb[j]? = some v->∃ p x y,v=.ref p/\S < p/\IsPair h p x y/\P1 j x/\P2 j y
 s1:S1 cb.size h
 s2:S2 cb.size h
 ti:IsPair h TI (.ref i1) (.ref i2)
 keep:∀ c o,c≠z->c≠TO->c≠i1->c≠i2->c≠S->s0.get? c=some o->h.get? c=some o
 big:S < h.objs.size
 st:ZN h z TI TO
section
variable{prog:P9}{w:W9}{A:U9}{E:V9->S9->Prop}{s:S9}{z TI TO i1 i2:Az}{f1 f2:L9 Az}{n1 n2:Nat}{P1 P2:Nat->V9->Prop}{S1 S2:Nat->Hz->Prop}
theorem aMN{a b:V9}(hh:A.handled=none)(D:Apart z TI TO i1 i2 f1 f2)(D1:Draws prog w A.in1.in1.in1 i1 f1 n1 P1 S1)(D2:Draws prog w A.in1.in1.in1 i2 f2 n2 P2 S2)
  (hz:IsZip s.heap z TI TO .none) (ae:IsPair s.heap TI (.ref i1) (.ref i2)) (ac:IsPair s.heap TO a b) (h1:S1 0 s.heap) (h2:S2 0 s.heap) (af:s.heap.objs.size∉f1) (ai:s.heap.objs.size∉f2) (P:i1 < s.heap.objs.size) (V:i2 < s.heap.objs.size) (hn:n1<=sizeLine)
  (hQ:∀ h' tk cb c,(∀ c o,c≠z->c≠TO->c≠i1->c≠i2->s.heap.get? c=some o->h'.get? c=some o)->vE h' s.heap.objs.size cb c->cb.size=min n1 n2->(∀ (j k p q:Nat),j < k->cb[j]? = some (.ref p)->cb[k]? = some (.ref q)->p < q)->
   (∀ (j:Nat) v,cb[j]? = some v->∃ p x y,v=.ref p/\s.heap.objs.size < p/\IsPair h' p x y/\P1 j x/\P2 j y)->Q (.ref s.heap.objs.size) {s with heap:=h',toks:=tk}) :
  wpAny (model prog w) A (call (.type "list") [.ref z]) Q E s:=by
 have U:=AS hz
 have ad:=AS ae
 have i:=AS ac
 refine callType_codes (Q₁:=λobj K=>obj=.ref s.heap.objs.size/\K={s with heap:=s.heap.push {cls:=.type "list",data:=.seq #[]}}) F.called_list (F.typeCall_list_1 _) F.entry_list_init
  (code_list_new _ ⟨rfl,rfl⟩) λobj K M=>?_
 obtain⟨rfl,rfl⟩:=M
 have hS:(s.heap.push {cls:=.type "list",data:=.seq #[]}).get? s.heap.objs.size=some {cls:=.type "list",data:=.seq #[]}:=AV _ rfl
 refine⟨⟨_,hS,rfl⟩,F.args_list_init_2 _ _,?_⟩
 generalize aa:s.heap.objs.size=S at *
 show wpAny _ _ (do let old <-Builtin.List.listItems (.ref S);Builtin.List.listUpdate (.ref S) (λ_=>#[]);letGo old.toList.reverse;Builtin.List.listExtendWith (.ref S) (.ref z) .none) _ _ _
 refine AA ?_
 unfold Builtin.List.listItems
 refine AA (C3 hS rfl (AE ?_))
 show wpAny _ _ (updateSeq S (λ_=>#[]) >>= λ_=>letGo (#[]:Array V9).toList.reverse >>= λ_=>Builtin.List.listExtendWith (.ref S) (.ref z) .none) _ _ _
 refine AA (F7 hS rfl (AA (wpAny_letGo ?_)))
 have g1:=BK (Obj.mapSeq (λ_=>(#[]:Array V9))) hS rfl
 have g2:∀ c o,c≠S->s.heap.get? c=some o->((s.heap.push {cls:=.type "list",data:=.seq #[]}).update S (Obj.mapSeq (λ_=>(#[]:Array V9)))).get? c=some o:=
  λc o hc e=>(B7 _ _ (BF hc)).trans (AD _ e)
 have g3:((s.heap.push {cls:=.type "list",data:=.seq #[]}).update S (Obj.mapSeq (λ_=>(#[]:Array V9)))).objs.size=S+1:=by rw[FK,BM,aa]
 generalize (s.heap.push {cls:=.type "list",data:=.seq #[]}).update S (Obj.mapSeq (λ_=>(#[]:Array V9)))=X at *
 have G:∀ {p c:Az},S < p->c < S->p≠c:=λh1 h2=>BY (CV h2 h1)
 have Y:z≠S:=A3 U
 have ah:TI≠S:=A3 ad
 have C:TO≠S:=A3 i
 have aj:i1≠S:=A3 P
 have ag:i2≠S:=A3 V
 have Z:IsZip X z TI TO .none:=g2 _ _ Y hz
 have N:(({s with heap:=X}:S9)).TypeIs (.ref z) "zip":=⟨_,Z,rfl⟩
 unfold Builtin.List.listExtendWith
 refine AA (HA N ?_)
 have e1:Builtin.List.listSameRef (.ref S) (.ref z)=false:=by simp[Builtin.List.listSameRef,BF Y]
 simp only[e1,show(Value.type "zip" == Value.type "list")=false by decide,show(Value.type "zip" == Value.type "tuple")=false by decide,Bool.or_false,CG,DI]
 refine AA (wpAny_pyIter_zip (s:={s with heap:=X}) Z (AA (CJ ?_)))
 unfold Builtin.List.listLengthHint
 refine AA (FU N aG4 ?_)
 show wpAny _ _ (specialOf (Value.ref z) (Str.ofString "__length_hint__") >>= _) _ _ _
 refine AA (FU N aD2 (AE ?_))
 rw[AN (by rfl)]
 refine AA (EL (AA ?_))
 show wpAny _ _ (updateSeq S (·.push .none) >>= λ_=>updateSeq S (·.pop)) _ _ _
 refine AA (F7 g1 rfl ?_)
 have g4:=BK (Obj.mapSeq (·.push Value.none)) g1 rfl
 refine F7 g4 rfl ?_
 have g5:=BK (Obj.mapSeq (·.pop)) g4 rfl
 have W:∀ c o,c≠S->s.heap.get? c=some o->((X.update S (Obj.mapSeq (·.push Value.none))).update S (Obj.mapSeq (·.pop))).get? c=some o:=
  λc o hc e=>(B7 _ _ (BF hc)).trans ((B7 _ _ (BF hc)).trans (g2 c o hc e))
 have g7:((X.update S (Obj.mapSeq (·.push Value.none))).update S (Obj.mapSeq (·.pop))).objs.size=S+1:=by rw[FK,FK,g3]
 generalize (X.update S (Obj.mapSeq (·.push Value.none))).update S (Obj.mapSeq (·.pop))=hq at *
 have ao:IsZip hq z TI TO .none:=W _ _ Y hz
 have am:min n1 n2<=sizeLine:=A2 (EU _ _) hn
 refine AE ⟨GX ES _,aMM (A:=A.in1) (I:=z) (S:=S) (n:=min n1 n2) (Jz P1 P2 S1 S2 s.heap z TI TO i1 i2 S (min n1 n2)) (Je P1 P2 s.heap z TO i1 i2 S) am (λcb h J=>J.size) (λcb h h' J B L=>?_) (λcb s' c Q' E' au J hL R=>?_) (λcb s' c Q' E' aq J hL R=>?_) (min n1 n2) _ #[] _ (by simp) ?_ g5 λh' tk cb c J B hL=>?_⟩
 .refine ⟨J.size,J.inc,λj p e=>by rw[B];exact J.top j p e,λj v e=>?_,D1.frame _ _ _ J.s1 λb T o e=>L b o (λq=>af (q▸T)) e,D2.frame _ _ _ J.s2 λb T o e=>L b o (λq=>ai (q▸T)) e,L _ _ ah J.ti,λc o t l m u H e=>L _ _ H (J.keep c o t l m u H e),by rw[B];exact J.big,?_⟩
  .obtain ⟨p,x,y,O,d,a3,a4⟩:=J.told j v e
   exact⟨p,x,y,O,d,L _ _ (BY d) a3,a4⟩
  .obtain ⟨⟨f,g,O,r⟩,a,b,d⟩:=J.st
   exact⟨⟨f,g,L _ _ Y O,r⟩,a,b,L _ _ C d⟩
 .refine sZ (A:=A.in1.in1) D D1 D2 J.st J.ti J.s1 J.s2 (by ext) (λ_=>by ext) (λ_ _ x y h' tk n=>R _ h' tk ⟨by rw[EW];ext,λj k p q ak e1 e2=>?_,λj p e=>?_,λj v e=>?_,by rw[EW];exact n.s1,by rw[EW];exact n.s2,n.kp _ _ D.TIz D.TITO D.TIi1 D.TIi2 J.ti,λc o t l m u H e=>n.kp c o t l m u (J.keep c o t l m u H e),by rw[n.sz];exact GZ J.big,n.zn⟩ (n.kp _ _ (BF Y) (BF C) (BF aj) (BF ag) hL)) λq=>by ext
  .rw[GD]at e1 e2
   split at e2
   .cases e2
    split at e1
    .omega
    .exact J.top j p e1
   .split at e1
    .have:k < cb.size:=by
      rcases FX k cb.size with h|h
      · exact h
      · rw [IA h]at e2; cases e2
     ext
    .exact J.inc j k p q ak e1 e2
  .rw[GD]at e
   split at e
   .cases e;rw[n.sz];exact D3 _
   .rw[n.sz];exact GZ (J.top j p e)
  .rw[GD]at e
   split at e
   .rename_i ej
    cases e
    rw[ej]
    exact⟨_,x,y,rfl,J.big,n.pr,n.p1,n.p2⟩
   .obtain ⟨p,x',y',O,d,a3,a4⟩:=J.told j v e
    exact⟨p,x',y',O,d,n.kp _ _ (G d U) (G d i) (G d P) (G d V) a3,a4⟩
 .refine sZ (A:=A.in1.in1) D D1 D2 J.st J.ti J.s1 J.s2 (by ext) (λ_=>by ext) (λ_ _=>by ext) λ_ h' tk q5=>R h' tk ⟨J.inc,λj v e=>?_,λc o t l m u H e=>q5 c o t l m u (J.keep c o t l m u H e)⟩ (q5 _ _ (BF Y) (BF C) (BF aj) (BF ag) hL)
  obtain⟨p,x',y',O,d,a3,a4⟩:=J.told j v e
  exact⟨p,x',y',O,d,q5 _ _ (G d U) (G d i) (G d P) (G d V) a3,a4⟩
 .refine ⟨B8 _,λj k p q _ e=>by simp at e,λj p e=>by simp at e,λj v e=>by simp at e,D1.frame _ _ _ h1 λb T o e=>W b o (λq=>af (q▸T)) e,D2.frame _ _ _ h2 λb T o e=>W b o (λq=>ai (q▸T)) e,W _ _ ah ae,λc o t l m u H e=>W c o H e,by rw[g7];exact D3 _,⟨_,_,ao,.inl rfl⟩,a,b,W _ _ C ac⟩
 .exact ⟨rfl,hQ h' tk cb c (λc o t l m u e=>J.2.2 c o t l m u (λq=>by subst q;exact absurd (AS e) (by rw[aa];exact BW _)) e) hL B J.1 J.2.1⟩
end
end Zp
variable{b:Nat}
namespace L2
structure LZ(H1 H2:Hp)(xs ys:List V)(l:Az)(ps:List Az):Prop where
 same:∀ b o,H1 b=some o->H2 b=some o
 new:H1 l=none
 lst:H2 l=some (.lst (ps.map .ref))
 len:ps.length=min xs.length ys.length
 tup:∀ (j:Nat) p,ps[j]? = some p->H1 p=none/\∃ u v,xs[j]? = some u/\ys[j]? = some v/\H2 p=some (.tup [u,v])
def tLZ(K:Frag)(ta:TA):TE:=λZ H Q=>ta Z H λvs H1=>∃ x y C1 C2 xs ys,vs=[x,y]/\rC K H1 x C1/\rC K H1 y C2/\C1 H1 xs/\C2 H1 ys/\xs.length<=sizeLine/\∀ l ps H2,LZ H1 H2 xs ys l ps->Q (.ref l) H2
def zH(H:Hp)(S:Az)(ps:L9 Az)(xs ys:L9 V):Hp:=λb=>if b=S then some (.lst (ps.map .ref))else if b∈ps then(match xs[ps.idxOf b]?,ys[ps.idxOf b]? with
 | some u,some v=>some (.tup [u,v])
 | _,_=>none)else H b
theorem aJT{ps:L9 Az}(h:∀ (j k p q:Nat),j < k->ps[j]? = some p->ps[k]? = some q->p < q):ps.Nodup:=CL.mpr λi j hi b a=>A3 (h i j _ _ a (AI hi) (AI b))
theorem aG5{a:Nat}(h:b < a)(k:Nat):b≠a+k:=by ext
theorem aYE{a:Nat}(h:a+k < b):a<=b:=by ext
theorem aYF{a:Nat}(h:b < a)(h2:a+k < b):False:=by ext
def gW:V9->Az
 | .ref a=>a
 | _=>0
theorem aMO{X:Cx}{a b:E2}{ta:TA}{p1 p2 pos m:Pos}(hc:X.calm=true)(ai:Gl X "list")(ae:X.mg "list"=none)(ad:Gl X "zip")(aj:X.mg "zip"=none)(ha:PA X [a,b] ta)
  (hs:starEach [a,b] X.env=[(false,eval a X.env),(false,eval b X.env)]:=by rfl) (hs2:starEach [b] X.env=[(false,eval b X.env)]:=by rfl)
  (hs3:starEach [.Call (.Name "zip" p2) [a,b] [] m] X.env=[(false,eval (.Call (.Name "zip" p2) [a,b] [] m) X.env)]:=by rfl) :
  PE X (.Call (.Name "list" p1) [.Call (.Name "zip" p2) [a,b] [] m] [] pos) (tLZ X.K ta):=by
 intro ap s Z H Q I h
 refine CZ (jU I ai ae FG ?_ (by decide) (by decide))
 refine B3 (e:=.Call (.Name "zip" p2) [a,b] [] m) (rest:=[]) ?_ hs3 rfl
 rw[hs3]
 show wpAny _ _ (spliced [(false,eval (.Call (.Name "zip" p2) [a,b] [] m) X.env)]) _ _ s
 refine Calls.spliced_cons ?_
 refine CZ (jU I ad aj ID (B3 (thn (ha m ap s Z H _ I h) λus s1 ⟨vs,H1,G,r1,q1⟩=>?_) (by rw[hs,hs2]) (by rw[hs2];rfl)))
 obtain⟨x,y,C1,C2,xs,ys,rfl,c1,c2,k1,k2,U,q⟩:=q1
 cases r1 with
 | cons ru rr=>
  cases rr with
  | cons rv rr=>
   cases rr
   rename_i u1 _ u2
   obtain⟨o1,t1,a1,a2,a3,a4⟩:=mR G ru c1
   obtain⟨o2,t2,b1,b2,b3,b4⟩:=mR G rv c2
   refine Zp.aCI (a1 _ λ_ _ e=>e) (b1 _ λ_ _ e=>AD _ e) a2 b2 λh' z1 z2 z3 z4 z5 z6 kp=>?_
   refine Calls.spliced_nil ?_
   have I2:Inv X ap Z H1 {s1 with heap:=h'}:=G.kept (t':=s1.toks) kp
   have f:∀ c,s1.heap.objs.size<=c->gI X ap H1 c:=λc Y=>G.fpOk Y (G.hok.fresh Y)
   have aa:X.A.in1.in1.in1.handled=none:=G.ok.hd hc
   obtain⟨f1,P1,S1,D1,d1,d2,d3,d4⟩:=(a3 s1.heap.objs.size).draw X rfl rfl rfl 0 ap _ Z H1 xs X.A.in1.in1.in1 I2 (f _ (AK _)) (a4 _ _ z4) k1 aa
   obtain⟨f2,P2,S2,D2,e1,e2,e3,e4⟩:=(b3 (s1.heap.objs.size+1)).draw X rfl rfl rfl 0 ap _ Z H1 ys X.A.in1.in1.in1 I2 (f _ (BP _ _)) (b4 _ _ z5) k2 aa
   generalize W:s1.heap.objs.size=l at *
   have J:∀ i j:Nat,i≠j->l+i≠l+j:=λi j ak z=>ak (Nat.add_left_cancel z)
   have r:∀ i:Nat,0 < i->l+i≠l:=λi hi z=>by have:l+i=l+0:=z;have:=Nat.add_left_cancel this;ext
   have D:Zp.Apart (l+4) (l+2) (l+3) l (l+1) f1 f2:=⟨J _ _ (by decide),J _ _ (by decide),(r 4 (by decide)).symm,J _ _ (by decide),J _ _ (by decide),r 2 (by decide),J _ _ (by decide),r 3 (by decide),J _ _ (by decide),(r 1 (by decide)).symm,
    d4 _ (f _ (BP _ _)) (r 4 (by decide)),e4 _ (f _ (BP _ _)) (J 4 1 (by decide)),d4 _ (f _ (BP _ _)) (r 3 (by decide)),e4 _ (f _ (BP _ _)) (J 3 1 (by decide)),e4 _ (f _ (AK _)) (r 1 (by decide)).symm,d4 _ (f _ (BP _ _)) (r 1 (by decide))⟩
   have B:({s1 with heap:=h'}:S9).heap.objs.size=l+5:=z6
   refine Zp.aMN (s:={s1 with heap:=h'}) (G.ok.hd hc) D D1 D2 z1 z2 z3 d1 e1 (by rw[B];exact d4 _ (f _ (BP _ _)) (r 5 (by decide))) (by rw[B];exact e4 _ (f _ (BP _ _)) (J 5 1 (by decide))) (by rw[B];exact HL (by decide)) (by rw[B];exact GC (by decide) _) U λh2 tk d c kk hL hn af E=>?_
   rw[B]at hL E ⊢
   have w:∀ (j:Nat) p,(d.toList.map gW)[j]? = some p->d[j]? = some (.ref p):=λj p e=>by
    rw[AC,DU]at e
    cases q:d[j]? with
    | none=>rw[q]at e;cases e
    | some v=>
     rw[q]at e
     obtain⟨p',_,_,rfl,_⟩:=E j v q
     cases e;rfl
   have nd:(d.toList.map gW).Nodup:=aJT λj k p q ac ep eq=>af j k p q ac (w j p ep) (w k q eq)
   have am:(d.toList.map gW).map (λp=>V.ref p)=(d.toList.map gW).map V.ref:=rfl
   have pt:∀ (j:Nat) p,(d.toList.map gW)[j]? = some p->l+5 < p/\∃ u v x y,xs[j]? = some u/\ys[j]? = some v/\aR u x/\aR v y/\IsPair h2 p x y/\zH H1 (l+5) (d.toList.map gW) xs ys p=some (.tup [u,v]):=λj p e=>by
    obtain⟨p',x',y',e0,C,P,g3,g4⟩:=E j _ (w j p e)
    cases e0
    obtain⟨u,R,O⟩:=d3 j x' g3
    obtain⟨v,T,N⟩:=e3 j y' g4
    refine⟨C,u,v,x',y',R,T,O,N,P,?_⟩
    unfold zH
    rw[AL (BY C),AN (AH e)]
    have S:(d.toList.map gW).idxOf p=j:=by
     obtain⟨hl,he⟩:=AJ.mp e
     rw[<-he];exact nd.idxOf_getElem j hl
    rw[S,R,T]
   have out:∀ b,b < l->zH H1 (l+5) (d.toList.map gW) xs ys b=H1 b:=λb hb=>by
    unfold zH
    rw[AL (aG5 hb 5),AL]
    intro hm
    obtain⟨j,S⟩:=BQ hm
    exact aYF hb (pt j b S).1
   have ag:∀ b o,H1 b=some o->b < l:=λb o e=>by
    rcases FX b l with z|z
    .exact z
    .rw[(f b z).1]at e;cases e
   have L:∀ b o,s1.heap.get? b=some o->h2.get? b=some o:=λb o e=>by
    have F:b < l:=by rw[<-W];exact AS e
    exact kk b o (aG5 F 4) (aG5 F 3) (A3 F) (aG5 F 1) (kp b o e)
   have t:LZ H1 (zH H1 (l+5) (d.toList.map gW) xs ys) xs ys (l+5) (d.toList.map gW):=⟨λb o e=>by rw[out b (ag b o e)];exact e,(f _ (BP _ _)).1,by unfold zH;rw[AN rfl],by rw[AB,CA];exact hn,λj p e=>by
    obtain⟨C,u,v,_,_,R,T,_,_,_,g⟩:=pt j p e
    exact⟨(f p (aYE C)).1,u,v,R,T,g⟩⟩
   refine⟨.ref (l+5),_,G.un (t':=tk) ⟨λb u q _ _ _=>L b u q,λb u q _ _ _=>⟨u.slots,L b u q⟩,λb u q n _=>by rw[out b (by rw[<-W];exact AS q)];exact n,λb u q _=>⟨u,L b u q⟩,λb zs q=>t.same _ _ q,λb o u q=>t.same _ _ q,λb zs q=>t.same _ _ q⟩ λb u e=>?_,rfl,q _ _ _ t⟩
   by_cases hb:b=l+5
   .subst hb
    rw[t.lst]at e
    cases e
    refine⟨by rw[AB,t.len];exact A2 (EU _ _) U,d.toList,c,?_,by simpa using hL⟩
    refine xZ (by rw[AB,AB]) λj x y C P=>?_
    rw[AC]at C
    cases g:(d.toList.map gW)[j]? with
    | none=>rw[g]at C;cases C
    | some p=>
     rw[g]at C
     cases C
     have:=w j p g
     rw[<-Array.getElem?_toList,P]at this
     cases this
     rfl
   .by_cases hm:b∈d.toList.map gW
    .obtain ⟨j,S⟩:=BQ hm
     obtain⟨C,u',v',x',y',R,T,O,N,P,g⟩:=pt j b S
     rw[g]at e
     cases e
     exact⟨by show 2<=sizeLine;decide,[x',y'],.cons O (.cons N .nil),⟨_,P,⟨rfl,rfl⟩,_,rfl⟩⟩
    .have ah:H1 b=some u:=by unfold zH at e;rw[AL hb,AL hm]at e;exact e
     exact(G.hok b u ah).stay (λc' v' _ M=>L c' v' M) (λc' M=>t.same _ _ M) (λc' zs M=>t.same _ _ M) λc' zs M=>t.same _ _ M
end L2
namespace Fl
section
variable{X:Cx}{c:Ct}{E:XK}{e:E2}
theorem z9{a:Hp}:∀ {us vs:L9 V} {xs ys:L9 Dz} {ps:L9 Az},DatVs K a us xs->DatVs K a vs ys->ps.length=min us.length vs.length->(∀ (j:Nat) p,ps[j]? = some p->∃ u v,us[j]? = some u/\vs[j]? = some v/\a p=some (.tup [u,v]))->DatVs K a (ps.map .ref) ((xs.zip ys).map aG1)
 | [],_,_,_,ps,.nil,_,h,_=>by
  have:ps=[]:=D8.mp (by simpa using h)
  subst this
  exact .nil
 | _::_,[],_,_,ps,.cons _ _,.nil,h,_=>by
  have:ps=[]:=D8.mp (by simpa using h)
  subst this
  exact .nil
 | u::us,v::vs,x::xs,y::ys,ps,.cons r1 t1,.cons r2 t2,h,hp=>by
  cases ps with
  | nil=>simp at h
  | cons p ps=>
   obtain⟨b,c,e1,e2,f⟩:=hp 0 p rfl
   simp only[BH,FA]at e1 e2
   subst e1 e2
   exact .cons (.tup (SqT.of f) (.cons r1 (.cons r2 .nil))) (z9 t1 t2 (by simp at h ⊢;ext) λj q e=>by
    obtain⟨b,c,d,g,i⟩:=hp (j+1) q (by simpa using e)
    exact⟨b,c,by simpa using d,by simpa using g,i⟩)
theorem aMP{f g:Sg->R Dz}(I:X.K=c.K)(h:PE X e (tLZ X.K (b9 (tV (aU c) c E f) (b9 (tV (aU c) c E g) eJ)))):PN X c E e (e2 iJ f g):=PE.imp h λZ H Q t=>by
 obtain⟨Y,F,ab,k⟩:=t
 refine⟨Y,F,ab,(Rk.bind k).imp λx _ q v V H1 s1 r1=>⟨Y,V,ab.ext s1,((Rk.bind q).ext s1).imp λy _ q w d H' s r=>?_⟩⟩
 unfold iJ at q
 cases e1:aH x with
 | bad=>rw[e1]at q;exact q.elim
 | ex e=>exact absurd e1 iK
 | ok xs=>
  rw[e1]at q
  cases e2:aH y with
  | bad=>rw[R.bind_ok,e2]at q;exact q.elim
  | ex e=>exact absurd e2 iK
  | ok ys=>
   rw[R.bind_ok,e2]at q
   have m:aM c.K d H' v x:=aM.ext s r1
   obtain⟨U,us,C,N,u⟩:=s9 s.fh m e1
   obtain⟨O,vs,J,G,S⟩:=s9 s.fh r e2
   rw[I]
   refine⟨v,w,U,O,us,vs,rfl,C,J,N H' (a7 _),G H' (a7 _),by rw[u.length,bX];exact lY e1,λl ps H2 L=>?_⟩
   have D:l∉ps:=λa=>by
    obtain⟨j,i⟩:=BQ a
    obtain⟨_,A,B,_,_,z⟩:=L.tup j l i
    rw[L.lst]at z;cases z
   have T:∀ b,d b≠none->b∉ps:=λb M a=>by
    obtain⟨j,i⟩:=BQ a
    exact M (aP s.fh (L.tup j b i).1)
   have ex:Ext d H' (λb=>if b∈ps then H2 b else d b) H2:=⟨L.same,λb o z=>by
     show(if b∈ps then H2 b else d b)=some o
     rw[AL (T b (by rw[z];exact λw=>nomatch w))];exact z,λb o z=>by
     have z:(if b∈ps then H2 b else d b)=some o:=z
     by_cases a:b∈ps
     .rw[AN a]at z;exact z
     .rw[AL a]at z;exact L.same b o (s.fh b o z),λb z n=>by
     have n:(if b∈ps then H2 b else d b)≠none:=n
     by_cases a:b∈ps
     .obtain ⟨j,i⟩:=BQ a
      exact .inl (L.tup j b i).1
     .rw[AL a]at n;exact absurd z n⟩
   refine Rk.ok q _ _ H2 ((s1.trans s).trans ex) ⟨l,ps.map .ref,rfl,aP (s1.trans s).hh L.new,L.lst,?_,z9 (u.same ex.ff) (S.same ex.ff) L.len λj p i=>?_⟩
   .show (if l∈ps then H2 l else d l)=none
    rw[AL D];exact aP s.fh L.new
   .obtain ⟨_,A,B,h1,h2,P⟩:=L.tup j p i
    exact⟨A,B,h1,h2,by show(if p∈ps then H2 p else d p)=_;rw[AN (AH i)];exact P⟩
end
end Fl
namespace HT
end HT
namespace Fl
end Fl
namespace L2
theorem aCL{X:Cx}:jW X (.type "range") (λxs H Q=>∃ a b:Int,xs=[.int a,.int b]/\∀ p,H p=none->Q (.ref p) (upd H p (.rng a b))):=by
 intro ap s Z H xs us Q I r h
 obtain⟨a,b,rfl,q⟩:=h
 obtain⟨u,v,rfl,⟨t,rfl⟩,⟨c,rfl⟩⟩:=aNZ r
 refine call_range_2 ?_
 refine⟨.ref s.heap.objs.size,_,I.laid (o:=.rng a b) (λb d q=>AD _ q) (AK _) ⟨_,_,_,AV _ rfl⟩,rfl,q _ (I.hok.fresh (AK _))⟩
theorem yK{X:Cx}(D:X.calm=true):jW X (.type "list") (λxs H Q=>∃ (p:Az) (a b:Int),xs=[.ref p]/\H p=some (.rng a b)/\0<=a/\a<=b/\b<=1000000/\∀ l,H l=none->Q (.ref l) (upd H l (.lst ((range (b - a).toNat).map λi:Nat=>V.int (a+(i:Int)))))):=by
 intro ap s Z H xs us Q I r h
 obtain⟨p,a,b,rfl,m,G,z,J,q⟩:=h
 obtain⟨u,rfl,C⟩:=kZ r
 cases(show u=Value.ref p from C)
 obtain⟨t,u,v,hr⟩:=(show bS X.prog X.w H s.heap p (.rng a b)from I.hok p _ m)
 refine call_list_range (a:=a) (b:=b) (c:=1) (n:=(b - a).toNat) (I.ok.hd D) hr (small_one (by ext) (by ext) (by ext) (by ext)) (by rw[rangeSize_one];split<;>ext) (by ext) λh' A d c E e it=>?_
 have g:aZ ((range (b - a).toNat).map λi:Nat=>V.int (a+(i:Int))) d.toList:=by
  refine xZ (by rw[AB,BB,CA,it.1]) λi x y h1 h2=>?_
  rw[AC]at h1
  cases f:(range (b - a).toNat)[i]? with
  | none=>rw[f]at h1;cases h1
  | some k=>
   rw[f]at h1
   cases h1
   have j:k=i:=by
    obtain⟨F,B⟩:=AJ.mp f
    rw[<-B];simp
   obtain⟨t',rfl⟩:=it.2 i y (by rw[<-h2,DU])
   refine⟨t',?_⟩
   rw[j,show a+(i:Int) * 1=a+(i:Int)by ext]
 refine⟨.ref s.heap.objs.size,_,I.laid (t':=A) (o:=.lst ((range (b - a).toNat).map λi:Nat=>V.int (a+(i:Int)))) E (AK _) ⟨by simp only[AB,BB];exact A2 (by omega:(b - a).toNat<=1000000) (by decide),d.toList,c,g,by simpa using e⟩,rfl,q _ (I.hok.fresh (AK _))⟩
end L2
namespace Fl
def aCM:Dz->Dz->R (L9 Dz)
 | .int a,.int b=>if 0<=a/\a<=b/\b<=1000000 then .ok ((range (b - a).toNat).map λi:Nat=>.int (a+(i:Int)))else .bad
 | _,_=>.bad
section
variable{X:Cx}{c:Ct}{E:XK}{e:E2}
theorem uC{F:Hp}(a:Int):∀ (xs:L9 Nat),DatVs K F (xs.map λi:Nat=>V.int (a+(i:Int))) (xs.map λi:Nat=>PyData.int (a+(i:Int)))
 | []=>.nil
 | x::xs=>.cons (.int _) (uC a xs)
theorem aJU{f g:Sg->R Dz}(h:PE X e (tCB (λxs H Q=>∃ (p:Az) (a b:Int),xs=[.ref p]/\H p=some (.rng a b)/\0<=a/\a<=b/\b<=1000000/\∀ l,H l=none->Q (.ref l) (upd H l (.lst ((range (b - a).toNat).map λi:Nat=>V.int (a+(i:Int))))))
  (b9 (tCB (λxs H Q=>∃ a b:Int,xs=[.int a,.int b]/\∀ p,H p=none->Q (.ref p) (upd H p (.rng a b))) (b9 (tV (aU c) c E f) (b9 (tV (aU c) c E g) eJ))) eJ))):PN X c E e (e2 aCM f g):=PE.imp h λZ H Q ⟨Y,F,ab,k⟩=>by
 refine⟨Y,F,ab,(Rk.bind k).imp λd u q v w H1 s1 r1=>?_⟩
 refine⟨Y,w,ab.ext s1,((Rk.bind q).ext s1).imp λd2 o j x m H2 s r2=>?_⟩
 clear u o
 unfold aCM at j
 split at j
 .rename_i a b
  split at j
  .rename_i r
   obtain rfl:=aM.int_of r1
   obtain rfl:=aM.int_of r2
   refine⟨a,b,rfl,λp t=>?_⟩
   refine⟨p,a,b,rfl,aL,r.1,r.2.1,r.2.2,λl n=>?_⟩
   have e1:Ext m H2 m (upd H2 p (.rng a b)):=Ext.own s.fh t
   have e2:Ext m _ m (upd (upd H2 p (.rng a b)) l (.lst ((range (b - a).toNat).map λi:Nat=>V.int (a+(i:Int))))):=Ext.own e1.fh n
   exact Rk.ok j _ m _ (((s1.trans s).trans e1).trans e2) ⟨l,_,rfl,aP s1.hh (aP s.hh (aP e1.hh n)),aL,aP e1.fh n,uC a _⟩
  .exact j.elim
 .exact j.elim
end
end Fl
namespace Mc
open Fl
def wW:Sg->R Fw:=(aN (vD (e1 dLen (e2 dIx (e2 dIx (rV 0) (eC (.int 0))) (eC (.int 1))))))
def eE:L9 A->R A:=fnF 1 wW
def wX:Sg->R Fw:=(aN (vD (eL (cA [none,some 1] (e1 aH (rV 0)) (stN 0) dC (e2 dIx (e2 dIx (rV 0) (eC (.int 1))) (rV 1))))))
def iR:L9 A->R A:=fnF 2 wX
def rhT:Sg->R Bool:=(pD (e1 asB (e2 dLt (e1 dLen (rV 5)) (e1 dLen (rV 3)))) (lK (e1 asB (aAT 12 2 (aA (rV 3) (aA (e1 dLen (rV 5)) aB))))))
def rhF:Sg->R Fw:=(aF (sIf (e1 asB (jB true 4 (eV 7))) (aF (pI 4 (eV 7) (e1 dLen (rV 3)))
 (fG 3 (eV 7))) sNx)
 (fG 6 (lW 4 (eV 7))))
def rhB:Sg->R Fw:=(aF (cO 6 (cQ aB))
 (aF (fI (e1 aH (yI 12 1 (aA (e2 dIx (rV 3) (e1 dLen (rV 5))) aB))) (stN 7) rhF)
 (fG 5 (e1 dTup (rV 6)))))
def aAA:Sg->R Fw:=aF (cO 3 (cQ (aA (eV 0) aB))) (aF (aAS 4 (pJ (eV 0) (eC (.int 0)) aB7)) (aF (cO 5 (cQ aB)) (aF (bD rhT rhB) (sFz 5 (sFz 3 (aN (vD (bM (aA (eV 3) (aA (eV 5) aB))))))))) )
def cW:L9 A->R A:=fnF 8 aAA
def rD:Sg->R Fw:=(aN (vD (e1 (g9 "str") (rV 0))))
def gH:L9 A->R A:=fnF 1 rD
def nQ:Sg->R Fw:=(aF (a8 1 (vD (e1 dTup (eL (cA [none] (e1 aH (rV 0)) (stN 0) dC (e2 dIx (rV 0) (eC (.int 0))))))))
 (aN (vD (bM (aA (e2 dIx (rV 1) (eC (.int 0))) (aA (eV 1) aB))))))
def eX:L9 A->R A:=fnF 2 nQ
def oT:Sg->R Bool:=(lK (e1 asB (eA (aG 1 gH (aA (vV 2) aB)))))
def oB:Sg->R Fw:=(aF (sIf (e1 asB (jB false 3 (eV 2))) (aN (vD (eC (.str "ever")))) sNx)
 (aF (pI 3 (eV 2) (eC (.bool true)))
 (aF (a8 4 (vD (e2 dIx (rV 1) (rV 2))))
 (aF (sIf (e1 asB (e2 dEq (e2 dIx (rV 4) (eC (.int 1))) (eC (.int 1)))) (aN (vD (e2 dIx (rV 4) (eC (.int 0))))) sNx)
 (a8 2 (vD (e2 dIx (rV 0) (e2 dIx (rV 4) (eC (.int 0))))))))))
def aAB:Sg->R Fw:=aF (nL 3) (aF (bD oT oB) (aN (vV 2)))
def jO:L9 A->R A:=fnF 5 aAB
def aCN:Sg->R Fw:=(aF (a8 2 (aG 3 jO (aA (vD (e2 dIx (rV 0) (eC (.int 1)))) (aA (vV 1) (aA (vD (e2 dIx (rV 0) (eC (.int 0)))) aB)))))
 (aF (a8 3 (vD (e1 dTup (eL (cA [none,some 0,some 1] (eH (e1 dLen (rV 1))) (stN 0) dC (eA (aG 3 jO (aA (vD (e2 dIx (rV 1) (eC (.int 1)))) (aA (vV 2) (aA (vV 0) aB))))))))))
 (aN (vD (bM (aA (eV 2) (aA (eV 3) aB)))))))
def fJ:L9 A->R A:=fnF 4 aCN
def wT:Sg->R Bool:=(lK (e1 asB (eA (aG 1 gH (aA (vV 2) aB)))))
def wB:Sg->R Fw:=(aF (sIf (e1 asB (jB false 3 (eV 2))) (aN (vD (eC (.str "ever")))) sNx)
 (aF (pI 3 (eV 2) (eC (.bool true)))
 (aF (a8 4 (vD (e2 dIx (e2 dIx (rV 0) (rV 2)) (eC (.int 2)))))
 (a8 2 (vD (eIf (e1 asB (eA (aG 1 gH (aA (vV 4) aB)))) (eV 4) (e2 dIx (e2 dIx (rV 1) (eC (.int 1))) (rV 4))))))))
def qC:Sg->R Fw:=aF (a8 2 (vD (e2 dIx (rV 1) (eC (.int 0))))) (aF (nL 3) (aF (bD wT wB) (aN (vV 2))))
def dB:L9 A->R A:=fnF 5 qC
def gM:Sg->R Fw:=(aN (vD (eL (cA [none,some 0] (e1 aH (rV 1)) (stN 0) dC (eA (aG 2 fJ (aA (vV 1) (aA (vV 0) aB))))))))
def iB:Sg->R Fw:=(aN (vD (e2 dGt (e1 dLen (rV 0)) (eC (.int 200)))))
def uD:Sg->R Fw:=(aF (fI (e1 aH (eV 2)) (stN 3) (a8 1 (vD (e2 dIx (e2 dIx (e2 dIx (rV 0) (eC (.int 0))) (rV 1)) (e2 oK (eC (.str "abc")) (rV 3))))))
 (aN (vV 1)))
def gZ:L9 A->R A:=fnF 4 uD
def wY:Sg->R Fw:=(aN (vD (e1 dLen (e2 dIx (e2 dIx (rV 0) (eC (.int 0))) (eC (.int 0))))))
def eY:L9 A->R A:=fnF 1 wY
def aE2:Sg->R Fw:=(aN (vD (eC (.bool false))))
def jP:L9 A->R A:=fnF 2 aE2
def stF:Sg->R Fw:=(pO 2 (eV 6) (bM (aA (eV 3) (aA (eV 5) aB))))
def stO:Sg->R Fw:=(fI (e2 iJ (eC (.str "abc")) (eV 4)) (stT [(stN 5),(stN 6)]) stF)
def stQ:Sg->R Bool:=(e1 asB (e2 dNe (rV 1) (eC (.int 0))))
def stW:Sg->R Fw:=(aF (fG 7 (e2 dIx (lW 2 (eV 1)) (eC (.int 1))))
 (a8 1 (vD (e2 dIx (lW 2 (eV 1)) (eC (.int 0))))))
def wZ:Sg->R Fw:=(aF (nL 2) (aF (fI (e1 pQ (eV 0)) (stT [(stN 3),(stN 4)]) stO) (aF (cO 7 (cQ aB)) (aF (bD stQ stW) (aF (aG2 7) (aN (vD (e2 sR (eC (.str "")) (rV 7)))))))))
def j4:L9 A->R A:=fnF 8 wZ
def dH:Sg->R Fw:=(aN (vD (yI 11 2 (aA (e2 dIx (rV 0) (rV 1)) aB))))
def lZ:Sg->R Fw:=(aF (a8 3 (iI [2] 3 cW (aA (vV 0) (aA (vV 1) (aA (pN [2] 12 2 (cB 3 dH)) aB)))))
 (aF (a8 4 (vD (e2 dIx (rV 3) (eC (.int 0)))))
 (aF (a8 5 (vD (e2 dIx (rV 3) (eC (.int 1)))))
 (aN (vD (bM (aA (eV 4) (aA (eIf (e1 asB (e2 dEq (e1 dLen (rV 5)) (e1 dLen (rV 4)))) (eC .none) (eA (aG 2 j4 (aA (vV 5) (aA (vD (e1 dLen (rV 5))) aB))))) aB))))))))
def dQ:L9 A->R A:=fnF 6 lZ
def rE:Sg->R Fw:=(aN (vD (eL (e2 iJ (e2 dIx (e2 dIx (rV 0) (eC (.int 0))) (e2 dIx (rV 2) (eC (.int 0)))) (e2 dIx (e2 dIx (rV 1) (eC (.int 0))) (e2 dIx (rV 2) (eC (.int 1))))))))
def eM:L9 A->R A:=fnF 3 rE
def uE:Sg->R Fw:=(aN (vD (e2 dEq (e2 dIx (e2 dIx (rV 0) (eC (.int 1))) (e2 dIx (rV 2) (eC (.int 0)))) (e2 dIx (e2 dIx (rV 1) (eC (.int 1))) (e2 dIx (rV 2) (eC (.int 1)))))))
def fK:L9 A->R A:=fnF 3 uE
def dU:Sg->R Fw:=(aN (aG 3 eM (aA (vV 1) (aA (vV 2) (aA (vV 0) aB)))))
def dI:Sg->R Fw:=(aN (vD (aGP (eA (aG 3 fK (aA (vV 1) (aA (vV 2) (aA (vV 0) aB))))))))
def vF:Sg->R Fw:=(aF (nN 3 "parted.<locals>.after")
 (aF (nN 4 "parted.<locals>.unlike")
 (aN (iI [0,1] 3 dQ (aA (vV 2) (aA (lX "parted.<locals>.after" [0,1] 2 1 (cB 3 dU) 3) (aA (lX "parted.<locals>.unlike" [0,1] 2 1 (cB 3 dI) 4) aB)))))))
def kM:L9 A->R A:=fnF 5 vF
def aCO:Sg->R Fw:=(aF (nL 1)
 (aF (fI (e1 pQ (eV 0)) (stT [(stN 2),(stN 3)]) (pO 1 (eV 3) (eV 2)))
 (aN (vD (eL (cA [none,some 1] (e1 aH (rV 0)) (stN 0) dC (lW 1 (eV 0))))))))
def jC:L9 A->R A:=fnF 4 aCO
def kN:Sg->R Fw:=(aN (vD (e1 dTup (eL (cA [none,some 0] (e1 aH (rV 1)) (stN 0) dC (e2 dIx (rV 1) (rV 0)))))))
def cE:L9 A->R A:=fnF 2 kN
def aE3:Sg->R Fw:=(aN (aG 1 jC (aA (vD (eL (cA [none,none,some 1] (e2 iJ (rV 1) (rV 0)) (stT [(stN 0),(stN 1)]) dC (bM (aA (eV 0) (aA (eA (aG 2 cE (aA (vV 2) (aA (vV 1) aB)))) aB)))))) aB)))
def oN:L9 A->R A:=fnF 2 aE3
def arT:Sg->R Bool:=(e1 asB (e2 dNe (rV 2) (rV 1)))
def arB:Sg->R Fw:=(aF (a8 1 (vV 2)) (a8 2 (aG 2 oN (aA (vD (e2 dIx (rV 0) (eC (.int 0)))) (aA (vV 1) aB)))))
def qD:Sg->R Fw:=(aF (a8 1 (aG 1 jC (aA (vD (e2 dIx (rV 0) (eC (.int 1)))) aB)))
 (aF (a8 2 (aG 2 oN (aA (vD (e2 dIx (rV 0) (eC (.int 0)))) (aA (vV 1) aB)))) (aF (bD arT arB) (aN (vV 1)))))
def dY:L9 A->R A:=fnF 3 qD
def dJ:Sg->R Fw:=(aN (aG 2 cE (aA (vV 1) (aA (vD (e2 dIx (e2 dIx (rV 2) (eC (.int 0))) (rV 0))) aB))))
def yL:Sg->R Fw:=(aF (a8 1 (aG 1 dY (aA (vV 0) aB)))
 (aF (nN 2 "least.<locals>.after")
 (aF (a8 3 (iI [1,0] 3 cW (aA (vD (e2 dIx (rV 1) (eC (.int 0)))) (aA (lX "least.<locals>.after" [1,0] 2 1 (cB 3 dJ) 2) (aA (aGW 1 2 jP) aB)))))
 (aN (vD (bM (aA (e1 dTup (e2 dIx (rV 3) (eC (.int 1)))) (aA (e1 dTup (eL (cA [none,some 0] (e1 aH (e2 dIx (rV 3) (eC (.int 0)))) (stN 0) dC (e2 dIx (e2 dIx (rV 1) (eC (.int 1))) (rV 0))))) aB))))))))
def oO:L9 A->R A:=fnF 4 yL
def uF:Sg->R Fw:=(aN (vD (aGO (eCh dLe dLt (eC (.int 0)) (e2 dIx (rV 2) (eC (.int 0))) (e1 dLen (e2 dIx (rV 0) (eC (.int 0))))) (eCh dLe dLt (eC (.int 0)) (e2 dIx (rV 2) (eC (.int 1))) (e1 dLen (e2 dIx (rV 1) (eC (.int 0))))))))
def k9:L9 A->R A:=fnF 3 uF
def qE:Sg->R Fw:=(aN (vD (bM (aA (e2 (sS [(.str "by",.str "out"),(.str "out",.str "by")]) (e2 dIx (rV 0) (eC (.int 0))) (e2 dIx (rV 0) (eC (.int 0)))) (aA (e2 dIx (rV 0) (eC (.int 1))) (aA (e2 (sS [(.str "by",.str "out"),(.str "out",.str "by")]) (e2 dIx (rV 0) (eC (.int 2))) (e2 dIx (rV 0) (eC (.int 2)))) aB))))))
def gX:L9 A->R A:=fnF 1 qE
def aAC:Sg->R Fw:=(aN (vD (e1 dTup (eL (cA [none] (e1 aH (rV 0)) (stN 0) dC (eA (aG 1 gX (aA (vV 0) aB))))))))
def nR:L9 A->R A:=fnF 1 aAC
end Mc
namespace Mc
theorem l9{rs:L9 Rw}{r:Rw}(M:Mach rs sg)(hr:r∈rs)(b:k < sg):r.c[k]? = some (r.c.getD k (0,0))/\mH rs.length (r.c.getD k (0,0)):=by
 have h:=M.row r hr
 have a:k < r.c.length:=by rw[h.2];exact b
 have e:r.c[k]? = some (r.c.getD k (0,0)):=by rw[AG,AI a];rfl
 exact⟨e,h.1.2.2 _ (AH e)⟩
end Mc
variable{i:Int}
namespace Fl
variable{lo hi:O9 Int}{Y:Sg}
@[simp] theorem l5(d:Dz)(Y:Sg):eC d Y=.ok d:=id rfl
@[simp] theorem w4(g:α->R β)(f:Sg->R α)(Y:Sg):e1 g f Y=(f Y).bind g:=id rfl
@[simp] theorem tD{γ:Type}(g:α->β->R γ)(f:Sg->R α)(a:Sg->R β)(Y:Sg):e2 g f a Y=(f Y).bind λx=>(a Y).bind λy=>g x y:=id rfl
@[simp] theorem w5(i:Nat)(Y:Sg):eV i Y=match Y[i]? with|some (some (.d x))=>.ok x|_=>.bad:=id rfl
@[simp] theorem tE(i:Nat)(Y:Sg):rV i Y=match Y[i]? with|some (some (.d x))=>.ok x|some (some (.l xs))=>.ok (.list xs)|_=>.bad:=id rfl
@[simp] theorem aOE(i:Nat)(Y:Sg):vV i Y=match Y[i]? with|some (some (.d x))=>.ok (.d x)|some (some (.x e))=>.ok (.x e)|some (some (.g k n f))=>.ok (.g k n f)|some (some (.f a0))=>.ok (.f a0)|_=>.bad:=id rfl
@[simp] theorem aG6(f:Sg->R Dz)(Y:Sg):vD f Y=(f Y).bind λx=>.ok (.d x):=id rfl
@[simp] theorem aZG(x:Dz):getD (.d x)=.ok x:=id rfl
@[simp] theorem aZ3(f:Sg->R A)(Y:Sg):eA f Y=(f Y).bind getD:=id rfl
@[simp] theorem aZ4(f:Sg->R (L9 Dz))(Y:Sg):eL f Y=(f Y).bind λxs=>.ok (.list xs):=id rfl
@[simp] theorem tF(Y:Sg):(aB (α:=α)) Y=.ok []:=id rfl
@[simp] theorem vG(f:Sg->R α)(g:Sg->R (L9 α))(Y:Sg):aA f g Y=(f Y).bind λx=>(g Y).bind λxs=>.ok (x::xs):=id rfl
@[simp] theorem aE4(f:Sg->R (L9 Dz))(Y:Sg):bM f Y=(f Y).bind λxs=>if xs.length<=16777216 then .ok (.tuple xs)else .bad:=id rfl
@[simp] theorem aE5(f:Sg->R (L9 Dz))(Y:Sg):cQ f Y=(f Y).bind λxs=>if xs.length<=16777216 then .ok xs else .bad:=id rfl
@[simp] theorem aYG(n:Nat)(G:L9 A->R A)(f:Sg->R (L9 A))(Y:Sg):aG n G f Y=(f Y).bind λas=>if as.length=n then G as else .bad:=id rfl
@[simp] theorem mS(n:Nat)(fb:Sg->R Fw)(b:L9 A):fnF n fb b=(fb (b.map some++replicate (n - b.length) none)).bind λw=>match w with | .rt (.l _)=>.bad | .rt a=>.ok a | .nx _=>.ok (.d .none)|_=>.bad:=id rfl
@[simp] theorem aJV(Y:Sg):sNx Y=.ok (.nx Y):=id rfl
@[simp] theorem cF(f g:Sg->R Fw)(Y:Sg):aF f g Y=(f Y).bind λw=>match w with | .nx Y'=>g Y'|w=>.ok w:=id rfl
@[simp] theorem aE6(f:Sg->R A)(Y:Sg):aN f Y=(f Y).bind λa=>.ok (.rt a):=id rfl
@[simp] theorem aCP(t:Sg->R Bool)(f g:Sg->R Fw)(Y:Sg):sIf t f g Y=(t Y).bind λb=>if b=true then f Y else g Y:=id rfl
@[simp] theorem aZH(t:Sg->R Bool)(f g:Sg->R α)(Y:Sg):eIf t f g Y=(t Y).bind λb=>if b=true then f Y else g Y:=id rfl
@[simp] theorem yM(i:Nat)(f:Sg->R A)(Y:Sg):a8 i f Y=(f Y).bind λa=>.ok (.nx (Y.set i (some a))):=id rfl
@[simp] theorem aCQ(i:Nat)(f:Sg->R (L9 Dz))(Y:Sg):cO i f Y=(f Y).bind λxs=>.ok (.nx (Y.set i (some (.l xs)))):=id rfl
@[simp] theorem aYH(f:Sg->R A)(Y:Sg):aGQ f Y=(f Y).bind λ_=>.ok (.nx Y):=id rfl
@[simp] theorem aZI(i:Nat)(f:Sg->R Fw)(Y:Sg):sFz i f Y=f (fz i Y):=id rfl
@[simp] theorem aZ5(i:Nat)(Y:Sg):fz i Y=match Y[i]? with|some (some (.l xs))=>Y.set i (some (.d (.list xs)))|_=>Y:=id rfl
@[simp] theorem aY1(i:Nat)(f:Sg->R Dz)(Y:Sg):fG i f Y=match Y[i]? with|some (some (.l xs))=>(f Y).bind λx=>if xs.length < 16777216 then .ok (.nx (Y.set i (some (.l (xs++[x])))))else .bad|_=>.bad:=id rfl
@[simp] theorem aY2(fs:Dz->Sg->O9 Sg)(f:Sg->R Dz)(Y:Sg):rA fs f Y=(f Y).bind λx=>(yF (fs x Y)).bind λY'=>.ok (.nx Y'):=id rfl
@[simp] theorem tG(fi:Sg->R (L9 Dz))(fs:Dz->Sg->O9 Sg)(fb:Sg->R Fw)(Y:Sg):fI fi fs fb Y=(fi Y).bind λxs=>fH fs fb xs Y:=id rfl
@[simp] theorem aMQ(js:L9 (O9 Nat))(fi:Sg->R (L9 Dz))(fs:Dz->Sg->O9 Sg)(ft:Sg->R Bool)(fe:Sg->R Dz)(Y:Sg):cA js fi fs ft fe Y=(fi Y).bind λxs=>compL fs ft fe (cX js Y) xs:=id rfl
@[simp] theorem aUD(i:Nat)(x:Dz)(Y:Sg):stN i x Y=some (Y.set i (some (.d x))):=id rfl
@[simp] theorem aZJ(fs:L9 (Dz->Sg->O9 Sg))(xs:L9 Dz)(Y:Sg):stT fs (.tuple xs) Y=stL fs xs Y:=id rfl
@[simp] theorem aY3(Y:Sg):stL [] [] Y=some Y:=id rfl
@[simp] theorem aYI(f:Dz->Sg->O9 Sg)(fs:L9 (Dz->Sg->O9 Sg))(x:Dz)(xs:L9 Dz)(Y:Sg):stL (f::fs) (x::xs) Y=(f x Y).bind (stL fs xs):=id rfl
@[simp] theorem aE7(Y:Sg):dC Y=.ok true:=id rfl
@[simp] theorem aCR(b:Bool):asB (.bool b)=.ok b:=id rfl
@[simp] theorem aY4(f:Sg->R Bool)(Y:Sg):lK f Y=(f Y).bind λb=>.ok (!b):=id rfl
@[simp] theorem yN(f g:Sg->R Bool)(Y:Sg):pD f g Y=(f Y).bind λb=>if b=true then g Y else .ok false:=id rfl
@[simp] theorem aZK(f g:Sg->R Bool)(Y:Sg):bOr f g Y=(f Y).bind λb=>if b=true then .ok true else g Y:=id rfl
@[simp] theorem aY5(f:Sg->R Dz)(Y:Sg):aGP f Y=(f Y).bind λx=>(asB x).bind λb=>.ok (.bool (!b)):=id rfl
@[simp] theorem aY6(f g:Sg->R Dz)(Y:Sg):aGO f g Y=(f Y).bind λx=>(asB x).bind λb=>if b=true then g Y else .ok (.bool false):=id rfl
@[simp] theorem aZL(g g':Dz->Dz->R Dz)(b fb a:Sg->R Dz)(Y:Sg):eCh g g' b fb a Y=(b Y).bind λx=>(fb Y).bind λy=>(g x y).bind λz=>(asB z).bind λk=>if k=true then(a Y).bind λw=>g' y w else .ok (.bool false):=id rfl
@[simp] theorem aUE(g:Dz->O9 Int->O9 Int->R α)(f:Sg->R Dz)(lo hi:Sg->R (O9 Int))(Y:Sg):eSl g f lo hi Y=(f Y).bind λx=>(lo Y).bind λl=>(hi Y).bind λh=>g x l h:=id rfl
@[simp] theorem aUF(Y:Sg):oNo Y=.ok none:=id rfl
@[simp] theorem aUG(f:Sg->R Dz)(Y:Sg):oSo f Y=(f Y).bind λx=>match x with | .int i=>.ok (some i)|_=>.bad:=id rfl
@[simp] theorem w6(f:Sg->R Dz)(Y:Sg):eH f Y=(f Y).bind λx=>match x with | .int j=>j3 0 j|_=>.bad:=id rfl
@[simp] theorem aCS(i:Nat)(Y:Sg):nL i Y=.ok (.nx (Y.set i (some (.m [])))):=id rfl
@[simp] theorem aE8(a:Bool)(i:Nat)(f:Sg->R Dz)(Y:Sg):jB a i f Y=(f Y).bind λk=>match Y[i]? with|some (some (.m a0))=>if bH k (a0.map (·.1))=true then .ok (.bool (if a=true then !bJ a0 k else bJ a0 k))else .bad|some (some (.f a0))=>if bH k (a0.map (·.1))=true then .ok (.bool (if a=true then !bJ a0 k else bJ a0 k))else .bad|_=>.bad:=id rfl
@[simp] theorem aYJ(i:Nat)(f:Sg->R Dz)(Y:Sg):lW i f Y=match Y[i]? with|some (some (.m a0))=>(f Y).bind λk=>if bH k (a0.map (·.1))=true then(match cM a0 k with|some v=>.ok v|none=>.bad)else .bad|some (some (.f a0))=>(f Y).bind λk=>if bH k (a0.map (·.1))=true then(match cM a0 k with|some v=>.ok v|none=>.bad)else .bad|_=>.bad:=id rfl
@[simp] theorem aYK(i:Nat)(f g:Sg->R Dz)(Y:Sg):pI i f g Y=(g Y).bind λv=>match Y[i]? with|some (some (.m a0))=>(f Y).bind λk=>if bH k (a0.map (·.1))=true/\a0.length<=16777216 then .ok (.nx (Y.set i (some (.m (putM a0 k v)))))else .bad|_=>.bad:=id rfl
@[simp] theorem aJW(i j:Int):bV (.int i) (.int j)=.ok (.int (i+j)):=id rfl
@[simp] theorem aZM(i j:Int):dSub (.int i) (.int j)=.ok (.int (i - j)):=id rfl
@[simp] theorem aZN(i:Int):dNeg (.int i)=.ok (.int (-i)):=id rfl
@[simp] theorem aG7(i j:Int):dLt (.int i) (.int j)=.ok (.bool (decide (i < j))):=id rfl
@[simp] theorem aZ6(i j:Int):dLe (.int i) (.int j)=.ok (.bool (decide (i<=j))):=id rfl
@[simp] theorem aZ7(i j:Int):dGt (.int i) (.int j)=.ok (.bool (decide (j < i))):=id rfl
@[simp] theorem aZ8(i j:Int):dGe (.int i) (.int j)=.ok (.bool (decide (j<=i))):=id rfl
theorem b8{j:Int}(h:0 < j):dMod (.int i) (.int j)=.ok (.int (i % j)):=AN h
theorem f8{j:Int}(h:0 < j)(h2:j < 18446744073709551616):dDiv (.int i) (.int j)=.ok (.int (i / j)):=AN ⟨h,h2⟩
theorem rF{j:Int}(h : -18446744073709551616 < j)(h2:j < 18446744073709551616):dMul (.int i) (.int j)=.ok (.int (i * j)):=AN (.inr ⟨h,h2⟩)
theorem w8{j:Int}(h : -18446744073709551616 < i)(h2:i < 18446744073709551616):dMul (.int i) (.int j)=.ok (.int (i * j)):=AN (.inl ⟨h,h2⟩)
@[simp] theorem i3(xs:L9 Dz):dLen (.list xs)=.ok (.int xs.length):=id rfl
@[simp] theorem oP(xs:L9 Dz):dLen (.tuple xs)=.ok (.int xs.length):=id rfl
theorem aUH(h:z.length<=16777216):dLen (.str z)=.ok (.int z.length):=AN h
@[simp] theorem aZO(xs:L9 Dz):dTup (.list xs)=.ok (.tuple xs):=id rfl
@[simp] theorem aZP(xs:L9 Dz):dTup (.tuple xs)=.ok (.tuple xs):=id rfl
@[simp] theorem aZQ(xs:L9 Dz):dLst (.list xs)=.ok xs:=id rfl
@[simp] theorem aZR(xs:L9 Dz):dLst (.tuple xs)=.ok xs:=id rfl
@[simp] theorem aZS(i:Int):dInt (.int i)=.ok (.int i):=id rfl
@[simp] theorem aZT(b:Bool):dInt (.bool b)=.ok (.int (if b=true then 1 else 0)):=id rfl
@[simp] theorem aZ9(x:Dz):dIs x .none=.ok (.bool (iA x)):=id rfl
@[simp] theorem aY7(x:Dz):dIsnt x .none=.ok (.bool (!iA x)):=id rfl
@[simp] theorem aY8:iA .none=true:=id rfl
@[simp] theorem aY9(xs:L9 Dz):iA (.tuple xs)=false:=id rfl
@[simp] theorem aZA(i:Int):iA (.int i)=false:=id rfl
@[simp] theorem aZB(i:Str):iA (.str i)=false:=id rfl
theorem oQ{xs:L9 α}{v:α}(h0:0<=i)(h:xs[i.toNat]? = some v):atI xs i=some v:=by
 obtain⟨j,rfl⟩:∃ j:Nat,i=j:=⟨i.toNat,by ext⟩
 exact c8 (j:=j) h
theorem aCT(x:α)(t:L9 α):atI (x::t) 0=some x:=c8 (j:=0) rfl
theorem aE9(x y:α)(t:L9 α):atI (x::y::t) 1=some y:=c8 (j:=1) rfl
theorem aQU(x y z:α)(t:L9 α):atI (x::y::z::t) 2=some z:=c8 (j:=2) rfl
theorem j5{v:Dz}(h:atI xs i=some v):dIx (.tuple xs) (.int i)=.ok v:=by show(match atI xs i with|some v=>R.ok v|none=>.bad)=_;rw[h]
theorem j6{v:Dz}(h:atI xs i=some v):dIx (.list xs) (.int i)=.ok v:=by show(match atI xs i with|some v=>R.ok v|none=>.bad)=_;rw[h]
theorem aOF{u:Nat}(hz:z.length<=16777216)(h:atI z.cps.toList i=some u):dIx (.str z) (.int i)=.ok (.str ⟨#[u]⟩):=by
 show(if z.length<=sizeLine then match atI z.cps.toList i with|some u=>R.ok (PyData.str ⟨#[u]⟩)|none=>.bad else .bad)=_
 rw[bX,AN hz,h]
@[simp] theorem rG(x:Dz)(t:L9 Dz):dIx (.tuple (x::t)) (.int 0)=.ok x:=j5 (aCT x t)
@[simp] theorem aJX(x y:Dz)(t:L9 Dz):dIx (.tuple (x::y::t)) (.int 1)=.ok y:=j5 (aE9 x y t)
@[simp] theorem aZU(x y z:Dz)(t:L9 Dz):dIx (.tuple (x::y::z::t)) (.int 2)=.ok z:=j5 (aQU x y z t)
@[simp] theorem aCU(x:Dz)(t:L9 Dz):dIx (.list (x::t)) (.int 0)=.ok x:=j6 (aCT x t)
@[simp] theorem aJY(x y:Dz)(t:L9 Dz):dIx (.list (x::y::t)) (.int 1)=.ok y:=j6 (aE9 x y t)
theorem cR(h:xs.length<=16777216):aH (.tuple xs)=.ok xs:=AN h
theorem cS{xs:L9 Dz}(h:xs.length<=16777216):aH (.list xs)=.ok xs:=AN h
theorem aMR{z:Str}(h:z.cps.toList.length<=16777216):aH (.str z)=.ok (z.cps.toList.map λu=>.str ⟨#[u]⟩):=AN h
theorem rH(hx:shaped x=true)(a:shaped y=true):dEq x y=.ok (.bool (PyData.eqv x y)):=AN ⟨hx,a⟩
theorem rJ(hx:shaped x=true)(a:shaped y=true):dNe x y=.ok (.bool (!PyData.eqv x y)):=AN ⟨hx,a⟩
@[simp] theorem aZV(T:String)(i:Int):g9 T (.int i)=.ok (.bool (jA "int" T)):=id rfl
@[simp] theorem aZW(T:String)(i:Str):g9 T (.str i)=.ok (.bool (jA "str" T)):=id rfl
@[simp] theorem aZX(T:String)(i:L9 Dz):g9 T (.tuple i)=.ok (.bool (jA "tuple" T)):=id rfl
@[simp] theorem aZY(T:String)(i:L9 Dz):g9 T (.list i)=.ok (.bool (jA "list" T)):=id rfl
@[simp] theorem aZZ(T:String)(i:Bool):g9 T (.bool i)=.ok (.bool (jA "bool" T)):=id rfl
@[simp] theorem aZ0(T:String):g9 T .none=.ok (.bool (jA "NoneType" T)):=id rfl
theorem aWQ(h:¬ (HT.sIx xs.length 0 lo=0/\HT.sIx xs.length xs.length hi=xs.length)):dSl (.tuple xs) lo hi=.ok (.tuple (kI xs lo hi)):=by
 unfold dSl;exact AN h
theorem aWR(xs:L9 Dz)(lo hi:O9 Int):dSl (.list xs) lo hi=.ok (.list (kI xs lo hi)):=id rfl
theorem aWS(h:z.length<=16777216):dSl (.str z) lo hi=.ok (.str (Txt.slice z lo hi)):=by
 unfold dSl;exact AN h
theorem aUI{ys:L9 Dz}(h:xs.isEmpty=false)(h2:xs.length+ys.length<=16777216):bV (.tuple xs) (.tuple ys)=.ok (.tuple (xs++ys)):=by
 unfold bV;exact AN ⟨h,by rw[bX];exact h2⟩
theorem aUJ{x y:Str}(h:x.length+y.length<=16777216):bV (.str x) (.str y)=.ok (.str (x++y)):=by
 unfold bV;exact AN (by rw[bX];exact h)
theorem bR{fs:Dz->Sg->O9 Sg}{fe:Sg->R Dz}{Y0:Sg}{d:α->Dz}{g:α->Dz}:∀ {xs:L9 α},(∀ x∈xs,∃ Y1,fs (d x) Y0=some Y1/\fe Y1=.ok (g x))->compL fs dC fe Y0 (xs.map d)=.ok (xs.map g)
 | [],_=>rfl
 | x::t,h=>by
  obtain⟨Y1,h1,h2⟩:=h x AX
  rw[AU]
  unfold compL
  rw[h1,bR λy a=>h y (AQ _ a),qX,R.bind_ok,aE7,R.noEx_ok,R.bind_ok,AN rfl,h2];rfl
theorem gN{fs:Dz->Sg->O9 Sg}{fb:Sg->R Fw}{d:α->Dz}{xs:L9 α}{Y:Sg}(J:Nat->Sg->Prop)(h0:J 0 Y)(a:∀ (i:Nat) (x:α) (Y:Sg),xs[i]? = some x->J i Y->∃ Y1 Y2,fs (d x) Y=some Y1/\(fb Y1=.ok (.nx Y2)\/fb Y1=.ok (.ct Y2))/\J (i+1) Y2) :
  ∃ Y',fH fs fb (xs.map d) Y=.ok (.nx Y')/\J xs.length Y':=by
 induction xs generalizing Y J with
 | nil=>exact⟨Y,rfl,h0⟩
 | cons x t ih=>
  obtain⟨Y1,Y2,h1,h2,f⟩:=a 0 x Y rfl h0
  obtain⟨Y',b,e⟩:=ih (Y:=Y2) (λi=>J (i+1)) f (λi y Y c g=>a (i+1) y Y (by simpa using c) g)
  refine⟨Y',?_,e⟩
  rw[AU]
  unfold fH
  rw[h1,qX,R.bind_ok]
  rcases h2 with h2|h2<;>rw[h2]<;>exact b
theorem iL{t:Sg->R Bool}{b:Sg->R Fw}{a:Sg}(h1:t Y=.ok true)(h2:b Y=.ok (.nx a)):bD t b Y=bD t b a:=by
 rw[qZ,h1,R.bind_ok,AN rfl,h2];rfl
theorem nU{t:Sg->R Bool}{b:Sg->R Fw}{a:A}(h1:t Y=.ok true)(h2:b Y=.ok (.rt a)):bD t b Y=.ok (.rt a):=by
 rw[qZ,h1,R.bind_ok,AN rfl,h2];rfl
theorem dS{t:Sg->R Bool}{b:Sg->R Fw}(h1:t Y=.ok false):bD t b Y=.ok (.nx Y):=by
 rw[qZ,h1,R.bind_ok,AL (by decide)]
def been(d:α->Dz)(ps:L9 α):L9 (Dz×Dz):=ps.map λp=>(d p,.bool true)
theorem rK(d:α->Dz)(ps:L9 α):(been d ps).map (·.1)=ps.map d:=by unfold been;rw[AZ];rfl
theorem pR{d:α->Dz}(c:∀ a b,d a=d b->a=b){ps:L9 α}{p:α}:bJ (been d ps) (d p)=true↔p∈ps:=by
 rw[kK,rK,AT]
 ext
theorem jQ{d:α->Dz}(c:∀ a b,d a=d b->a=b){ps:L9 α}{p:α}(h:p∉ps):bJ (been d ps) (d p)=false:=by
 cases q:bJ (been d ps) (d p)with
 | false=>rfl
 | true=>exact absurd ((pR c).mp q) h
theorem mT{d:α->Dz}(c:∀ a b,d a=d b->a=b){ps:L9 α}{p:α}(h:p∉ps):putM (been d ps) (d p) (.bool true)=been d (ps++[p]):=by
 unfold putM
 rw[jQ c h,AL (by decide)]
 unfold been
 rw[BE];rfl
theorem nV{d:α->Dz}(b:∀ a,fF (d a)=true)(ps:L9 α)(p:α):bH (d p) ((been d ps).map (·.1))=true:=by
 unfold bH
 rw[rK,b,IJ,CU,BO]
 simp_all
theorem kO(d:α->Dz)(ps:L9 α):(been d ps).length=ps.length:=by unfold been;rw[AB]
def prD(p:Int×Int):Dz:=.tuple [.int p.1,.int p.2]
theorem tH(a b:Int×Int)(h:prD a=prD b):a=b:=by
 unfold prD at h
 ext
theorem tJ(a:Int×Int):fF (prD a)=true:=rfl
end Fl
variable{i:Nat}{n:Int}
namespace Mc
open Fl
variable{rs:L9 Rw}
theorem aFA{r:Rw}:eE [.d (aD (r::rs))]=.ok (.d (.int r.c.length)):=by
 simp[eE,wW,aD,aO]
theorem Mach.cons{rs:L9 Rw}{sg:Nat}(M:Mach rs sg):∃ r t,rs=r::t/\r.c.length=sg:=by
 cases rs with
 | nil=>have:=M.len;simp at this
 | cons r t=>exact⟨r,t,rfl,(M.row r AX).2⟩
def ck(k:Nat)(r:Rw):Int×Int:=r.c.getD k (0,0)
theorem aQV(M:Mach rs sg)(b:k < sg):iR [.d (aD rs),.d (.int k)]=.ok (.d (.list (rs.map λr=>cellD (ck k r)))):=by
 have h:=bR (fs:=stN 0) (fe:=e2 dIx (e2 dIx (rV 0) (eC (.int 1))) (rV 1)) (Y0:=[none,some (.d (.int k))]) (d:=aO) (g:=λr=>cellD (ck k r)) (xs:=rs) λr hr=>by
  refine⟨_,rfl,?_⟩
  have e:dIx (.tuple (r.c.map cellD)) (.int (k:Int))=.ok (cellD (ck k r)):=j5 (c8 (j:=k) (by rw[AC,(l9 M hr b).1];rfl))
  simp[aO,e]
 have a:(rs.map aO).length<=16777216:=by have:=M.len2;rw[AB];ext
 simp[iR,wX,aD,cR a,cX,h]
theorem iM{n:Nat}(h:n<=16777216):j3 0 (n:Int)=.ok ((range n).map λi:Nat=>.int (i:Int)):=by
 unfold j3
 rw[AN (by ext)]
 unfold mM
 simp
theorem aJZ(z y:Str):oK (.str z) (.str y)=match Builtin.Str.occurrences z y 0 z.length 1 with|i::_=>R.ok (PyData.int i)|[]=>.bad:=rfl
theorem aFB(h:aY 3 c=true):oK (.str "abc") (.str ⟨#[c]⟩)=.ok (.int ((c - 97:Nat):Int)):=by
 obtain⟨r,e⟩:=aIA h
 rw[aJZ,e]
theorem aCV{n:Nat}(a:n<=3)(h:aY n c=true):aY 3 c=true:=A1 (by have:=A5 h;ext)
theorem eF(i:Int):shaped (.int i)=true:=id rfl
theorem aJ0(i j:Int):PyData.eqv (.int i) (.int j)=decide (i=j):=by
 rw[PyData.eqv.eq_5]
 rfl
theorem eO(i j:Int):dEq (.int i) (.int j)=.ok (.bool (decide (i=j))):=by rw[rH (eF i) (eF j),aJ0]
def yO(c:Int×Int):Int×Int:=(c.1,-c.2)
def jD(r:Rw):Rw:=⟨r.r,r.c.map yO,r.l⟩
def n8:Sg->R Fw:=(aF (a8 2 (vD (eC (.int 0))))
 (aF (sIf (e1 asB (e2 dGt (e1 dLen (rV 0)) (eC (.int 0)))) (a8 2 (vD (e2 dIx (rV 0) (e2 dMod (rV 1) (e1 dLen (rV 0)))))) sNx)
 (aF (a8 3 (vD (e2 dMod (e2 dMul (e2 bV (e2 bV (e2 dMod (rV 2) (eC (.int 2147483647))) (e2 dMul (eC (.int 7919)) (rV 1))) (eC (.int 1))) (eC (.int 48271))) (eC (.int 2147483647)))))
 (aN (vD (e2 bV (e2 dMul (e2 dDiv (rV 2) (eC (.int 2147483647))) (eC (.int 2147483659))) (e2 dMod (e2 bV (e2 dMul (rV 3) (eC (.int 69621))) (e2 dMul (eC (.int 104729)) (rV 1))) (eC (.int 2147483659)))))))))
def bG:L9 A->R A:=fnF 4 n8
def pS:Sg->R Fw:=(aF (sIf (e1 asB (e2 dEq (e2 dMod (rV 0) (eC (.int 3))) (eC (.int 0)))) (aN (vD (e2 dIx (eL (cQ (aA (eC (.str "by")) (aA (eC (.str "out")) aB)))) (e2 dMod (e2 dDiv (rV 0) (eC (.int 3))) (eC (.int 2)))))) sNx)
 (aN (vD (e2 dMod (e2 dDiv (rV 0) (eC (.int 3))) (rV 1)))))
def gO:L9 A->R A:=fnF 2 pS
def mU:Sg->R Fw:=(aF (a8 3 (vD (e2 dMod (rV 0) (e2 bV (rV 1) (eC (.int 2))))))
 (aF (a8 0 (vD (e2 dDiv (rV 0) (e2 bV (rV 1) (eC (.int 2))))))
 (aF (cO 4 (cQ aB))
 (aF (fI (eH (rV 2)) (stN 5) (aF (fG 4 (bM (aA (e2 dMod (e2 dDiv (rV 0) (eC (.int 2))) (rV 1)) (aA (e2 dSub (eC (.int 1)) (e2 dMul (e2 dMod (rV 0) (eC (.int 2))) (eC (.int 2)))) aB))))
 (a8 0 (vD (e2 dDiv (rV 0) (e2 dMul (eC (.int 2)) (rV 1)))))))
 (aF (cO 6 (cQ (aA (eV 3) (aA (e2 dMod (rV 0) (e2 bV (rV 1) (eC (.int 2)))) aB))))
 (aF (cO 6 (cA [none,some 1] (e1 aH (rV 6)) (stN 0) dC (eIf (e1 asB (e2 dGe (rV 0) (rV 1))) (e2 dIx (eL (cQ (aA (eC (.str "by")) (aA (eC (.str "out")) aB)))) (e2 dSub (rV 0) (rV 1))) (eV 0))))
 (aN (vD (bM (aA (e2 dIx (rV 6) (eC (.int 0))) (aA (e1 dTup (rV 4)) (aA (e2 dIx (rV 6) (eC (.int 1))) aB))))))))))))
def gP:L9 A->R A:=fnF 7 mU
def mxB:Sg->R Fw:=aF (a8 0 (vD (e2 dMod (e2 bV (e2 dMul (rV 0) (eC (.int 48271))) (eC (.int 7919))) (eC (.int 2147483647))))) (fG 3 (e2 dDiv (rV 0) (eC (.int 64))))
def mxE:Sg->R Dz:=bM (aA (e2 dMod (rV 0) (rV 1)) (aA (e2 dSub (eC (.int 1)) (e2 dMul (e2 dDiv (e2 dMod (e2 dDiv (rV 0) (eC (.int 64))) (eC (.int 3))) (eC (.int 2))) (eC (.int 2)))) aB))
def mV:Sg->R Fw:=(aF (cO 3 (cQ aB))
 (aF (fI (eH (e2 bV (rV 2) (eC (.int 2)))) (stN 4) mxB)
 (aF (a8 5 (vD (e1 dTup (eL (cA [none,some 1] (e1 aH (eSl dSl (rV 3) (oSo (eC (.int 2))) oNo)) (stN 0) dC mxE)))))
 (aN (vD (bM (aA (eA (aG 2 gO (aA (vD (e2 dIx (rV 3) (eC (.int 0)))) (aA (vV 1) aB)))) (aA (eV 5) (aA (eA (aG 2 gO (aA (vD (e2 dIx (rV 3) (eC (.int 1)))) (aA (vV 1) aB)))) aB)))))))))
def gQ:L9 A->R A:=fnF 6 mV
def mcT:Sg->R Bool:=(pD (e1 asB (e2 dLt (e2 bV (rV 1) (rV 5)) (e1 dLen (rV 0)))) (e1 asB (e2 dEq (e2 dMod (e2 dIx (rV 0) (eC (.int 0))) (eC (.int 2))) (eC (.int 1)))))
def mcU:Sg->R Bool:=(pD (e1 asB (e2 dEq (rV 5) (eC (.int 0)))) (pD (e1 asB (e1 (g9 "str") (e2 dIx (rV 6) (eC (.int 0))))) (e1 asB (e2 dGt (e2 dMod (e2 dDiv (eA (aG 2 bG (aA (vV 0) (aA (vV 1) aB)))) (eC (.int 8))) (eC (.int 8))) (eC (.int 0))))))
def mcB:Sg->R Fw:=(sIf mcT (fG 4 (eA (aG 3 gP (aA (vD (e2 dIx (rV 0) (e2 bV (rV 1) (rV 5)))) (aA (vV 2) (aA (vV 3) aB)))))) (aF (a8 6 (aG 3 gQ (aA (vD (e2 dMod (eA (aG 2 bG (aA (vV 0) (aA (vD (e2 bV (rV 1) (rV 5))) aB)))) (eC (.int 2147483647)))) (aA (vV 2) (aA (vV 3) aB)))))
 (aF (sIf mcU (a8 6 (vD (e2 bV (bM (aA (e2 dMod (e2 dDiv (eA (aG 2 bG (aA (vV 0) (aA (vV 1) aB)))) (eC (.int 64))) (rV 2)) aB)) (eSl dSl (rV 6) (oSo (eC (.int 1))) oNo)))) sNx)
 (fG 4 (eV 6)))))
def oR:Sg->R Fw:=(aF (cO 4 (cQ aB)) (aF (fI (eH (rV 2)) (stN 5) mcB) (aN (vD (e1 dTup (rV 4))))))
def f9:L9 A->R A:=fnF 7 oR
def j7:Sg->R Fw:=(aF (sIf (pD (e1 asB (e2 dLt (rV 1) (e1 dLen (rV 0)))) (e1 asB (e2 dEq (e2 dMod (e2 dIx (rV 0) (eC (.int 0))) (eC (.int 2))) (eC (.int 1))))) (aF (a8 4 (vD (e2 dIx (rV 0) (rV 1))))
 (aF (a8 5 (vD (eC (.str ""))))
 (aF (fI (eH (rV 2)) (stN 6) (aF (a8 5 (vD (e2 bV (rV 5) (e2 dIx (eC (.str "abc")) (e2 dMod (rV 4) (rV 3))))))
 (a8 4 (vD (e2 dDiv (rV 4) (rV 3))))))
 (aN (vV 5))))) sNx)
 (aN (vD (e2 sR (eC (.str "")) (eL (cA [none,some 0,some 1,some 3] (eH (rV 2)) (stN 0) dC (e2 dIx (eC (.str "abc")) (e2 dMod (eA (aG 2 bG (aA (vV 1) (aA (vD (e2 bV (rV 2) (rV 0))) aB)))) (rV 3)))))))))
def gA:L9 A->R A:=fnF 7 j7
def uG:Sg->R Fw:=(aF (rA (stT [(stN 3),(stN 4)]) (eV 2))
 (aF (rA (stT [(stN 5),(stN 6),(stN 7)]) (e2 dIx (rV 0) (rV 4)))
 (aF (sIf (bOr (e1 asB (e2 dEq (rV 3) (eC (.int 0)))) (e1 asB (e2 dGt (rV 3) (e1 dLen (rV 1))))) (aF (a8 8 (vD (e2 dIx (eL (cQ (aA (eV 5) (aA (eV 7) aB)))) (e1 dInt (e2 dGt (rV 3) (eC (.int 0)))))))
 (aF (sIf (e1 asB (e1 (g9 "str") (rV 8))) (aN (vD (eC .none))) sNx)
 (aN (vD (bM (aA (e2 dIx (eL (cQ (aA (eC (.int 1)) (aA (e1 dLen (rV 1)) aB)))) (e1 dInt (e2 dGt (rV 3) (eC (.int 0))))) (aA (eV 8) aB))))))) sNx)
 (aF (rA (stT [(stN 8),(stN 9)]) (e2 dIx (rV 6) (e2 oK (eC (.str "abc")) (e2 dIx (rV 1) (e2 dSub (rV 3) (eC (.int 1)))))))
 (aN (vD (bM (aA (e2 bV (rV 3) (rV 9)) (aA (eV 8) aB)))))))))
def i4:L9 A->R A:=fnF 10 uG
def vH:Sg->R Bool:=(e1 asB (jB true 3 (e2 dIx (rV 2) (e1 dNeg (eC (.int 1))))))
def vI:Sg->R Fw:=(aF (pI 3 (e2 dIx (rV 2) (e1 dNeg (eC (.int 1)))) (eC (.bool true)))
 (aF (a8 4 (aG 3 i4 (aA (vV 0) (aA (vV 1) (aA (vD (e2 dIx (rV 2) (e1 dNeg (eC (.int 1))))) aB)))))
 (aF (sIf (e1 asB (e2 dIs (rV 4) (eC .none))) (sFz 2 (aN (vV 2))) sNx)
 (fG 2 (eV 4)))))
def qF:Sg->R Fw:=aF (cO 2 (cQ (aA (bM (aA (eC (.int 0)) (aA (eC (.int 0)) aB))) aB))) (aF (nL 3) (aF (bD vH vI) (sFz 2 (aN (vV 2)))))
def i8:L9 A->R A:=fnF 5 qF
def uH:Sg->R Fw:=(aF (rA (stT [(stN 2),(stN 3)]) (e2 dIx (eA (aG 2 i8 (aA (vV 0) (aA (vV 1) aB)))) (e1 dNeg (eC (.int 1)))))
 (aF (sIf (e1 asB (e2 dIsnt (eA (aG 3 i4 (aA (vV 0) (aA (vV 1) (aA (vD (bM (aA (eV 2) (aA (eV 3) aB)))) aB))))) (eC .none))) (aN (vD (eC (.str "ever")))) sNx)
 (aN (vD (e2 dIx (eL (cQ (aA (e2 dIx (e2 dIx (rV 0) (rV 3)) (eC (.int 0))) (aA (e2 dIx (e2 dIx (rV 0) (rV 3)) (eC (.int 2))) aB)))) (e1 dInt (e2 dGt (rV 2) (eC (.int 0)))))))))
def g8:L9 A->R A:=fnF 4 uH
def dD(ns:L9 Int):Dz:=.list (ns.map .int)
theorem kP(ns:L9 Int):dLen (dD ns)=.ok (.int ns.length):=by unfold dD;rw[i3,AB]
theorem rL{ns:L9 Int}{i:Int}(h0:0<=i)(h1:i < ns.length):∃ v,dIx (dD ns) (.int i)=.ok (.int v):=by
 refine⟨ns[i.toNat]'(by ext),j6 (oQ h0 ?_)⟩
 rw[AC,AI (by ext)];rfl
theorem mW(ns:L9 Int)(k:Int):∃ v,bG [.d (dD ns),.d (.int k)]=.ok (.d (.int v)):=by
 by_cases h:(0:Int) < ns.length
 .obtain ⟨v,c⟩:=rL (ns:=ns) (i:=k % (ns.length:Int)) (CT _ (by ext)) (CF _ h)
  have b:dMod (.int k) (.int (ns.length:Int))=.ok (.int (k % (ns.length:Int))):=b8 h
  have a:0 < ns.length:=by ext
  refine⟨v / 2147483647 * 2147483659+((v % 2147483647+7919 * k+1) * 48271 % 2147483647 * 69621+104729 * k) % 2147483659,?_⟩
  unfold bG n8
  simp[kP,a,b,c,b8,rF,w8,f8]
 .have a:¬ 0 < ns.length:=by ext
  refine⟨((7919 * k+1) * 48271 % 2147483647 * 69621+104729 * k) % 2147483659,?_⟩
  unfold bG n8
  simp[kP,a,b8,rF,w8,f8]
theorem aJ1(x y:Dz)(i:Int):∃ z,dIx (.list [x,y]) (.int (i % 2))=.ok z/\(z=x\/z=y):=by
 rcases Int.emod_two_eq i with h|h
 · simp_all
 · simp_all
theorem aOG(x:Int)(c:0 < n):∃ t:Tn,gO [.d (.int x),.d (.int n)]=.ok (.d t.d)/\t.good n:=by
 by_cases h:x % 3=0
 .obtain ⟨z,f,b⟩:=aJ1 (.str "by") (.str "out") (x / 3)
  have a:decide (x % 3=0)=true:=A1 h
  have e:gO [.d (.int x),.d (.int n)]=.ok (.d z):=by
   unfold gO pS
   simp[b8,f8,eO,a,f]
  rcases b with rfl|rfl
  .exact ⟨.w "by",e,.inl rfl⟩
  .exact ⟨.w "out",e,.inr rfl⟩
 .have a:decide (x % 3=0)=false:=BA h
  refine⟨.n (x / 3 % n),?_,CT _ (by ext),CF _ c⟩
  unfold gO pS
  simp[b8,f8,eO,a,c]
  rfl
theorem w9{n:Nat}(h:n<=16777216):j3 0 (n:Int)=.ok ((range n).map λi:Nat=>.int (i:Int)):=iM h
theorem kQ{fs:Dz->Sg->O9 Sg}{fb:Sg->R Fw}{Y a b:Sg}(h1:fs x Y=some a)(h2:fb a=.ok (.nx b)):fH fs fb (x::xs) Y=fH fs fb xs b:=by
 conv=>lhs;unfold fH
 rw[h1,show yF (some a)=R.ok a from rfl,R.bind_ok,h2,R.bind_ok]
theorem aAV{Z:Type}{fs:Dz->Sg->O9 Sg}{fb:Sg->R Fw}{d:α->Dz}{e:β->Dz}{G:β->Prop}{R':L9 Dz->Z->Sg}:∀ {xs:L9 α},(∀ x∈xs,∀ L s,L.length < 16777216->∃ Y1 s' b,fs (d x) (R' L s)=some Y1/\fb Y1=.ok (.nx (R' (L++[e b]) s'))/\G b)->∀ L s,L.length+xs.length<=16777216->
  ∃ (s':Z) (bs:L9 β),fH fs fb (xs.map d) (R' L s)=.ok (.nx (R' (L++bs.map e) s'))/\bs.length=xs.length/\∀ b∈bs,G b
 | [],_,L,s,_=>⟨s,[],by rw[BS,BS,C8];rfl,rfl,λb h=>nomatch h⟩
 | x::t,h,L,s,hl=>by
  rw[A7]at hl
  obtain⟨Y1,s1,b,h1,h2,g⟩:=h x AX L s (by ext)
  obtain⟨s',bs,i,f,c⟩:=aAV (λy a=>h y (AQ _ a)) (L++[e b]) s1 (by rw[AY,BJ];ext)
  exact⟨s',b::bs,by rw[AU,kQ h1 h2,i,AU,DW];rfl,by rw[A7,A7,f],λy a=>(AW.mp a).elim (λe=>e▸g) (c y)⟩
theorem aQW(x:Int)(m:0 < n)(E:sg<=1000):∃ r:Rw,gQ [.d (.int x),.d (.int n),.d (.int sg)]=.ok (.d (aO r))/\r.good n/\r.c.length=sg:=by
 have hr:j3 0 ((sg:Int)+2)=.ok ((range (sg+2)).map λi:Nat=>.int (i:Int)):=iM (n:=sg+2) (by ext)
 obtain⟨⟨y,u⟩,ps,p,h,_⟩:=aAV (fs:=stN 4) (fb:=mxB) (d:=λi:Nat=>.int (i:Int)) (e:=PyData.int) (G:=λ_=>True) (xs:=range (sg+2)) (R':=λL (s:Int×O9 A)=>[some (.d (.int s.1)),some (.d (.int n)),some (.d (.int sg)),some (.l L),s.2,none]) (λk _ L s D=>by
  refine⟨_,((s.1 * 48271+7919) % 2147483647,some (.d (.int k))),(s.1 * 48271+7919) % 2147483647 / 64,rfl,?_,trivial⟩
  unfold mxB
  simp[rF,w8,b8,f8,D]) [] (x,none) (by simp;ext)
 rw[BB]at h
 obtain⟨b,a,qs,rfl,t⟩:∃ b a qs,ps=b::a::qs/\qs.length=sg:=by
  match ps,h with
  | b::a::qs,h=>exact⟨b,a,qs,rfl,by simpa using h⟩
 have f:dSl (.list (.int b::.int a::qs.map .int)) (some 2) none=.ok (.list (qs.map .int)):=by
  show R.ok (PyData.list (kI _ _ _))=_
  unfold kI HT.sIx
  ext
 obtain⟨t0,w,z⟩:=aOG b m
 obtain⟨B,o,v⟩:=aOG a m
 have j:=bR (fs:=stN 0) (fe:=mxE) (Y0:=[none,some (.d (.int n))]) (d:=PyData.int) (g:=λq=>cellD (q % n,1 - q / 64 % 3 / 2 * 2)) (xs:=qs) λq _=>⟨_,rfl,by unfold mxE;simp[b8,f8,rF,m,cellD]⟩
 have hi:aH (.list (qs.map .int))=.ok (qs.map .int):=cS (by rw[AB];ext)
 refine⟨⟨t0,qs.map λq=>(q % n,1 - q / 64 % 3 / 2 * 2),B⟩,?_,⟨z,v,λc j=>?_⟩,by simpa using t⟩
 .unfold gQ aO
  rw[mV,AZ]
  change compL _ _ _ _ _=.ok (qs.map (cellD∘λq=>(q % n,1 - q / 64 % 3 / 2 * 2)))at j
  simp only[CC,AU]at p
  generalize qs.map PyData.int=Q at *
  generalize qs.map (cellD∘λq=>(q % n,1 - q / 64 % 3 / 2 * 2))=C at *
  simp[hr,p,f,hi,cX,j,w,o]
 .obtain ⟨q,_,rfl⟩:=AT.mp j
  refine⟨CT _ (by ext),CF _ m,?_⟩
  ext
theorem aQX(x:Int)(E:0 < n)(L:n<=1000)(N:sg<=1000):∃ r:Rw,gP [.d (.int x),.d (.int n),.d (.int sg)]=.ok (.d (aO r))/\r.good n/\r.c.length=sg:=by
 have hr:=iM (n:=sg) (by ext)
 have f:(0:Int) < n+2:=by ext
 have C:n+2 < 18446744073709551616:=by ext
 have B:(0:Int) < 2 * n:=by ext
 have m:2 * n < 18446744073709551616:=by ext
 obtain⟨M,F,y,cs,q,g,v,rfl⟩:=gN (fs:=stN 5) (fb:=aF (fG 4 (bM (aA (e2 dMod (e2 dDiv (rV 0) (eC (.int 2))) (rV 1)) (aA (e2 dSub (eC (.int 1)) (e2 dMul (e2 dMod (rV 0) (eC (.int 2))) (eC (.int 2)))) aB)))) (a8 0 (vD (e2 dDiv (rV 0) (e2 dMul (eC (.int 2)) (rV 1))))))
  (d:=λi:Nat=>.int (i:Int)) (xs:=range sg) (Y:=[some (.d (.int (x / (n+2)))),some (.d (.int n)),some (.d (.int sg)),some (.d (.int (x % (n+2)))),some (.l []),none,none])
  (λi Y=>∃ (y:Int) (cs:L9 (Int×Int)) (q:O9 A),cs.length=i/\(∀ c∈cs,mH n c)/\Y=[some (.d (.int y)),some (.d (.int n)),some (.d (.int sg)),some (.d (.int (x % (n+2)))),some (.l (cs.map cellD)),q,none]) ⟨x / (n+2),[],none,rfl,λc j=>by simp at j,rfl⟩
  (λi k Y G p=>by
   obtain⟨y,cs,q,g,v,rfl⟩:=p
   have hi:i < sg:=by have:=(AJ.mp G).1;simpa using this
   have O:(cs.map cellD).length < 16777216:=by rw[AB,g];ext
   refine⟨_,_,rfl,.inl ?_,y / (2 * n),cs++[(y / 2 % n,1 - y % 2 * 2)],some (.d (.int k)),by simp[g],λc j=>?_,rfl⟩
   .have u:cs.length < 16777216:=by ext
    simp[rF,w8,b8,f8,E,B,m,cellD,u]
   .rcases BD.mp j with z|z
    .exact v c z
    .rw[AM.mp z]
     refine⟨CT _ (by ext),CF _ E,?_⟩
     simp only;ext)
 rw[BB]at g
 have o:∀ e:Int,0<=e->e < n+2->∃ t:Tn,(eIf (e1 asB (e2 dGe (rV 0) (rV 1))) (e2 dIx (eL (cQ (aA (eC (.str "by")) (aA (eC (.str "out")) aB)))) (e2 dSub (rV 0) (rV 1))) (eV 0)) [some (.d (.int e)),some (.d (.int n))]=.ok t.d/\t.good n:=λe K h1=>by
  by_cases h:n<=e
  .obtain rfl|rfl:e=n\/e=n+1:=by ext
   .exact ⟨.w "by",by simp[Tn.d],.inl rfl⟩
   .exact ⟨.w "out",by simp[Tn.d,show n+1 - n=1 by ext,show n<=n+1 by ext],.inr rfl⟩
  .exact ⟨.n e,by simp[Tn.d,h],K,by ext⟩
 obtain⟨t0,H,I⟩:=o (x % (n+2)) (CT _ (by ext)) (CF _ f)
 obtain⟨D,s,J⟩:=o (y % (n+2)) (CT _ (by ext)) (CF _ f)
 have j:compL (stN 0) dC (eIf (e1 asB (e2 dGe (rV 0) (rV 1))) (e2 dIx (eL (cQ (aA (eC (.str "by")) (aA (eC (.str "out")) aB)))) (e2 dSub (rV 0) (rV 1))) (eV 0)) [none,some (.d (.int n))] [.int (x % (n+2)),.int (y % (n+2))]=.ok [t0.d,D.d]:=by
  simp only[compL,aUD,B6,qX,R.bind_ok,aE7,R.noEx_ok,DJ,H,s]
 have hi:∀ a b:Dz,aH (.list [a,b])=.ok [a,b]:=λa b=>cS (by simp)
 refine⟨⟨t0,cs,D⟩,?_,⟨I,J,v⟩,g⟩
 unfold gP mU
 simp only[mS,AU,BS,CY,CC,A7,CS,replicate,cF,yM,aG6,tD,tE,l5,BH,BG,R.bind_ok,aJW,b8 f,f8 f C,B6,CM,aCQ,aE5,tF,tG,w6,hr]
 simp only[B8,DJ,R.bind_ok,B6,CM,BH,BG,hr,F]
 simp only[vG,w5,tF,tD,tE,l5,BH,BG,R.bind_ok,aJW,b8 f,aMQ,w4,B6,CM]
 simp[hi,cX,j,aO,b8 f]
theorem aJ2{ns:L9 Int}{at':Int}{n sg:Nat}(P:0<=at')(h1:1<=n)(h2:n<=1000)(s1:1<=sg)(O:sg<=3):∃ rs:L9 Rw,f9 [.d (dD ns),.d (.int at'),.d (.int n),.d (.int sg)]=.ok (.d (aD rs))/\Mach rs sg/\rs.length=n:=by
 have hr:=iM (n:=n) (by ext)
 have m:(0:Int) < (n:Int):=by ext
 obtain⟨s',rs,D,y,R⟩:=aAV (fs:=stN 5) (fb:=mcB) (d:=λi:Nat=>.int (i:Int)) (e:=aO) (G:=λr=>r.good n/\r.c.length=sg) (xs:=range n) (R':=λL (s:O9 A×O9 A)=>[some (.d (dD ns)),some (.d (.int at')),some (.d (.int n)),some (.d (.int sg)),some (.l L),s.1,s.2]) (λk _ L s t=>by
  obtain⟨b,q,o⟩:∃ b,mcT [some (.d (dD ns)),some (.d (.int at')),some (.d (.int n)),some (.d (.int sg)),some (.l L),some (.d (.int k)),s.2]=.ok b/\(b=true->∃ w,dIx (dD ns) (.int (at'+k))=.ok (.int w)):=by
   unfold mcT
   by_cases C:at'+(k:Int) < (ns.length:Int)
   .obtain ⟨M,x⟩:=rL (ns:=ns) (i:=0) (BV _) (by ext)
    exact⟨decide (M % 2=1),by simp[kP,C,x,b8,eO],λ_=>rL (by ext) C⟩
   .exact ⟨false,by simp[kP,C],λh=>nomatch h⟩
  cases b with
  | true=>
   obtain⟨w1,B⟩:=o rfl
   obtain⟨S,u,N⟩:=aQX w1 (n:=(n:Int)) (sg:=sg) m (by ext) (by ext)
   refine⟨_,(some (.d (.int k)),s.2),S,rfl,?_,N⟩
   generalize dD ns=H at *
   unfold mcB
   simp[q,B,u,t]
  | false=>
   obtain⟨v,E⟩:=mW ns (at'+k)
   obtain⟨a,f⟩:=mW ns at'
   obtain⟨r,hr,j⟩:=aQW (v % 2147483647) (n:=(n:Int)) (sg:=sg) m (by ext)
   have I:dMod (.int v) (.int 2147483647)=.ok (.int (v % 2147483647)):=b8 (by decide)
   have Q:dIx (aO r) (.int 0)=.ok r.l.d:=rG _ _
   obtain⟨F,p⟩:∃ b,g9 "str" r.l.d=.ok (.bool b):=by cases r.l<;>exact⟨_,rfl⟩
   obtain⟨c,J⟩:∃ c,mcU [some (.d (dD ns)),some (.d (.int at')),some (.d (.int n)),some (.d (.int sg)),some (.l L),some (.d (.int k)),some (.d (aO r))]=.ok c:=by
    generalize aO r=T at *
    refine⟨decide (k=0) && (F && decide (0 < a / 8 % 8)),?_⟩
    unfold mcU
    cases F<;>by_cases h:k=0<;>simp[f,b8,f8,eO,Q,p,h]
   have z:dSl (aO r) (some 1) none=.ok (.tuple [.tuple (r.c.map cellD),r.r.d]):=by
    unfold aO
    rw[aWQ (by unfold HT.sIx;simp)]
    unfold kI HT.sIx
    simp
   have g:bV (.tuple [.int (a / 64 % (n:Int))]) (.tuple [.tuple (r.c.map cellD),r.r.d])=.ok (aO ⟨.n (a / 64 % (n:Int)),r.c,r.r⟩):=by
    rw[aUI rfl (by simp)];rfl
   have K:(⟨.n (a / 64 % (n:Int)),r.c,r.r⟩:Rw).good n/\r.c.length=sg:=⟨⟨⟨CT _ (by ext),CF _ m⟩,j.1.2.1,j.1.2.2⟩,j.2⟩
   refine⟨_,(some (.d (.int k)),some (.d (aO (if c=true then⟨.n (a / 64 % (n:Int)),r.c,r.r⟩else r)))),if c=true then⟨.n (a / 64 % (n:Int)),r.c,r.r⟩else r,rfl,?_,by cases c;exact j;exact K⟩
   generalize dD ns=H at *
   unfold mcB
   cases c
   .simp[q,E,I,hr,J,t]
   .simp[q,E,I,hr,J,t,f,f8,b8 m,z,g]) [] (none,none) (by simp;ext)
 rw[BB]at y
 refine⟨rs,?_,⟨by ext,by ext,s1,O,λr hr=>by rw[y];exact R r hr⟩,y⟩
 unfold f9 aD
 rw[oR]
 simp only[CC]at D
 generalize dD ns=H at *
 generalize rs.map aO=U at *
 simp[hr,D]
theorem uI(x y:Str):(x++y).cps.toList=x.cps.toList++y.cps.toList:=by
 show(x.cps++y.cps).toList=_
 simp_all
theorem aQY{ns:L9 Int}{at':Int}{m sg:Nat}(C:0<=at')(S:m<=1000)(s1:1<=sg)(O:sg<=3):∃ z:Str,gA [.d (dD ns),.d (.int at'),.d (.int m),.d (.int sg)]=.ok (.d (.str z))/\aK sg z.cps.toList/\z.cps.toList.length=m:=by
 have hr:=iM (n:=m) (by ext)
 have H:(0:Int) < (sg:Int):=by ext
 have j:∀ y:Int,∃ c,dIx (.str "abc") (.int (y % (sg:Int)))=.ok (.str ⟨#[c]⟩)/\aY sg c=true:=λy=>by
  obtain⟨c,h1,h2⟩:=aPC (k:=y) s1 O
  exact⟨c,aOF (by decide) h1,h2⟩
 have E:∃ z:Str,(aN (vD (e2 sR (eC (.str "")) (eL (cA [none,some 0,some 1,some 3] (eH (rV 2)) (stN 0) dC (e2 dIx (eC (.str "abc")) (e2 dMod (eA (aG 2 bG (aA (vV 1) (aA (vD (e2 bV (rV 2) (rV 0))) aB)))) (rV 3)))))))) [some (.d (dD ns)),some (.d (.int at')),some (.d (.int m)),some (.d (.int sg)),none,none,none]=.ok (.rt (.d (.str z)))/\aK sg z.cps.toList/\z.cps.toList.length=m:=by
  have b:∀ i:Nat,∃ c,(e2 dIx (eC (.str "abc")) (e2 dMod (eA (aG 2 bG (aA (vV 1) (aA (vD (e2 bV (rV 2) (rV 0))) aB)))) (rV 3))) [some (.d (.int i)),some (.d (dD ns)),some (.d (.int at')),some (.d (.int sg))]=.ok (.str ⟨#[c]⟩)/\aY sg c=true:=λi=>by
   obtain⟨v,L⟩:=mW ns (at'+i)
   obtain⟨c,h1,h2⟩:=j v
   exact⟨c,by simp[L,b8 H,h1],h2⟩
  have r:=Classical.skolem.mp b
  obtain⟨f,p⟩:=r
  have h1:=bR (fs:=stN 0) (fe:=e2 dIx (eC (.str "abc")) (e2 dMod (eA (aG 2 bG (aA (vV 1) (aA (vD (e2 bV (rV 2) (rV 0))) aB)))) (rV 3))) (Y0:=[none,some (.d (dD ns)),some (.d (.int at')),some (.d (.int sg))]) (d:=λi:Nat=>.int (i:Int)) (g:=λi:Nat=>.str ⟨#[f i]⟩) (xs:=range m) λi _=>⟨_,rfl,(p i).1⟩
  have B:lM ((range m).map λi:Nat=>PyData.str ⟨#[f i]⟩)=some (((range m).map f).map one):=by
   rw[AZ]
   generalize range m=l
   induction l with
   | nil=>rfl
   | cons a t ih=>simp only[AU,lM,ih];rfl
  have P:sR (.str "") (.list ((range m).map λi:Nat=>.str ⟨#[f i]⟩))=.ok (.str ⟨((range m).map f).toArray⟩):=by
   show(match lM ((range m).map λi:Nat=>PyData.str ⟨#[f i]⟩)with|some ys=>if _ then R.ok _ else .bad|none=>.bad)=_
   rw[B]
   simp only
   rw[AN (by rw[aED,AB,AB,BB];show m+m * 0<=_;ext),aEE]
  refine⟨⟨((range m).map f).toArray⟩,?_,⟨by simp;ext,λc b=>?_⟩,by simp⟩
  .simp[hr,cX,h1,P]
  .simp at b
   obtain⟨i,_,rfl⟩:=b
   exact(p i).2
 obtain⟨I,h,S2,K⟩:=E
 by_cases u:at' < (ns.length:Int)
 .obtain ⟨N,e⟩:=rL (ns:=ns) (i:=0) (BV _) (by ext)
  by_cases J:N % 2=1
  .obtain ⟨w1,G⟩:=rL (ns:=ns) (i:=at') C u
   obtain⟨Q,p,y,z,D,s,F,rfl⟩:=gN (fs:=stN 6) (fb:=aF (a8 5 (vD (e2 bV (rV 5) (e2 dIx (eC (.str "abc")) (e2 dMod (rV 4) (rV 3)))))) (a8 4 (vD (e2 dDiv (rV 4) (rV 3)))))
    (d:=λi:Nat=>.int (i:Int)) (xs:=range m) (Y:=[some (.d (dD ns)),some (.d (.int at')),some (.d (.int m)),some (.d (.int sg)),some (.d (.int w1)),some (.d (.str "")),none])
    (λi Y=>∃ (y:Int) (z:Str) (D:O9 A),z.cps.toList.length=i/\(∀ c∈z.cps.toList,aY sg c=true)/\Y=[some (.d (dD ns)),some (.d (.int at')),some (.d (.int m)),some (.d (.int sg)),some (.d (.int y)),some (.d (.str z)),D]) ⟨w1,"",none,rfl,λc b=>(nomatch (show c∈([]:L9 Nat)from b)),rfl⟩
    (λi k Y M w=>by
     obtain⟨y,z,D,s,F,rfl⟩:=w
     have hi:i < m:=by have:=(AJ.mp M).1;simpa using this
     obtain⟨c,h1,h2⟩:=j y
     have o:bV (.str z) (.str ⟨#[c]⟩)=.ok (.str (z++⟨#[c]⟩)):=aUJ (by
      have:z.length=z.cps.toList.length:=by simp[Str.length]
      show z.length+1<=_
      ext)
     refine⟨_,_,rfl,.inl ?_,y / sg,z++⟨#[c]⟩,some (.d (.int k)),by rw[uI,AY,s];rfl,λx r=>?_,rfl⟩
     .simp[b8 H,h1,o,f8 H (show(sg:Int) < 18446744073709551616 by ext)]
     .rw[uI]at r
      rcases BD.mp r with q|q
      .exact F x q
      .have:x=c:=by simpa using q
       rw[this];exact h2)
   rw[BB]at s
   refine⟨z,?_,⟨by ext,F⟩,s⟩
   unfold gA j7
   simp only[mS,AU,BS,CY,CC,A7,CS,replicate,cF,aCP,yN,w4,tD,tE,l5,BH,BG,R.bind_ok,kP,aG7,aCR,u,decide_true,DJ,e,b8 (show(0:Int) < 2 by decide),eO,J,yM,aG6,G,B6,CM,tG,w6,hr,p,aE6,aOE]
  .refine ⟨I,?_,S2,K⟩
   unfold gA j7
   simp only[mS,AU,BS,CY,CC,A7,CS,replicate]
   rw[cF,aCP]
   simp only[yN,w4,tD,tE,l5,BH,BG,R.bind_ok,kP,aG7,aCR,u,decide_true,DJ,e,b8 (show(0:Int) < 2 by decide),eO,J,decide_false,CG,DI,aJV]
   rw[h];rfl
 .refine ⟨I,?_,S2,K⟩
  unfold gA j7
  simp only[mS,AU,BS,CY,CC,A7,CS,replicate]
  rw[cF,aCP]
  simp only[yN,w4,tD,tE,l5,BH,BG,R.bind_ok,kP,aG7,aCR,u,decide_false,CG,DI,aJV]
  rw[h];rfl
end Mc
namespace Mc
def cC(rs:L9 Rw)(z:L9 Nat)(s:Int×Int):O9 ((Int×Int)⊕Str):=
 match (a5 rs z s).1 with
 | .w x=>some (.inr x)
 | .n q=>some (.inl (s.1+(a5 rs z s).2,q))
theorem walk_step{rs:L9 Rw}{z:L9 Nat}{s:Int×Int}:(∃ x,dP rs z s=none/\(a5 rs z s).1=.w x/\cC rs z s=some (.inr x))\/∃ s',dP rs z s=some s'/\cC rs z s=some (.inl s'):=by
 unfold dP cC
 cases(a5 rs z s).1 with
 | w x=>exact .inl ⟨x,rfl,rfl,rfl⟩
 | n q=>exact .inr ⟨_,rfl,rfl⟩
end Mc
variable{s:Int×Int}
namespace Mc
open Fl
variable{rs:L9 Rw}
theorem rM:jA "int" "str"=false:=by decide
theorem oS:jA "str" "str"=true:=by decide
theorem rN(h0:0<=q)(h1:q < (rs.length:Int)):dIx (aD rs) (.int q)=.ok (aO (rowAt rs q)):=j5 (oQ h0 (by rw[AC,bL h0 h1];rfl))
def mX:O9 (Int×Int)->Dz
 | none=>.none
 | some s=>prD s
theorem aFC(z:Str):z.length=z.cps.toList.length:=by simp[Str.length]
theorem aCW(M:Mach rs sg)(S:aK sg z.cps.toList)(V:hX rs z.cps.toList s):i4 [.d (aD rs),.d (.str z),.d (prD s)]=.ok (.d (mX (dP rs z.cps.toList s))):=by
 obtain⟨p,q⟩:=s
 have hr:=rN V.2.2.1 V.2.2.2
 have o:z.length<=16777216:=by rw[aFC];have:=S.1;ext
 have h:=aUH o
 rw[aFC]at h
 generalize D:z.cps.toList=g at *
 unfold i4 uG
 by_cases f:p=0
 .subst f
  have a:dP rs g (0,q)=match (rowAt rs q).l with | .w _=>none | .n q'=>some (0+1,q'):=by
   unfold dP a5;simp only[DJ]<;>(cases(rowAt rs q).l<;>rfl)
  cases e:(rowAt rs q).l with
  | w x=>
   rw[e]at a
   rw[a]
   simp[prD,hr,h,aO,eO,e,Tn.d,oS,mX]
  | n q'=>
   rw[e]at a
   rw[a]
   simp[prD,hr,h,aO,eO,e,Tn.d,rM,mX]
 .by_cases h1:p=(g.length:Int)+1
  .have a:dP rs g (p,q)=match (rowAt rs q).r with | .w _=>none | .n q'=>some (p + -1,q'):=by
    unfold dP a5;simp only[AL f,AN h1]<;>(cases(rowAt rs q).r<;>rfl)
   have j:(0:Int) < p:=by ext
   have b:(g.length:Int) < p:=by ext
   cases e:(rowAt rs q).r with
   | w x=>
    rw[e]at a
    rw[a]
    simp[prD,hr,h,aO,eO,e,Tn.d,oS,mX,f,b,j]
   | n q'=>
    rw[e]at a
    rw[a]
    simp[prD,hr,h,aO,eO,e,Tn.d,rM,mX,f,b,j]
    ext
  .obtain ⟨c,m,A,k⟩:=aEB S V f h1
   obtain⟨i,u,t,E⟩:=aBE M S V f h1
   have C:=V.1
   have y:=V.2.1
   simp only at C y m k u t
   have a:dP rs g (p,q)=some (p+i.2,i.1):=by
    unfold dP a5;simp only[AL f,AL h1,t]
   have b:¬ (g.length:Int) < p:=by ext
   have B:dIx (.str z) (.int (p - 1))=.ok (.str ⟨#[c]⟩):=aOF o (oQ (by ext) (by rw[D,<-m];congr 1;ext))
   have id:=aFB (aCV M.sg3 A)
   have v:dIx (.tuple ((rowAt rs q).c.map cellD)) (.int ((c - 97:Nat):Int))=.ok (cellD i):=j5 (c8 (by rw[AC,<-k,u];rfl))
   rw[a]
   simp[prD,hr,h,aO,eO,mX,f,b,B,id,v,cellD]
theorem jE(xs:L9 Dz)(x:Dz):dIx (.list (xs++[x])) (.int (-1))=.ok x:=j6 (L2.aLG xs x)
def stρ(rs:L9 Rw)(z:Str)(ps:L9 (Int×Int))(s:Int×Int)(u:O9 A):Sg:=[some (.d (aD rs)),some (.d (.str z)),some (.l (ps.map prD++[prD s])),some (.m (been prD ps)),u]
theorem aUK{ps:L9 (Int×Int)}{u:O9 A}(h:s∈ps):vH (stρ rs z ps s u)=.ok false:=by
 have h1:=nV tJ ps s
 have h2:=(pR tH).mpr h
 simp[vH,stρ,jE,h1,h2]
theorem aFD{ps:L9 (Int×Int)}{u:O9 A}(h:s∉ps):vH (stρ rs z ps s u)=.ok true:=by
 have h1:=nV tJ ps s
 have h2:=jQ tH h
 simp[vH,stρ,jE,h1,h2]
theorem aJ3(s:Int×Int):iA (prD s)=false:=id rfl
theorem aQZ(M:Mach rs sg)(S:aK sg z.cps.toList){ps:L9 (Int×Int)}{u:O9 A}(V:hX rs z.cps.toList s)(h:s∉ps)(c:ps.length<=2000000)(e:dP rs z.cps.toList s=none):vI (stρ rs z ps s u)=.ok (.rt (.d (.list ((ps++[s]).map prD)))):=by
 have h1:=nV tJ ps s
 have b:=mT tH h
 have a:(been prD ps).length<=16777216:=by rw[kO];ext
 have f:=aCW M S V
 rw[e]at f
 simp[vI,stρ,jE,h1,b,a,f,mX]
theorem aUL(M:Mach rs sg)(S:aK sg z.cps.toList){ps:L9 (Int×Int)}{s':Int×Int}{u:O9 A}(V:hX rs z.cps.toList s)(h:s∉ps)(g:ps.length<=2000000)(e:dP rs z.cps.toList s=some s'):vI (stρ rs z ps s u)=.ok (.nx (stρ rs z (ps++[s]) s' (some (.d (prD s'))))):=by
 have h1:=nV tJ ps s
 have c:=mT tH h
 have b:(been prD ps).length<=16777216:=by rw[kO];ext
 have f:=aCW M S V
 rw[e]at f
 have a:ps.length+1 < 16777216:=by ext
 simp[vI,stρ,jE,h1,c,b,f,mX,aJ3,a]
def j8(rs:L9 Rw)(z:L9 Nat)(s:Int×Int):Prop:=hX rs z s/\((dP rs z s=none/\∃ x,(a5 rs z s).1=.w x/\aS (cC rs z) (0,0)=some x)\/((∃ s',dP rs z s=some s')/\aS (cC rs z) (0,0)=none))
theorem aD3(M:Mach rs sg)(S:aK sg z.cps.toList):∀ (k:Nat) (ps:L9 (Int×Int)) (s:Int×Int) (u:O9 A),Way rs z.cps.toList ps s k->Und2 (cC rs z.cps.toList) (0,0) ps s->
  aF (bD vH vI) (sFz 2 (aN (vV 2))) (stρ rs z ps s u)=.ok (.rt (.d (.list ((lT rs z.cps.toList).map prD))))/\∃ ps' s',lT rs z.cps.toList=ps'++[s']/\j8 rs z.cps.toList s':=by
 have g:sM rs z.cps.toList<=1002 * 1000:=IE (by have:=S.1;ext) M.len2
 have b:∀ (k:Nat) (ps:L9 (Int×Int)) (s:Int×Int) (u:O9 A),Way rs z.cps.toList ps s k->Und2 (cC rs z.cps.toList) (0,0) ps s->s∈ps->aF (bD vH vI) (sFz 2 (aN (vV 2))) (stρ rs z ps s u)=.ok (.rt (.d (.list ((lT rs z.cps.toList).map prD))))/\∃ ps' s',lT rs z.cps.toList=ps'++[s']/\j8 rs z.cps.toList s':=by
  intro k ps s u W U a
  refine⟨?_,ps,s,(W.stop a).symm,W.here,.inr ⟨?_,U.met a⟩⟩
  .rw[cF,dS (aUK a),<-W.stop a]
   simp[stρ]
  .obtain ⟨m,r⟩:=U.back s a
   cases r with
   | cons h t=>
    rcases walk_step (rs:=rs) (z:=z.cps.toList) (s:=s)with ⟨x,_,_,e⟩|⟨s',e,_⟩
    · rw [e]at h; cases h
    · exact⟨s', e⟩
 intro k
 induction k with
 | zero=>
  intro ps s u W U
  by_cases a:s∈ps
  .exact b 0 ps s u W U a
  .obtain ⟨j,i⟩:=W.more a;ext
 | succ k ih=>
  intro ps s u W U
  by_cases a:s∈ps
  .exact b _ ps s u W U a
  .have f:ps.length<=2000000:=by have:=W.num;ext
   rcases walk_step (rs:=rs) (z:=z.cps.toList) (s:=s)with ⟨x,e,e2,c⟩|⟨s',e,c⟩
   .refine ⟨?_,ps,s,(W.ends a e).symm,W.here,.inl ⟨e,x,e2,U.outs c⟩⟩
    rw[cF,nU (aFD a) (aQZ M S W.here a f e),<-W.ends a e];rfl
   .have:=ih (ps++[s]) s' (some (.d (prD s'))) (W.next M S a e) (U.next a c)
    rw[cF]at this ⊢
    rw[iL (aFD a) (aUL M S W.here a f e)]
    exact this
theorem aCX{z:Str}(M:Mach rs sg)(S:aK sg z.cps.toList):i8 [.d (aD rs),.d (.str z)]=.ok (.d (.list ((lT rs z.cps.toList).map prD)))/\∃ ps' s',lT rs z.cps.toList=ps'++[s']/\j8 rs z.cps.toList s':=by
 have h:=aD3 M S (sM rs z.cps.toList) [] (0,0) none (Way.start M) Und2.start
 refine⟨?_,h.2⟩
 unfold i8
 rw[qF]
 simp only[mS,cF,aCQ,aE5,vG,aE4,l5,tF,R.bind_ok,A7,CS,Nat.reduceAdd,Nat.reduceLeDiff,DJ,AU,BS,CY,CC,replicate,B6,CM,aCS]
 have e:=h.1
 rw[cF]at e
 simp only[stρ,BS,CC,been,prD]at e
 rw[e];rfl
def bO(rs:L9 Rw)(z:L9 Nat):Str:=(aS (cC rs z) (0,0)).getD "ever"
theorem aCY{z:Str}(M:Mach rs sg)(S:aK sg z.cps.toList):g8 [.d (aD rs),.d (.str z)]=.ok (.d (.str (bO rs z.cps.toList))):=by
 obtain⟨h,ps,s,e,V,q⟩:=aCX M S
 have f:=aCW M S V
 rw[e,BE,AU,BS]at h
 have hr:=rN V.2.2.1 V.2.2.2
 unfold g8 uH bO
 obtain⟨p,r⟩:=s
 rcases q with ⟨c,x,i,g⟩|⟨⟨s',c⟩,g⟩
 .rw[c]at f
  rw[g]
  have a:(if 0 < p then(rowAt rs r).r else(rowAt rs r).l)=.w x:=by
   unfold a5 at i
   ext
  simp only[prD]at f hr h
  by_cases b:0 < p
  .rw[AN b]at a
   simp[h,jE,prD,f,mX,hr,aO,b,a,Tn.d]
  .rw[AL b]at a
   simp[h,jE,prD,f,mX,hr,aO,b,a,Tn.d]
 .rw[c]at f
  rw[g]
  simp only[prD]at f hr h
  simp[h,jE,prD,f,mX]
theorem aCZ(x y:Str):PyData.eqv (.str x) (.str y)=(x == y):=by rw[PyData.eqv.eq_6]
end Mc
variable{z:L9 Nat}
namespace Mc
variable{rs:L9 Rw}
section
variable{S T O Q:Type}
structure Gates(st:S->Option (S⊕O))(sub:S->Option (S⊕Q))(ext:Q->T⊕O)(g:T->S)(ent:T->S⊕O)(Dom:S->Prop)(TV:T->Prop):Prop where
 step:∀ s,Dom s->(∃ s',sub s=some (.inl s')/\st s=some (.inl s')/\Dom s')\/(∃ e t,sub s=some (.inr e)/\ext e=.inl t/\st s=some (.inl (g t))/\TV t)\/∃ e o,sub s=some (.inr e)/\ext e=.inr o/\st s=some (.inr o)
 gate:∀ t,TV t->(∃ s,ent t=.inl s/\st (g t)=some (.inl s)/\Dom s)\/∃ o,ent t=.inr o/\st (g t)=some (.inr o)
def gst(sub:S->O9 (S⊕Q))(ext:Q->T⊕O)(ent:T->S⊕O)(ev:O)(t:T):O9 (T⊕O):=match ent t with
 | .inr o=>some (.inr o)
 | .inl s=>match aS sub s with
  | none=>some (.inr ev)
  | some e=>some (ext e)
variable{st:S->O9 (S⊕O)}{sub:S->O9 (S⊕Q)}{ext:Q->T⊕O}{g:T->S}{ent:T->S⊕O}{Dom:S->Prop}{TV:T->Prop}
theorem gR{st:S->O9 (S⊕O)}{s:S}{o:O}{n:Nat}(h:Ex st n s o):aS st s=some o:=((nF st s) o).mpr ⟨n,h⟩
theorem dL{st:S->O9 (S⊕O)}{s:S}{o:O}(h:aS st s=some o):∃ n,Ex st n s o:=((nF st s) o).mp h
theorem Gates.in1(G:Gates st sub ext g ent Dom TV){s:S}{e:Q}(d:Dom s)(h:Ex sub k s e):(∀ t,ext e=.inl t->Rc st (k+1) s (g t)/\TV t)/\∀ o,ext e=.inr o->Ex st k s o:=by
 induction h with
 | out h=>
  rcases G.step _ d with ⟨s',a,_⟩|⟨i,t,a,b,c,j⟩|⟨i,o,a,b,c⟩
  .grind
  .rw[h]at a;cases a
   exact⟨λf z=>by rw[b]at z;cases z;exact⟨.cons c .nil,j⟩,λo z=>by rw[b]at z;cases z⟩
  .rw[h]at a;cases a
   exact⟨λf z=>(by rw[b]at z;cases z),λo' z=>by rw[b]at z;cases z;exact .out c⟩
 | go h t ih=>
  rcases G.step _ d with ⟨s',a,b,c⟩|⟨i,t,a,b,c,j⟩|⟨i,o,a,b,c⟩
  .rw[h]at a;cases a
   obtain⟨i1,i2⟩:=ih c
   exact⟨λf z=>⟨.cons b (i1 f z).1,(i1 f z).2⟩,λo z=>.go b (i2 o z)⟩
  .grind
  .grind
theorem Gates.in2(G:Gates st sub ext g ent Dom TV){n:Nat}{s:S}{o:O}(d:Dom s)(h:Ex st n s o):∃ k e,Ex sub k s e/\((∃ t n',ext e=.inl t/\TV t/\n' < n/\Ex st n' (g t) o)\/ext e=.inr o):=by
 induction h with
 | out h=>
  rcases G.step _ d with ⟨s',a,b,_⟩|⟨f,t,a,b,c,i⟩|⟨f,o',a,b,c⟩
  .grind
  .grind
  .rw[h]at c;cases c
   exact⟨0,f,.out a,.inr b⟩
 | go h t ih=>
  rcases G.step _ d with ⟨s',a,b,c⟩|⟨f,j,a,b,c,i⟩|⟨f,o',a,b,c⟩
  .rw[h]at b;cases b
   obtain⟨k,e,q,r⟩:=ih c
   refine⟨k+1,e,.go a q,r.imp ?_ id⟩
   ext
  .rw[h]at c;cases c
   exact⟨0,f,.out a,.inl ⟨j,_,b,i,by ext,t⟩⟩
  .grind
theorem Gates.fwd(G:Gates st sub ext g ent Dom TV)(ev:O):∀ (n:Nat) {t:T} {o:O},TV t->Ex st n (g t) o->∃ m,Ex (gst sub ext ent ev) m t o:=by
 intro n
 induction n using Nat.strongRecOn with
 | ind n ih=>
  intro t o p h
  rcases G.gate t p with ⟨s,a,b,c⟩|⟨o',a,b⟩
  .cases h with
   | out h=>rw[b]at h;cases h
   | go h q=>
    rw[b]at h;cases h
    obtain⟨k,e,x,y⟩:=G.in2 c q
    have hr:=gR x
    rcases y with ⟨u,l,j,i,r,d⟩|y
    .obtain ⟨m,f⟩:=ih l (by ext) i d
     exact⟨m+1,.go (by unfold gst;rw[a];simp only;rw[hr];simp only;rw[j]) f⟩
    .exact ⟨0,.out (by unfold gst;rw[a];simp only;rw[hr];simp only;rw[y])⟩
  .cases h with
   | out h=>rw[b]at h;cases h;exact⟨0,.out (by unfold gst;rw[a])⟩
   | go h q=>rw[b]at h;cases h
theorem Gates.bwd(G:Gates st sub ext g ent Dom TV){ev:O}{t:T}{o:O}(h:Ex (gst sub ext ent ev) m t o)(f:TV t):o=ev\/∃ n,Ex st n (g t) o:=by
 induction h with
 | @out t o h=>
  rcases G.gate t f with ⟨s,a,b,c⟩|⟨o',a,b⟩
  .unfold gst at h
   rw[a]at h
   simp only at h
   cases e:aS sub s with
   | none=>rw[e]at h;cases h;exact .inl rfl
   | some x=>
    rw[e]at h
    have h':ext x=.inr o:=BL h
    obtain⟨k,d⟩:=dL e
    exact .inr ⟨k+1,.go b ((G.in1 c d).2 o h')⟩
  .unfold gst at h
   rw[a]at h
   cases h
   exact .inr ⟨0,.out b⟩
 | @go t t' o n h q ih=>
  rcases G.gate t f with ⟨s,a,b,c⟩|⟨o',a,b⟩
  .unfold gst at h
   rw[a]at h
   simp only at h
   cases e:aS sub s with
   | none=>rw[e]at h;cases h
   | some x=>
    rw[e]at h
    have h':ext x=.inl t':=BL h
    obtain⟨k,d⟩:=dL e
    obtain⟨r1,r2⟩:=(G.in1 c d).1 t' h'
    rcases ih r2 with z|⟨i,z⟩
    · exact .inl z
    · exact .inr ⟨i + (k + 1) + 1, .go b (r1.to z)⟩
  .unfold gst at h
   rw[a]at h
   cases h
theorem Gates.eq(G:Gates st sub ext g ent Dom TV)(ev:O){t:T}(b:TV t):(aS st (g t)).getD ev=(aS (gst sub ext ent ev) t).getD ev:=by
 cases e:aS st (g t)with
 | some o=>
  obtain⟨n,h⟩:=dL e
  obtain⟨m,a⟩:=G.fwd ev n b h
  rw[gR a]
 | none=>
  cases e2:aS (gst sub ext ent ev) t with
  | none=>rfl
  | some o=>
   obtain⟨m,a⟩:=dL e2
   rcases G.bwd a b with z|⟨n,z⟩
   · rw [z]; rfl
   · rw [gR z]at e; cases e
theorem Gates.inn(G:Gates st sub ext g ent Dom TV)(ev:O){s:S}(d:Dom s):(aS st s).getD ev=match aS sub s with
  | none=>ev
  | some e=>match ext e with
   | .inr o=>o
   | .inl t=>(aS (gst sub ext ent ev) t).getD ev:=by
 cases e:aS sub s with
 | none=>
  cases e2:aS st s with
  | none=>rfl
  | some o=>
   obtain⟨n,h⟩:=dL e2
   obtain⟨k,x,a,_⟩:=G.in2 d h
   rw[gR a]at e;cases e
 | some x=>
  obtain⟨k,b⟩:=dL e
  obtain⟨i1,i2⟩:=G.in1 d b
  simp only
  cases q:ext x with
  | inr o=>simp only;rw[gR (i2 o q)];rfl
  | inl t=>
   simp only
   obtain⟨r1,r2⟩:=i1 t q
   rw[<-G.eq ev r2]
   cases e2:aS st (g t)with
   | some o=>
    obtain⟨n,h⟩:=dL e2
    rw[gR (r1.to h)]
   | none=>
    cases c:aS st s with
    | none=>rfl
    | some o=>
     obtain⟨n,h⟩:=dL c
     obtain⟨f,_,z⟩:=r1.ex h
     rw[gR z]at e2;cases e2
end
theorem kR{T O P:Type}{st:S->O9 (S⊕O)}{st2:T->O9 (T⊕P)}{e:S->T}{k:O->P}{ev:P}{Dom:S->Prop}
  (h:∀ s,Dom s->(∃ s',st s=some (.inl s')/\st2 (e s)=some (.inl (e s'))/\Dom s')\/∃ o,st s=some (.inr o)/\(aS st2 (e s)).getD ev=k o) {s:S} (d:Dom s) :
  (aS st2 (e s)).getD ev=((aS st s).map k).getD ev:=by
 cases hr:aS st s with
 | some o=>
  obtain⟨n,c⟩:=dL hr
  clear hr
  induction c with
  | out q=>
   rcases h _ d with ⟨s',a,_⟩|⟨o',a,b⟩
   .grind
   .rw[a]at q;cases q;exact b
  | go q t ih=>
   rcases h _ d with ⟨s',a,b,f⟩|⟨o',a,b⟩
   .rw[a]at q;cases q;rw[o6 b];exact ih f
   .grind
 | none=>
  cases h2:aS st2 (e s)with
  | none=>rfl
  | some p=>
   obtain⟨n,c⟩:=dL h2
   clear h2
   generalize g:e s=t at c
   exfalso
   induction c generalizing s with
   | out q=>
    subst g
    rcases h _ d with ⟨s',a,b,_⟩|⟨o',a,b⟩
    · ext
    · rw [cG a]at hr; cases hr
   | go q t ih=>
    subst g
    rcases h _ d with ⟨s',a,b,f⟩|⟨o',a,b⟩
    · rw [b]at q; cases q; rw [o6 a]at hr; exact ih f hr rfl
    · rw [cG a]at hr; cases hr
def bW:Str:="ever"
def bZ(rs:L9 Rw)(z:L9 Nat)(s:Int×Int):O9 ((Int×Int)⊕Tn):=
 match (a5 rs z s).1 with
 | .w x=>some (.inr (.w x))
 | .n q=>if s.1+(a5 rs z s).2<=(z.length:Int)then some (.inl (s.1+(a5 rs z s).2,q))else some (.inr (.n q))
def n9(rs:L9 Rw)(z:L9 Nat)(s:Int×Int):Prop:=0<=s.1/\s.1<=(z.length:Int)/\0<=s.2/\s.2 < (rs.length:Int)
def aQ(rs:L9 Rw)(q:Int):Prop:=0<=q/\q < (rs.length:Int)
theorem n9.valid(h:n9 rs z s):hX rs z s:=⟨h.1,by have:=h.2.1;ext,h.2.2⟩
def bA(rs:L9 Rw)(z:L9 Nat)(s:Int×Int):Tn:=(aS (bZ rs z) s).getD (.w bW)
def aW(rs:L9 Rw)(z:L9 Nat)(q:Int):Tn:=bA rs z ((z.length:Int),q)
theorem aJ4{rs:L9 Rw}{c:Nat}(h0:0<=s.1)(h:s.1<=(z.length:Int)):a5 rs (z++[c]) s=a5 rs z s:=by
 unfold a5
 ext
theorem beg_cell(M:Mach rs sg)(S:aK sg z)(V:n9 rs z s):(∃ x,(a5 rs z s).1=.w x/\s.1=0)\/∃ q,(a5 rs z s).1=.n q/\aQ rs q/\0<=s.1+(a5 rs z s).2/\s.1+(a5 rs z s).2<=(z.length:Int)+1:=by
 cases e:(a5 rs z s).1 with
 | w x=>
  refine .inl ⟨x,rfl,?_⟩
  by_cases b:s.1=0
  .exact b
  .unfold a5 at e
   rw[AL b,AL (by have:=V.2.1;ext)]at e
   cases e
 | n q=>
  have a:hX rs z (s.1+(a5 rs z s).2,q):=o5 M S V.valid (by unfold dP;rw[e])
  exact .inr ⟨q,rfl,⟨a.2.2.1,a.2.2.2⟩,a.1,a.2.1⟩
def aUM(e:Tn):Int⊕Tn:=match e with
 | .n q=>.inl q
 | .w x=>.inr (.w x)
def aUN(e:Tn):Int⊕Str:=match e with
 | .n q=>.inl q
 | .w x=>.inr x
def aC0(rs:L9 Rw)(z:L9 Nat)(c:Nat)(q:Int):(Int×Int)⊕Tn:=
 if ((rowAt rs q).c.getD (c - 97) (0,0)).2=1 then .inr (.n ((rowAt rs q).c.getD (c - 97) (0,0)).1)else .inl ((z.length:Int),((rowAt rs q).c.getD (c - 97) (0,0)).1)
theorem aAD:a5 rs (z++[c]) ((z.length:Int)+1,q)=(.n ((rowAt rs q).c.getD (c - 97) (0,0)).1,((rowAt rs q).c.getD (c - 97) (0,0)).2):=by
 unfold a5
 have e:(z++[c]).getD (((z.length:Int)+1).toNat - 1) 97=c:=by
  rw[show((z.length:Int)+1).toNat - 1=z.length by ext,AG,BX (AK _)];simp
 rw[AL (show ¬ (z.length:Int)+1=0 by ext),AL (by simp only[AY,BJ];ext)]
 simp only
 rw[e]
theorem aAE(M:Mach rs sg)(S:aK sg z)(j:aY sg c=true):Gates (bZ rs (z++[c])) (bZ rs z) aUM (λq=>((z.length:Int)+1,q)) (aC0 rs z c) (n9 rs z) (aQ rs) where
 step:=λs V=>by
  have g:=aJ4 (rs:=rs) (c:=c) V.1 V.2.1
  have b:((z++[c]).length:Int)=(z.length:Int)+1:=by rw[AY,BJ];ext
  rcases beg_cell M S V with ⟨x,e,l⟩|⟨q,e,d,h1,h2⟩
  .refine .inr (.inr ⟨.w x,.w x,?_,rfl,?_⟩)
   .unfold bZ;rw[e]
   .unfold bZ;rw[g,e]
  .by_cases f:s.1+(a5 rs z s).2<=(z.length:Int)
   .refine .inl ⟨(s.1+(a5 rs z s).2,q),?_,?_,h1,f,d⟩
    · unfold bZ; rw [e]; simp only; rw [AN f]
    · unfold bZ; rw [g, e]; simp only; rw [AN (by rw [b]; ext)]
   .refine .inr (.inl ⟨.n q,q,?_,rfl,?_,d⟩)
    · unfold bZ; rw [e]; simp only; rw [AL f]
    · unfold bZ; rw [g, e]; simp only; rw [AN (by rw [b]; ext), show s.1 + (a5 rs z s).2 = (z.length : Int) + 1 by ext]
 gate:=λq d=>by
  have b:((z++[c]).length:Int)=(z.length:Int)+1:=by rw[AY,BJ];ext
  have hr:=AH (bL d.1 d.2)
  obtain⟨_,i⟩:=l9 M hr (show c - 97 < sg by have:=A5 j;ext)
  obtain⟨k,h,a⟩:=i
  rcases a with a|a
  .refine .inr ⟨.n _,by unfold aC0;rw[AN a],?_⟩
   unfold bZ;rw[aAD];simp only;rw[AL (by rw[b,a];ext)]
  .refine .inl ⟨((z.length:Int),((rowAt rs q).c.getD (c - 97) (0,0)).1),by unfold aC0;rw[AL (by rw[a];decide)],?_,?_⟩
   .unfold bZ;rw[aAD];simp only;rw[AN (by rw[b,a];ext),a,show(z.length:Int)+1 + -1=z.length by ext]
   .exact ⟨by show(0:Int)<=z.length;ext,BV _,k,h⟩
def cN(rs:L9 Rw)(bk:Int->Tn)(c:Nat)(q:Int):O9 (Int⊕Tn):=
 if ((rowAt rs q).c.getD (c - 97) (0,0)).2=1 then some (.inr (.n ((rowAt rs q).c.getD (c - 97) (0,0)).1))else match bk ((rowAt rs q).c.getD (c - 97) (0,0)).1 with
  | .n r=>some (.inl r)
  | .w x=>some (.inr (.w x))
def onR(rs:L9 Rw)(bk:Int->Tn)(c:Nat)(t:Tn):Tn:=match t with
 | .w x=>.w x
 | .n q=>(aS (cN rs bk c) q).getD (.w bW)
theorem aJ5:gst (bZ rs z) aUM (aC0 rs z c) (.w bW)=cN rs (aW rs z) c:=by
 funext q
 unfold gst aC0 cN aW bA
 by_cases h:((rowAt rs q).c.getD (c - 97) (0,0)).2=1
 .rw[AN h,AN h]
 .rw[AL h,AL h]
  simp only
  cases aS (bZ rs z) ((z.length:Int),((rowAt rs q).c.getD (c - 97) (0,0)).1)with
  | none=>rfl
  | some e=>cases e<;>rfl
theorem eZ(M:Mach rs sg)(S:aK sg z)(b:aY sg c=true)(a:aQ rs q):aW rs (z++[c]) q=onR rs (aW rs z) c (.n q):=by
 have h:=(aAE M S b).eq (.w bW) a
 rw[aJ5]at h
 unfold aW bA onR
 rw[show((z++[c]).length:Int)=(z.length:Int)+1 by rw[AY,BJ];ext]
 exact h
theorem jF(M:Mach rs sg)(z:L9 Nat):n9 rs z (0,0):=⟨BV _,by show(0:Int)<=z.length;ext,BV _,by have:=M.len;show(0:Int) < rs.length;ext⟩
theorem iN(M:Mach rs sg)(S:aK sg z)(a:aY sg c=true):bA rs (z++[c]) (0,0)=onR rs (aW rs z) c (bA rs z (0,0)):=by
 have h:=(aAE M S a).inn (.w bW) (jF M z)
 rw[aJ5]at h
 unfold bA
 rw[h]
 cases aS (bZ rs z) (0,0)with
 | none=>rfl
 | some e=>cases e<;>rfl
def bN(rs:L9 Rw)(bk:Int->Tn)(q:Int):O9 (Int⊕Str):=match (rowAt rs q).r with
 | .w x=>some (.inr x)
 | .n q'=>match bk q' with
  | .n r=>some (.inl r)
  | .w x=>some (.inr x)
def wbR(rs:L9 Rw)(bk:Int->Tn)(t:Tn):Str:=match t with
 | .w x=>x
 | .n q=>(aS (bN rs bk) q).getD bW
def aC1(rs:L9 Rw)(z:L9 Nat)(q:Int):(Int×Int)⊕Str:=match (rowAt rs q).r with
 | .w x=>.inr x
 | .n q'=>.inl ((z.length:Int),q')
theorem aAF:a5 rs z ((z.length:Int)+1,q)=((rowAt rs q).r,-1):=by
 unfold a5
 ext
theorem aG8(M:Mach rs sg)(S:aK sg z):Gates (cC rs z) (bZ rs z) aUN (λq=>((z.length:Int)+1,q)) (aC1 rs z) (n9 rs z) (aQ rs) where
 step:=λs V=>by
  rcases beg_cell M S V with ⟨x,e,d⟩|⟨q,e,a,h1,h2⟩
  .refine .inr (.inr ⟨.w x,x,?_,rfl,?_⟩)
   .unfold bZ;rw[e]
   .unfold cC;rw[e]
  .by_cases c:s.1+(a5 rs z s).2<=(z.length:Int)
   .refine .inl ⟨(s.1+(a5 rs z s).2,q),?_,?_,h1,c,a⟩
    · unfold bZ; rw [e]; simp only; rw [AN c]
    · unfold cC; rw [e]
   .refine .inr (.inl ⟨.n q,q,?_,rfl,?_,a⟩)
    · unfold bZ; rw [e]; simp only; rw [AL c]
    · unfold cC; rw [e]; simp only; rw [show s.1 + (a5 rs z s).2 = (z.length : Int) + 1 by ext]
 gate:=λq a=>by
  have hr:=AH (bL a.1 a.2)
  have b:=(M.row _ hr).1.2.1
  cases e:(rowAt rs q).r with
  | w x=>exact .inr ⟨x,by unfold aC1;rw[e],by unfold cC;rw[aAF];simp only;rw[e]⟩
  | n q'=>
   rw[e]at b
   refine .inl ⟨((z.length:Int),q'),by unfold aC1;rw[e],?_,⟨by show(0:Int)<=z.length;ext,BV _,b.1,b.2⟩⟩
   unfold cC;rw[aAF];simp only;rw[e];simp only;rw[show(z.length:Int)+1 + -1=z.length by ext]
theorem aUO:gst (bZ rs z) aUN (aC1 rs z) bW=bN rs (aW rs z):=by
 funext q
 unfold gst aC1 bN aW bA
 cases(rowAt rs q).r with
 | w x=>rfl
 | n q'=>
  simp only
  cases aS (bZ rs z) ((z.length:Int),q')with
  | none=>rfl
  | some e=>cases e<;>rfl
theorem aC2(M:Mach rs sg)(S:aK sg z):(aS (cC rs z) (0,0)).getD bW=wbR rs (aW rs z) (bA rs z (0,0)):=by
 have h:=(aG8 M S).inn bW (jF M z)
 rw[aUO]at h
 rw[h]
 unfold bA wbR
 cases aS (bZ rs z) (0,0)with
 | none=>rfl
 | some e=>cases e<;>rfl
theorem beg_nil:bA rs [] (0,q)=(rowAt rs q).l:=by
 have a:a5 rs [] (0,q)=((rowAt rs q).l,1):=by unfold a5;rw[AN rfl]
 unfold bA
 cases e:(rowAt rs q).l with
 | w x=>rw[cG (o:=.w x) (by unfold bZ;rw[a,e])];rfl
 | n q'=>
  rw[cG (o:=.n q') (by unfold bZ;rw[a,e];simp only;rw[AL (by decide)])];rfl
end Mc
namespace Mc
open Fl
variable{rs:L9 Rw}
def hU(f:Tn)(bk:L9 Tn):Dz:=.tuple [f.d,.tuple (bk.map Tn.d)]
def bkF(bk:L9 Tn)(q:Int):Tn:=bk.getD q.toNat (.w bW)
def tnV(m:Nat):Tn->Prop
 | .n i=>0<=i/\i < (m:Int)
 | .w _=>True
theorem iS(a b:Int)(h:PyData.int a=PyData.int b):a=b:=by injection h
theorem iT(ps:L9 Int)(q:Int):bH (.int q) ((been PyData.int ps).map (·.1))=true:=by
 unfold bH
 rw[rK,CU]
 refine .inr ?_
 rw[show jY (.int q)=true from rfl,IJ,BO]
 intro x a
 obtain⟨i,_,rfl⟩:=AT.mp a
 rfl
theorem yP(i:Int):gH [.d (.int i)]=.ok (.d (.bool false)):=by
 unfold gH rD
 simp[rM]
theorem yQ(x:Str):gH [.d (.str x)]=.ok (.d (.bool true)):=by
 unfold gH rD
 simp[oS]
def eP(rs:L9 Rw)(k:Nat):Dz:=.list (rs.map λr=>cellD (ck k r))
theorem aC3{k:Nat}(h0:0<=q)(h1:q < (rs.length:Int)):dIx (eP rs k) (.int q)=.ok (cellD (ck k (rowAt rs q))):=j6 (oQ h0 (by rw[AC,bL h0 h1];rfl))
theorem aOH{bk:L9 Tn}(h0:0<=q)(h1:q < (bk.length:Int)):dIx (.tuple (bk.map Tn.d)) (.int q)=.ok (bkF bk q).d:=by
 refine j5 (oQ h0 ?_)
 have a:q.toNat < bk.length:=by ext
 rw[AC,AI a]
 unfold bkF
 simp_all
theorem tK{bk:L9 Tn}(a:∀ t∈bk,tnV m t)(q:Int):tnV m (bkF bk q):=by
 unfold bkF
 rw[AG]
 cases e:bk[q.toNat]? with
 | none=>exact trivial
 | some t=>exact a t (AH e)
def oρ(rs:L9 Rw)(bk:L9 Tn)(k:Nat)(t:Tn)(ps:L9 Int)(u:O9 A):Sg:=[some (.d (.tuple (bk.map Tn.d))),some (.d (eP rs k)),some (.d t.d),some (.m (been PyData.int ps)),u]
theorem aUP{bk:L9 Tn}{x:Str}{ps:L9 Int}{u:O9 A}:oT (oρ rs bk k (.w x) ps u)=.ok false:=by
 simp[oT,oρ,Tn.d,yQ]
theorem aMS{bk:L9 Tn}{ps:L9 Int}{u:O9 A}:oT (oρ rs bk k (.n q) ps u)=.ok true:=by
 simp[oT,oρ,Tn.d,yP]
theorem aUQ{bk:L9 Tn}{ps:L9 Int}{u:O9 A}(h:q∈ps):oB (oρ rs bk k (.n q) ps u)=.ok (.rt (.d (.str "ever"))):=by
 have h1:=iT ps q
 have h2:=(pR iS).mpr h
 simp[oB,oρ,Tn.d,h1,h2]
theorem aUR{bk:L9 Tn}{ps:L9 Int}{u:O9 A}(h:q∉ps)(a:aQ rs q)(b:ps.length<=16777216)(e:(ck k (rowAt rs q)).2=1):oB (oρ rs bk k (.n q) ps u)=.ok (.rt (.d (.int (ck k (rowAt rs q)).1))):=by
 have h1:=iT ps q
 have h2:=jQ iS h
 have c:(been PyData.int ps).length<=16777216:=by rw[kO];exact b
 have hi:=aC3 (k:=k) a.1 a.2
 simp[oB,oρ,Tn.d,h1,h2,c,hi,cellD,eO,e]
theorem aWT{bk:L9 Tn}{ps:L9 Int}{u:O9 A}(h:q∉ps)(a:aQ rs q)(g:ps.length<=16777216)(e:(ck k (rowAt rs q)).2≠1)(h0:0<=(ck k (rowAt rs q)).1)(b:(ck k (rowAt rs q)).1 < (bk.length:Int)):oB (oρ rs bk k (.n q) ps u)=.ok (.nx (oρ rs bk k (bkF bk (ck k (rowAt rs q)).1) (ps++[q]) (some (.d (cellD (ck k (rowAt rs q))))))):=by
 have h1:=iT ps q
 have h2:=jQ iS h
 have f:=mT iS h
 have c:(been PyData.int ps).length<=16777216:=by rw[kO];exact g
 have hi:=aC3 (k:=k) a.1 a.2
 have i:=aOH h0 b
 simp[oB,oρ,Tn.d,h1,h2,f,c,hi,cellD,eO,e,i]
theorem tL{l:L9 Int}(h:l.Nodup)(c:∀ q∈l,0<=q/\q < (m:Int)):l.length<=m:=
 nG (λq:Int=>q.toNat) m l h (λq d=>by have:=c q d;show q.toNat < m;ext) (λa f b g e=>by
  have h1:=c a f
  have h2:=c b g
  have i:a.toNat=b.toNat:=e
  ext)
theorem c9{bk:Int->Tn}:cN rs bk c q=if (ck (c - 97) (rowAt rs q)).2=1 then some (.inr (.n (ck (c - 97) (rowAt rs q)).1))else match bk (ck (c - 97) (rowAt rs q)).1 with
 | .n r=>some (.inl r)
 | .w x=>some (.inr (.w x)):=id rfl
theorem aQ0{bk:L9 Tn}(M:Mach rs sg)(m:aY sg c=true)(hb:bk.length=rs.length)(k:∀ t∈bk,tnV rs.length t){h:Int}:∀ (n:Nat) (ps:L9 Int) (q:Int) (u:O9 A),Und2 (cN rs (bkF bk) c) h ps q->(∀ p∈ps,aQ rs p)->aQ rs q->rs.length+1<=ps.length+n->
  aF (bD oT oB) (aN (vV 2)) (oρ rs bk (c - 97) (.n q) ps u)=.ok (.rt (.d ((aS (cN rs (bkF bk) c) h).getD (.w bW)).d)):=by
 intro n
 induction n with
 | zero=>
  intro ps q u U pv a o
  have:=tL U.nd pv
  ext
 | succ n ih=>
  intro ps q u U pv a o
  rw[cF]
  by_cases b:q∈ps
  .rw[nU aMS (aUQ b),U.met b];rfl
  .have s:ps.length<=rs.length:=tL U.nd pv
   have f:ps.length<=16777216:=by have:=M.len2;ext
   have hr:=AH (bL a.1 a.2)
   obtain⟨_,g⟩:=l9 M hr (show c - 97 < sg by have:=A5 m;ext)
   have g:mH rs.length (ck (c - 97) (rowAt rs q)):=g
   obtain⟨l,j,v⟩:=g
   by_cases h1:(ck (c - 97) (rowAt rs q)).2=1
   .have st:cN rs (bkF bk) c q=some (.inr (.n (ck (c - 97) (rowAt rs q)).1)):=by unfold cN;exact AN h1
    rw[nU aMS (aUR b a f h1),U.outs st];rfl
   .rw[iL aMS (aWT b a f h1 l (by rw[hb];exact j))]
    have i:=tK k (ck (c - 97) (rowAt rs q)).1
    cases e:bkF bk (ck (c - 97) (rowAt rs q)).1 with
    | w x=>
     have st:cN rs (bkF bk) c q=some (.inr (.w x)):=by rw[c9,AL h1,e]
     rw[dS aUP,U.outs st]
     simp[oρ,Tn.d]
    | n r=>
     rw[e]at i
     have st:cN rs (bkF bk) c q=some (.inl r):=by rw[c9,AL h1,e]
     have:=ih (ps++[q]) r (some (.d (cellD (ck (c - 97) (rowAt rs q))))) (U.next b st) (λp f=>by
      rcases BD.mp f with z|z
      · exact pv p z
      · rw [AM.mp z]; exact a) i (by rw [AY, BJ]; ext)
     rw[cF]at this
     exact this
theorem aUS{bk:L9 Tn}(M:Mach rs sg)(g:aY sg c=true)(hb:bk.length=rs.length)(f:∀ t∈bk,tnV rs.length t){t:Tn}(e:tnV rs.length t):jO [.d (.tuple (bk.map Tn.d)),.d (eP rs (c - 97)),.d t.d]=.ok (.d (onR rs (bkF bk) c t).d):=by
 have a:aF (bD oT oB) (aN (vV 2)) (oρ rs bk (c - 97) t [] none)=.ok (.rt (.d (onR rs (bkF bk) c t).d)):=by
  cases t with
  | w x=>
   rw[cF,dS aUP]
   simp[oρ,Tn.d,onR]
  | n q=>exact aQ0 M g hb f (rs.length+1) [] q none Und2.start (λp b=>by simp at b) e (by simp)
 unfold jO
 rw[aAB]
 simp only[mS,cF,aCS,R.bind_ok,A7,CS,Nat.reduceAdd,AU,BS,CY,CC,replicate,B6,CM]
 rw[cF]at a
 simp only[oρ,been,BS]at a
 rw[a];rfl
theorem aWU{bk:L9 Tn}(M:Mach rs sg)(b:aY sg c=true)(hb:bk.length=rs.length)(a:∀ t∈bk,tnV rs.length t){t:Tn}(k:tnV rs.length t) :
  fJ [.d (hU t bk),.d (eP rs (c - 97))]=.ok (.d (hU (onR rs (bkF bk) c t) ((range rs.length).map λq:Nat=>onR rs (bkF bk) c (.n (q:Int))))):=by
 have h:=bR (fs:=stN 0) (fe:=eA (aG 3 jO (aA (vD (e2 dIx (rV 1) (eC (.int 1)))) (aA (vV 2) (aA (vV 0) aB))))) (Y0:=[none,some (.d (hU t bk)),some (.d (eP rs (c - 97)))]) (d:=λi:Nat=>.int (i:Int)) (g:=λi:Nat=>(onR rs (bkF bk) c (.n (i:Int))).d) (xs:=range rs.length) λi hi=>by
  refine⟨_,rfl,?_⟩
  have:=aUS M b hb a (t:=.n (i:Int)) ⟨by ext,by have:=BC.mp hi;ext⟩
  have e:(Tn.n (i:Int)).d=.int i:=rfl
  rw[e]at this
  simp[hU,this]
 have hr:=iM (n:=rs.length) (by have:=M.len2;ext)
 have j:dLen (eP rs (c - 97))=.ok (.int rs.length):=by unfold eP;rw[i3,AB]
 have h1:=aUS M b hb a k
 have f:dIx (hU t bk) (.int 0)=.ok t.d:=rG _ _
 have h2:dIx (hU t bk) (.int 1)=.ok (.tuple (bk.map Tn.d)):=aJX _ _ _
 unfold fJ aCN
 simp[f,h2,h1,j,hr,cX,h]
 unfold hU
 rw[AZ];rfl
def aV(rs:L9 Rw)(z:L9 Nat):Dz:=hU (bA rs z (0,0)) ((range rs.length).map λq:Nat=>aW rs z (q:Int))
theorem c6(M:Mach rs sg)(S:aK sg z)(V:n9 rs z s):tnV rs.length (bA rs z s):=by
 unfold bA
 cases e:aS (bZ rs z) s with
 | none=>exact trivial
 | some t=>
  obtain⟨n,h⟩:=dL e
  show tnV rs.length t
  clear e
  induction h with
  | @out s o h=>
   unfold bZ at h
   rcases beg_cell M S V with ⟨x,e,b⟩|⟨q,e,a,h1,h2⟩
   .rw[e]at h;cases h;exact trivial
   .rw[e]at h
    simp only at h
    split at h
    · cases h
    · cases h; exact a
  | @go s s' o n h t ih=>
   refine ih ?_
   unfold bZ at h
   rcases beg_cell M S V with ⟨x,e,b⟩|⟨q,e,a,h1,h2⟩
   .rw[e]at h;cases h
   .rw[e]at h
    simp only at h
    split at h
    · rename_i c; cases h; exact⟨h1, c, a⟩
    · cases h
theorem xA{q:Nat}(h:q < rs.length):n9 rs z ((z.length:Int),(q:Int)):=⟨by show(0:Int)<=z.length;ext,BV _,by show(0:Int)<=q;ext,by show(q:Int) < rs.length;ext⟩
theorem yR(a:aQ rs q):bkF ((range rs.length).map λq:Nat=>aW rs z (q:Int)) q=aW rs z q:=by
 have b:q.toNat < rs.length:=by have:=a.1;have:=a.2;ext
 unfold bkF
 rw[AG,AC,CB b]
 show aW rs z ((q.toNat:Nat):Int)=_
 rw[show((q.toNat:Nat):Int)=q by have:=a.1;ext]
theorem aC4(M:Mach rs sg)(j:aY sg c=true){bk a:Int->Tn}(h:∀ q,aQ rs q->bk q=a q)(p:∀ q,aQ rs q->tnV rs.length (bk q)){t:Tn}(m:tnV rs.length t):onR rs bk c t=onR rs a c t:=by
 cases t with
 | w x=>rfl
 | n q=>
  have st:∀ q,aQ rs q->cN rs bk c q=cN rs a c q:=λq b=>by
   unfold cN
   have hr:=AH (bL b.1 b.2)
   obtain⟨_,f⟩:=l9 M hr (show c - 97 < sg by have:=A5 j;ext)
   rw[h _ ⟨f.1,f.2.1⟩]
  have nx:∀ q d,aQ rs q->cN rs bk c q=some (.inl d)->aQ rs d:=λq d b e=>by
   unfold cN at e
   have hr:=AH (bL b.1 b.2)
   obtain⟨_,f⟩:=l9 M hr (show c - 97 < sg by have:=A5 j;ext)
   have i:=p _ ⟨f.1,f.2.1⟩
   split at e
   .cases e
   .split at e
    · rename_i r l; cases e; rw [l]at i; exact i
    · cases e
  have g:=kR (st:=cN rs bk c) (st2:=cN rs a c) (e:=id) (k:=id) (ev:=.w bW) (Dom:=aQ rs) (λq b=>?_) (s:=q) m
  .show (aS (cN rs bk c) q).getD (.w bW)=(aS (cN rs a c) q).getD (.w bW)
   exact(g.trans (by rw[Option.map_id];rfl)).symm
  .have e:=(st q b).symm
   cases e2:cN rs bk c q with
   | none=>unfold cN at e2;split at e2<;>(try split at e2)<;>cases e2
   | some x=>
    rw[e2]at e
    cases x with
    | inl d=>exact .inl ⟨d,rfl,e,nx q d b e2⟩
    | inr o=>exact .inr ⟨o,rfl,by rw[cG (s:=id q) e];rfl⟩
theorem aC5(M:Mach rs sg)(S:aK sg z)(b:aY sg c=true):fJ [.d (aV rs z),.d (eP rs (c - 97))]=.ok (.d (aV rs (z++[c]))):=by
 have i:((range rs.length).map λq:Nat=>aW rs z (q:Int)).length=rs.length:=by simp
 have g:∀ t∈(range rs.length).map λq:Nat=>aW rs z (q:Int),tnV rs.length t:=λt j=>by
  obtain⟨q,e,rfl⟩:=AT.mp j
  exact c6 M S (xA (BC.mp e))
 have f:∀ q,aQ rs q->tnV rs.length (bkF ((range rs.length).map λq:Nat=>aW rs z (q:Int)) q):=λq a=>tK g q
 unfold aV
 rw[aWU M b i g (c6 M S (jF M z))]
 rw[aC4 M b (λq a=>yR a) f (c6 M S (jF M z)),iN M S b]
 have h:((range rs.length).map λq:Nat=>onR rs (bkF ((range rs.length).map λq:Nat=>aW rs z (q:Int))) c (.n (q:Int)))=(range rs.length).map λq:Nat=>aW rs (z++[c]) (q:Int):=?_
 .rw[h]
 refine A9 λq e=>?_
 have a:aQ rs (q:Int):=⟨by ext,by have:=BC.mp e;ext⟩
 rw[aC4 M b (λq a=>yR a) f (t:=.n (q:Int)) a,eZ M S b a]
theorem pT(M:Mach rs sg):aH (aD rs)=.ok (rs.map aO):=cR (by have:=M.len2;rw[AB];ext)
theorem aMT(rs:L9 Rw)(f:Rw->α):rs.map f=(range rs.length).map λq:Nat=>f (rowAt rs (q:Int)):=by
 apply List.ext_getElem
 .simp
 .intro i h1 h2
  have hi:i < rs.length:=by simpa using h1
  simp only[FM,List.getElem_range]
  congr 1
  unfold rowAt
  rw[AG,show((i:Int)).toNat=i by ext,AI hi];rfl
theorem aWV(M:Mach rs sg):eX [.d (aD rs)]=.ok (.d (aV rs [])):=by
 have h:=bR (fs:=stN 0) (fe:=e2 dIx (rV 0) (eC (.int 0))) (Y0:=[none]) (d:=aO) (g:=λr:Rw=>r.l.d) (xs:=rs) λr _=>⟨_,rfl,by simp[aO]⟩
 have e1:aV rs []=.tuple [(rowAt rs 0).l.d,.tuple (rs.map λr=>r.l.d)]:=by
  unfold aV hU
  rw[beg_nil,aMT rs,AZ]
  congr 4
  refine A9 λq _=>?_
  show(bA rs [] (((([]:L9 Nat).length:Nat):Int),(q:Int))).d=_
  rw[show((([]:L9 Nat).length:Nat):Int)=0 by rfl,beg_nil]
 obtain⟨r,t,a,_⟩:=M.cons
 have b:dIx (.tuple (rs.map λr=>r.l.d)) (.int 0)=.ok (rowAt rs 0).l.d:=by
  subst a
  exact rG _ _
 rw[e1]
 unfold eX nQ
 simp[pT M,cX,h,b]
theorem aUT(M:Mach rs sg)(Y0:Sg)(h:cX [none,some 0] Y0=[none,some (.d (aD rs))]) :
  compL (stN 0) dC (eA (aG 2 iR (aA (vV 1) (aA (vV 0) aB)))) (cX [none,some 0] Y0) ((range sg).map λi:Nat=>.int (i:Int))=.ok ((range sg).map (eP rs)):=by
 rw[h]
 refine bR λk a=>⟨_,rfl,?_⟩
 have:=aQV M (BC.mp a)
 simp[this]
 rfl
theorem aC6(i j:Int):dNe (.int i) (.int j)=.ok (.bool (!decide (i=j))):=by rw[rJ (eF i) (eF j),aJ0]
def fM(w:Str)(b:Tn):Tn->Tn
 | .w x=>if x=w then b else .w x
 | .n q=>.n q
def oA(w:Str)(b h:Tn)(r:Rw):Rw:=⟨fM w b r.l,r.c,fM w h r.r⟩
def dM(x:Str):Str:=if x="by" then "out" else if x="out" then "by" else x
def pU:Tn->Tn
 | .w x=>.w (dM x)
 | .n q=>.n q
def yS(r:Rw):Rw:=⟨pU r.l,r.c,pU r.r⟩
def fN(rs:L9 Rw):L9 Rw:=rs.map yS
theorem aAG  {t : Tn} (h : t.good n) : (pU t).good n := by
  cases t with
  | n q => exact h
  | w x => rcases h with rfl | rfl
           · exact .inr rfl
           · exact .inl rfl
theorem aMU(M:Mach rs sg):Mach (fN rs) sg where
 len:=by simpa[fN] using M.len
 len2:=by simpa[fN] using M.len2
 sg1:=M.sg1
 sg3:=M.sg3
 row:=λr hr=>by
  obtain⟨d,a,rfl⟩:=AT.mp hr
  obtain⟨⟨e,b,f⟩,c⟩:=M.row d a
  have:((fN rs).length:Int)=rs.length:=by simp[fN]
  rw[this]
  exact⟨⟨aAG e,aAG b,f⟩,c⟩
theorem aQ1(h0:0<=q)(h1:q < (rs.length:Int)):rowAt (fN rs) q=yS (rowAt rs q):=by
 have h:=bL h0 h1
 unfold rowAt at h ⊢
 rw[AG]
 unfold fN
 rw[AC,h];rfl
end Mc
variable{s:S9}
namespace Fl
@[simp] theorem aYL(i:Nat)(f:Sg->R (L9 (Dz×Dz)))(Y:Sg):aAS i f Y=(f Y).bind λa0=>(cI [] a0).bind λres=>.ok (.nx (Y.set i (some (.m res)))):=id rfl
@[simp] theorem aQ2(Y:Sg):aB7 Y=.ok []:=id rfl
@[simp] theorem aMV(f g:Sg->R Dz)(r:Sg->R (L9 (Dz×Dz)))(Y:Sg):pJ f g r Y=(f Y).bind λx=>(g Y).bind λy=>(r Y).bind λt=>.ok ((x,y)::t):=id rfl
end Fl
variable{x0:Dz}{gs:L9 Dz}
namespace Mc
open Fl
variable{rs:L9 Rw}
abbrev owD:L9 (Dz×Dz):=[(.str "by",.str "out"),(.str "out",.str "by")]
theorem aC7{n:Int}{t:Tn}(h:t.good n):(cM owD t.d).getD t.d=(pU t).d:=by
 cases t with
 | n q=>simp[cM,owD,Tn.d,pU]
 | w x=>
  have e1:(PyData.str "by"=PyData.str "out")=False:=by simp;decide
  have e2:(PyData.str "out"=PyData.str "by")=False:=by simp;decide
  rcases h with rfl|rfl
  .simp[cM,owD,Tn.d,pU,dM]
  .simp[cM,owD,Tn.d,pU,dM,e1]
   decide
theorem aUU(t:Tn):jY t.d=true:=by cases t<;>rfl
theorem aJ6{t:Tn}(h:t.good n):sS owD t.d t.d=.ok (pU t).d:=by
 unfold sS
 rw[AN (aUU t),aC7 h]
theorem aUV{r:Rw}(h:r.good n):gX [.d (aO r)]=.ok (.d (aO (yS r))):=by
 have b:=aJ6 h.1
 have a:=aJ6 h.2.1
 simp[gX,qE,aO,yS,b,a]
theorem aWW(M:Mach rs sg):nR [.d (aD rs)]=.ok (.d (aD (fN rs))):=by
 have h1:=bR (fs:=stN 0) (fe:=eA (aG 1 gX (aA (vV 0) aB))) (Y0:=[none]) (d:=aO) (g:=λr=>aO (yS r)) (xs:=rs) λr hr=>⟨_,rfl,by
  simp[aUV (M.row r hr).1]⟩
 have a:aH (aD rs)=.ok (rs.map aO):=cR (by have:=M.len2;rw[AB];ext)
 have hr:PyData.tuple (rs.map λr=>aO (yS r))=aD (fN rs):=by simp[aD,fN,Function.comp_def]
 simp[nR,aAC,a,cX,h1,hr]
def isW(w:Str):Tn->Bool
 | .w x=>decide (x=w)
 | .n _=>false
theorem aJ7{t:Tn}{w:Str}(hw:w="by"\/w="out")(h:t.good n):dEq t.d (.str w)=.ok (.bool (isW w t)):=by
 have a:shaped (.str w)=true:=by rcases hw with rfl|rfl<;>decide +kernel
 cases t with
 | n q=>
  show dEq (.int q) (.str w)=_
  rw[rH (eF q) a]
  simp[PyData.eqv,isW]
 | w x=>
  have b:shaped (.str x)=true:=by rcases h with rfl|rfl<;>decide +kernel
  show dEq (.str x) (.str w)=_
  rw[rH b a,aCZ]
  show R.ok (PyData.bool (x == w))=R.ok (PyData.bool (decide (x=w)))
  congr 2
theorem aMW(M:Mach rs sg)(S:aK sg z):bO rs z="by"\/bO rs z="out"\/bO rs z="ever":=by
 obtain⟨_,ps,⟨p,r⟩,_,V,q⟩:=aCX (z:=⟨z.toArray⟩) M S
 have d:=(M.row _ (AH (bL V.2.2.1 V.2.2.2))).1
 unfold bO
 rcases q with ⟨_,x,a,b⟩|⟨_,b⟩
 .have b:aS (cC rs z) (0,0)=some x:=b
  have:x="by"\/x="out":=by
   unfold a5 at a
   simp only at a
   by_cases c:p=0
   .rw[AN c]at a;have k:=d.1;rw[show(rowAt rs r).l=.w x from a]at k;exact k
   .rw[AL c]at a
    split at a
    · have k := d.2.1; rw [show(rowAt rs r).r = .w x from a]at k; exact k
    · cases a
  ext
 .grind
theorem kS{w:Str}(h:w="by"\/w="out"\/w="ever"):shaped (.str w)=true:=by rcases h with rfl|rfl|rfl<;>decide +kernel
theorem aWX{w:Str}(h:w="by"\/w="out"\/w="ever"):dNe (.str w) (.str w)=.ok (.bool false):=by
 rw[rJ (kS h) (kS h),aO8];rfl
theorem aUW{w v:Str}(h:w="by"\/w="out"\/w="ever")(h':v="by"\/v="out"\/v="ever"):dEq (.str w) (.str v)=.ok (.bool (decide (w=v))):=by
 rw[rH (kS h) (kS h'),aCZ]
 congr 2
@[simp] theorem aZC(m i:Nat)(f:Sg->R (L9 Dz))(Y:Sg):yI m i f Y=match Y[i]? with|some (some (.g k n G))=>(f Y).bind λds=>if k<=m/\ds.length=n then G ds else .bad|_=>.bad:=id rfl
@[simp] theorem aYM(m i:Nat)(f:Sg->R (L9 Dz))(Y:Sg):aAT m i f Y=match Y[i]? with|some (some (.g k n G))=>(f Y).bind λds=>if k<=m/\ds.length=n then(match G ds with | .ok d=>if sT d=true then .ok d else .bad|_=>.bad)else .bad|_=>.bad:=id rfl
def hV(fs:L9 Dz):L9 (Dz×Dz):=fs.zipIdx.map λp=>(p.1,.int (p.2:Int))
theorem vJ(fs:L9 Dz):(hV fs).map (·.1)=fs:=by
 unfold hV
 rw[AZ]
 show fs.zipIdx.map Prod.fst=fs
 simp_all
theorem aQ3(fs:L9 Dz):(hV fs).length=fs.length:=by unfold hV;rw[AB,C6]
theorem aFE{fs:L9 Dz}:bJ (hV fs) x=true↔x∈fs:=by rw[kK,vJ]
theorem aC8{fs:L9 Dz}(h:x∉fs):bJ (hV fs) x=false:=by
 cases q:bJ (hV fs) x with
 | false=>rfl
 | true=>exact absurd (aFE.mp q) h
theorem aQ4{fs:L9 Dz}(h:x∉fs):putM (hV fs) x (.int (fs.length:Int))=hV (fs++[x]):=by
 unfold putM
 rw[aC8 h,AL (by decide)]
 unfold hV
 ext
theorem aQ5{fs:L9 Dz}(h:x∈fs):∃ i:Nat,cM (hV fs) x=some (.int (i:Int))/\fs[i]? = some x:=by
 unfold cM
 cases e:(hV fs).find? λp=>decide (p.1=x)with
 | none=>
  rw[GN]at e
  rw[<-vJ fs,AT]at h
  ext
 | some p=>
  have h1:=List.find?_some e
  have h2:=G5 e
  unfold hV at h2
  ext
structure Srch where
 after:Dz->List Dz
 x0:Dz
 good:Nat->Dz->Prop
 lim:Nat
 k1:Nat
 k2:Nat
 G:List Dz->R Dz
 D:List Dz->R Dz
structure Srch.ok(S:Srch):Prop where
 g0:S.good 0 S.x0
 gs:∀ i x,S.good i x->i<=S.lim->∀ y∈S.after x,S.good (i+1) y
 up:∀ i j x,i<=j->S.good i x->S.good j x
 few:∀ xs:List Dz,xs.Nodup->(∀ x∈xs,∃ i,S.good i x)->xs.length<=S.lim
 key:∀ i x,S.good i x->fF x=true
 hk1:S.k1<=12
 hk2:S.k2<=12
 hG:∀ i x,i<=S.lim->S.good i x->S.G [x]=.ok (.list (S.after x))/\(S.after x).length<=16777216
 hD:∀ (fs:List Dz) (i:Int),fs.length<=S.lim->S.D [.list fs,.int i]=.ok (.bool false)
 hl:S.lim<=16000000
def bP(js:L9 Nat):Dz:=.tuple (js.map λj:Nat=>.int (j:Int))
structure Fnd(S:Srch)(fs:List Dz):Prop where
 nd:fs.Nodup
 gd:∀ (i:Nat) (x:Dz),fs[i]? = some x->S.good i x
theorem Fnd.len{S:Srch}(O:S.ok){fs:L9 Dz}(h:Fnd S fs):fs.length<=S.lim:=O.few fs h.nd λx a=>by
 obtain⟨i,hi⟩:=BQ a
 exact⟨i,h.gd i x hi⟩
def adQ(fs:L9 Dz)(y:Dz):L9 Dz:=if y∈fs then fs else fs++[y]
def adA(fs ys:L9 Dz):L9 Dz:=ys.foldl adQ fs
def nrQ(fs:L9 Dz)(y:Dz):Nat:=fs.idxOf y
theorem lI{fs:L9 Dz}(h:y∈fs):adQ fs y=fs:=AN h
theorem jR{fs:L9 Dz}(h:y∉fs):adQ fs y=fs++[y]:=AL h
theorem tM(fs:L9 Dz)(y:Dz):fs <+: adQ fs y:=by
 by_cases h:y∈fs
 · rw [lI h]; exact D6 _
 · rw [jR h]; exact List.prefix_append ..
theorem yT(fs:L9 Dz)(y:Dz):y∈adQ fs y:=by
 by_cases h:y∈fs
 · rw [lI h]; exact h
 · rw [jR h]; simp
theorem aUX{fs:L9 Dz}(h:fs.Nodup):(adQ fs y).Nodup:=by
 by_cases q:y∈fs
 .rw[lI q];exact h
 .rw[jR q,DE]
  ext
theorem aQ6(fs:L9 Dz)(y:Dz):(adQ fs y).length<=fs.length+1:=by
 by_cases q:y∈fs
 · rw [lI q]; ext
 · rw [jR q]; simp
theorem aMX(fs ys:L9 Dz)(y:Dz):adA fs (ys++[y])=adQ (adA fs ys) y:=by unfold adA;rw[FB];rfl
theorem yU(ys:L9 Dz):∀ fs:L9 Dz,fs <+: adA fs ys:=by
 induction ys with
 | nil=>exact λfs=>D6 _
 | cons y t ih=>exact λfs=>(tM fs y).trans (ih _)
theorem aC9(ys:L9 Dz):∀ {fs:L9 Dz},fs.Nodup->(adA fs ys).Nodup:=by
 induction ys with
 | nil=>exact λh=>h
 | cons y t ih=>exact λh=>ih (aUX h)
theorem tN(ys:L9 Dz):∀ {fs:L9 Dz} {y:Dz},y∈ys->y∈adA fs ys:=by
 induction ys with
 | nil=>intro fs y h;cases h
 | cons x t ih=>
  intro fs y h
  rcases AW.mp h with rfl|h
  · exact(yU t _).subset (yT fs y)
  · exact ih h
theorem adA_mem(ys:L9 Dz):∀ {fs:L9 Dz} {y:Dz},y∈adA fs ys->y∈fs\/y∈ys:=by
 induction ys with
 | nil=>intro fs y h;exact .inl h
 | cons x t ih=>
  intro fs y h
  rcases ih (fs:=adQ fs x) h with h|h
  .by_cases q:x∈fs
   .rw[lI q]at h;exact .inl h
   .rw[jR q]at h
    ext
  .grind
theorem aQ7(ys:L9 Dz):∀ fs:L9 Dz,(adA fs ys).length<=fs.length+ys.length:=by
 induction ys with
 | nil=>intro fs;exact AK _
 | cons x t ih=>
  intro fs
  have h1:=ih (adQ fs x)
  have h2:=aQ6 fs x
  show(adA (adQ fs x) t).length<=fs.length+(t.length+1)
  ext
theorem yV{fs fs':L9 Dz}(h:fs <+: fs')(a:y∈fs):nrQ fs' y=nrQ fs y:=by
 obtain⟨t,rfl⟩:=h
 unfold nrQ
 ext
theorem oU{fs:L9 Dz}(a:y∈fs):fs[nrQ fs y]? = some y:=by
 have h:nrQ fs y < fs.length:=DO a
 rw[AI h]
 exact CQ some (List.getElem_idxOf h)
theorem aOI{xs:L9 α}(h:xs.Nodup){x:α}(h1:xs[i]? = some x)(h2:xs[j]? = some x):i=j:=by
 obtain⟨a,e1⟩:=AJ.mp h1
 obtain⟨b,e2⟩:=AJ.mp h2
 rcases DY i j with q|q|q
 · exact absurd (e1.trans e2.symm) (CL.mp h i j a b q)
 · exact q
 · exact absurd (e2.trans e1.symm) (CL.mp h j i b a q)
theorem aQ8{fs:L9 Dz}(h:fs.Nodup)(a:y∈fs):cM (hV fs) y=some (.int (nrQ fs y:Int)):=by
 obtain⟨i,h1,h2⟩:=aQ5 a
 rw[h1,aOI h h2 (oU a)]
structure Sq where
 after:Dz->List Dz
 x0:Dz
 stop:List Dz->Nat->Bool
 k1:Nat
 k2:Nat
 G:List Dz->R Dz
 D:List Dz->R Dz
def bfQ(after:Dz->L9 Dz)(x0:Dz):Nat->L9 Dz
 | 0=>[x0]
 | n+1=>match (bfQ after x0 n)[n]? with
  | some x=>adA (bfQ after x0 n) (after x)
  | none=>bfQ after x0 n
theorem pV{after:Dz->L9 Dz}{n:Nat}(h:(bfQ after x0 n)[n]? = some x):bfQ after x0 (n+1)=adA (bfQ after x0 n) (after x):=by rw[bfQ,h]
theorem fO(after:Dz->L9 Dz)(x0:Dz)(n:Nat):bfQ after x0 n <+: bfQ after x0 (n+1):=by
 rw[bfQ]
 split
 · exact yU _ _
 · simp_all
theorem mB{after:Dz->L9 Dz}{x0:Dz}{n:Nat}(h:m<=n):bfQ after x0 m <+: bfQ after x0 n:=by
 obtain⟨k,rfl⟩:=GJ h
 clear h
 induction k with
 | zero=>exact D6 _
 | succ k ih=>exact ih.trans (fO after x0 (m+k))
theorem rO(after:Dz->L9 Dz)(x0:Dz)(n:Nat):(bfQ after x0 n).Nodup:=by
 induction n with
 | zero=>simp[bfQ]
 | succ n ih=>
  rw[bfQ]
  split
  · exact aC9 _ ih
  · exact ih
theorem pW(after:Dz->L9 Dz)(x0:Dz)(n:Nat):(bfQ after x0 n)[0]? = some x0:=by
 obtain⟨t,e⟩:=mB (after:=after) (x0:=x0) (B8 n)
 rw[<-e];rfl
theorem iO{f g:L9 α}{x:α}(h:f <+: g)(e:f[i]? = some x):g[i]? = some x:=by
 obtain⟨t,rfl⟩:=h
 rw[BN (AJ.mp e).1]
 exact e
theorem nW{f g:L9 α}{x:α}(h:f <+: g)(hi:i < f.length)(e:g[i]? = some x):f[i]? = some x:=by
 obtain⟨t,rfl⟩:=h
 rwa [BN hi]at e
def mY(after:Dz->L9 Dz)(fs:L9 Dz)(x:Dz):Dz:=bP ((after x).map (nrQ fs))
def bT(after:Dz->L9 Dz)(fs:L9 Dz)(n:Nat):L9 Dz:=(fs.take n).map (mY after fs)
structure Sq.ok(S:Sq)(N:Nat):Prop where
 on:∀ m,m < N->m < (bfQ S.after S.x0 m).length/\S.stop (bfQ S.after S.x0 m) m=false
 off:(bfQ S.after S.x0 N).length<=N\/S.stop (bfQ S.after S.x0 N) N=true
 key:(∀ x∈bfQ S.after S.x0 N,fF x=true)\/(∀ x∈bfQ S.after S.x0 N,jY x=true)
 len:(bfQ S.after S.x0 N).length<=16000000
 hk1:S.k1<=12
 hk2:S.k2<=12
 hG:∀ m x,m < N->(bfQ S.after S.x0 N)[m]? = some x->(∃ d,S.G [x]=.ok d/\aH d=.ok (S.after x))/\(S.after x).length<=1000
 hD:∀ m,m<=N->m < (bfQ S.after S.x0 m).length->S.D [.list (bfQ S.after S.x0 m),.int (m:Int)]=.ok (.bool (S.stop (bfQ S.after S.x0 m) m))
theorem aOJ{B:L9 Dz}(h:(∀ x∈B,fF x=true)\/(∀ x∈B,jY x=true)){fs:L9 Dz}(a:y∈B)(b:∀ x∈fs,x∈B):bH y ((hV fs).map (·.1))=true:=by
 unfold bH
 rw[vJ,CU,A4,A4,BO,BO]
 ext
def rqρ(S:Sq)(fs:L9 Dz)(gs:L9 Dz)(u v:O9 A):Sg:=[some (.d S.x0),some (.g S.k1 1 S.G),some (.g S.k2 2 S.D),some (.l fs),some (.m (hV fs)),some (.l gs),u,v]
theorem aUY{S:Sq}{B fs ys gs:L9 Dz}{v:O9 A}(D:(∀ x∈B,fF x=true)\/(∀ x∈B,jY x=true))(O:B.length<=16000000)(nd:fs.Nodup)(J:adA fs ys <+: B)(N:ys.length<=1000) :
  ∃ v',fH (stN 7) rhF ys (rqρ S fs gs (some (.l [])) v)=.ok (.nx (rqρ S (adA fs ys) gs (some (.l ((ys.map (nrQ (adA fs ys))).map λj:Nat=>.int (j:Int)))) v')):=by
 obtain⟨L,E,v',M⟩:=gN (fs:=stN 7) (fb:=rhF) (d:=id) (xs:=ys) (Y:=rqρ S fs gs (some (.l [])) v)
  (λi Y=>∃ v',Y=rqρ S (adA fs (ys.take i)) gs (some (.l (((ys.take i).map (nrQ (adA fs (ys.take i)))).map λj:Nat=>.int (j:Int)))) v') ⟨v,rfl⟩ λi y Y hi w=>by
  obtain⟨v',e⟩:=w
  have C:ys.take (i+1)=ys.take i++[y]:=by rw[FC,hi];rfl
  have G:=(AJ.mp hi).1
  have a:adA fs (ys.take (i+1)) <+: B:=by
   refine List.IsPrefix.trans ?_ J
   have:adA fs ys=adA (adA fs (ys.take (i+1))) (ys.drop (i+1)):=by
    unfold adA;rw[<-List.foldl_append,FQ]
   rw[this];exact yU _ _
  have I:(adA fs (ys.take i)).Nodup:=aC9 _ nd
  have m:(adA fs (ys.take (i+1))).Nodup:=aC9 _ nd
  have u:∀ x∈ys.take (i+1),x∈adA fs (ys.take (i+1)):=λx b=>tN _ b
  rw[C]at a m u
  rw[C,aMX]at *
  generalize K:adA fs (ys.take i)=F at *
  have g:y∈B:=a.subset (yT F y)
  have t:∀ x∈F,x∈B:=λx b=>a.subset ((tM F y).subset b)
  have k:F.length < 16777216:=by
   have h1:=a.length_le
   have h2:=(tM F y).length_le
   ext
  have s1:=aOJ D g t
  have z:=aOJ D g (fs:=adQ F y) (λx b=>a.subset b)
  have p:=aQ8 m (yT F y)
  have h:(hV F).length<=16777216:=by rw[aQ3];ext
  have q:∀ x∈ys.take i,x∈F:=λx b=>by rw[<-K];exact tN _ b
  have o:(ys.take i++[y]).map (nrQ (adQ F y))=(ys.take i).map (nrQ F)++[nrQ (adQ F y) y]:=by
   rw[BE,GO]
   congr 1
   exact A9 λx b=>yV (tM F y) (q x b)
  have n:(ys.take i).length < 16777216:=by rw[B2];ext
  rw[o]
  refine⟨rqρ S F gs (some (.l (((ys.take i).map (nrQ F)).map λj:Nat=>.int (j:Int)))) (some (.d y)),_,by rw[e];simp[rqρ],.inl ?_,some (.d y),rfl⟩
  have r:dLen (.list F)=.ok (.int (F.length:Int)):=i3 _
  have c:min i ys.length < 16777216:=by rw[B2]at n;exact n
  by_cases f:y∈F
  .have s:=aFE.mpr f
   rw[lI f]at z p ⊢
   simp[rhF,rqρ,s1,s,p,c]
  .have s:=aC8 f
   have H:=aQ4 f
   rw[jR f]at z p ⊢
   simp[rhF,rqρ,s1,z,s,H,p,r,h,k,c]
 rw[List.map_id]at E
 ext
theorem Sq.ok.le{S:Sq}(O:S.ok N)(h:m<=N):bfQ S.after S.x0 m <+: bfQ S.after S.x0 N:=mB h
theorem aFF{S:Sq}(O:S.ok N)(h:m<=N)(d:gs.length=m){u v:O9 A}:rhT (rqρ S (bfQ S.after S.x0 m) gs u v)=.ok (decide (m < N)):=by
 have k2:=O.hk2
 subst d
 by_cases a:gs.length < (bfQ S.after S.x0 gs.length).length
 .have b:=O.hD _ h a
  have c:S.stop (bfQ S.after S.x0 gs.length) gs.length = !decide (gs.length < N):=by
   by_cases q:gs.length < N
   .rw[(O.on _ q).2,A1 q];rfl
   .have e:gs.length=N:=by ext
    rcases O.off with z|z
    · rw [e]at a; ext
    · rw [BA q, e]; exact z
  rw[c]at b
  simp[rhT,rqρ,i3,a,k2,b,sT]
 .have:¬ gs.length < N:=λq=>a (O.on _ q).1
  simp[rhT,rqρ,i3,a,this]
theorem aQ9{S:Sq}(O:S.ok N)(h:m < N)(i:gs.length=m){u v:O9 A}:∃ x u' v',(bfQ S.after S.x0 m)[m]? = some x/\rhB (rqρ S (bfQ S.after S.x0 m) gs u v)=.ok (.nx (rqρ S (bfQ S.after S.x0 (m+1)) (gs++[mY S.after (bfQ S.after S.x0 (m+1)) x]) u' v')):=by
 have b:=(O.on m h).1
 have a:(bfQ S.after S.x0 m)[m]? = some (bfQ S.after S.x0 m)[m]:=AI b
 generalize (bfQ S.after S.x0 m)[m]=x at a
 have k1:=O.hk1
 obtain⟨⟨d,k,g⟩,o⟩:=O.hG m x h (iO (O.le (by ext)) a)
 have e:=pV a
 have n:adA (bfQ S.after S.x0 m) (S.after x) <+: bfQ S.after S.x0 N:=by rw[<-e];exact O.le (by ext)
 obtain⟨v',q⟩:=aUY (S:=S) (gs:=gs) (v:=v) O.key O.len (rO S.after S.x0 m) n o
 rw[<-e]at q
 have p:dIx (.list (bfQ S.after S.x0 m)) (.int (m:Int))=.ok x:=j6 (c8 a)
 have f:gs.length < 16777216:=by have:=(O.le (show m<=N by ext)).length_le;have:=O.len;ext
 have c:(S.after x).length<=16777216:=by ext
 refine⟨x,some (.l (((S.after x).map (nrQ (bfQ S.after S.x0 (m+1)))).map λj:Nat=>.int (j:Int))),v',a,?_⟩
 subst i
 simp only[rqρ]at q
 simp[rhB,rqρ,i3,p,k1,k,g,q,f,mY,bP,c]
theorem aAH{after:Dz->L9 Dz}{fs:L9 Dz}(h:m<=fs.length):(bT after fs m).length=m:=by unfold bT;rw[AB,B2,HU h]
theorem aRA{S:Sq}(O:S.ok N):∀ (k m:Nat) (u v:O9 A),m+k=N->
  ∃ u' v',bD rhT rhB (rqρ S (bfQ S.after S.x0 m) (bT S.after (bfQ S.after S.x0 m) m) u v)=.ok (.nx (rqρ S (bfQ S.after S.x0 N) (bT S.after (bfQ S.after S.x0 N) N) u' v')):=by
 have f:∀ m,m<=N->(∀ b,b < m->b < (bfQ S.after S.x0 b).length)->m<=(bfQ S.after S.x0 m).length:=λm d h=>by
  cases m with
  | zero=>exact B8 _
  | succ m=>exact A2 (h m (D3 m)) (fO S.after S.x0 m).length_le
 intro k
 induction k with
 | zero=>
  intro m u v d
  have d:m=N:=d
  subst d
  have c:=f m (AK _) λb h=>(O.on b h).1
  rw[dS (by rw[aFF O (AK m) (aAH c),BA (BW m)])]
  exact⟨u,v,rfl⟩
 | succ k ih=>
  intro m u v d
  have a:m < N:=d▸HL (Nat.succ_pos k)
  have r:=B5 a
  have c:=f m r λb h=>(O.on b (CV h a)).1
  have p:=aAH (after:=S.after) c
  obtain⟨x,u',v',o,q⟩:=aQ9 O a p (u:=u) (v:=v)
  rw[iL (by rw[aFF O r p,A1 a]) q]
  have e:bT S.after (bfQ S.after S.x0 m) m++[mY S.after (bfQ S.after S.x0 (m+1)) x]=bT S.after (bfQ S.after S.x0 (m+1)) (m+1):=by
   unfold bT
   have s:(bfQ S.after S.x0 (m+1)).take (m+1)=(bfQ S.after S.x0 m).take m++[x]:=by
    obtain⟨t,C⟩:=fO S.after S.x0 m
    have i:=(AJ.mp o).1
    rw[<-C,List.take_append_of_le_length i,FC,o];rfl
   rw[s,BE,GO]
   congr 1
   refine A9 λy B=>?_
   unfold mY
   congr 1
   refine A9 λz w=>?_
   obtain⟨j,g⟩:=BQ B
   have l:j < m:=by
    have:=(AJ.mp g).1
    rw[B2]at this;exact A0 this (EU _ _)
   rw[List.getElem?_take,AN l]at g
   refine(yV (fO S.after S.x0 m) ?_).symm
   have n:(bfQ S.after S.x0 j)[j]? = some y:=nW (O.le (by ext)) ((O.on j (by ext)).1) (iO (O.le (by ext)) g)
   have:=tN (fs:=bfQ S.after S.x0 j) _ w
   rw[<-pV n]at this
   exact(mB (by ext)).subset this
  rw[e]
  exact ih (m+1) u' v' (by rw[<-d,Nat.add_assoc,EY 1])
theorem aMY{S:Sq}(O:S.ok N):cW [.d S.x0,.g S.k1 1 S.G,.g S.k2 2 S.D]=.ok (.d (.tuple [.list (bfQ S.after S.x0 N),.list (bT S.after (bfQ S.after S.x0 N) N)])):=by
 obtain⟨u,v,q⟩:=aRA O N 0 none none (by ext)
 have a:=AH (pW S.after S.x0 N)
 have c:bH S.x0 []=true:=by
  unfold bH
  rw[CU,A4,A4]
  exact O.key.imp (λh=>⟨h _ a,rfl⟩) (λh=>⟨h _ a,rfl⟩)
 have hi:hV [S.x0]=[(S.x0,.int 0)]:=rfl
 have b:Fl.cI [] [(S.x0,.int 0)]=.ok [(S.x0,.int 0)]:=by simp[Fl.cI,c,putM,bJ,cM]
 unfold cW
 rw[aAA]
 simp only[rqρ,bfQ,bT,List.take_zero,hi,BS]at q
 simp[b,q,bT]
end Mc
variable{n y:Nat}
namespace Fl
@[simp] theorem aMZ(i:Nat)(f g:Sg->R Dz)(Y:Sg):pO i f g Y=match Y[i]? with
 | some (some (.m a0))=>(f Y).bind λk=>(g Y).bind λy=>if bH k (a0.map (·.1))=true/\a0.length<=16777216 then .ok (.nx (if bJ a0 k=true then Y else Y.set i (some (.m (putM a0 k y)))))else .bad
 | _=>.bad:=id rfl
@[simp] theorem aZD(i:Nat)(Y:Sg):aG2 i Y=match Y[i]? with
 | some (some (.l xs))=>.ok (.nx (Y.set i (some (.l xs.reverse))))
 | _=>.bad:=id rfl
theorem aDA(h:aH x=.ok xs):pQ x=.ok (xs.zipIdx.map pP):=by
 unfold pQ;rw[h];rfl
end Fl
variable{x:Nat}
namespace Mc
open Fl
mutual
def nbD:Dz->Bool
 | .bool _=>false
 | .dict _=>false
 | .list xs=>mZ xs
 | .tuple xs=>mZ xs
 | _=>true
def mZ:L9 Dz->Bool
 | []=>true
 | x::t=>nbD x && mZ t
end
theorem oV:∀ {xs:L9 Dz},(∀ x∈xs,nbD x=true)->mZ xs=true
 | [],_=>rfl
 | x::t,h=>by
  show(nbD x && mZ t)=true
  rw[h x AX,oV λy a=>h y (AQ _ a)];rfl
mutual
theorem aDB:∀ d:Dz,d.canLay0=true->d.eqv d=true
 | .none,_=>by rfl
 | .bool b,_=>by simp[PyData.eqv]
 | .int i,_=>by simp[PyData.eqv]
 | .str x,_=>by simp[PyData.eqv]
 | .list xs,h=>by
  show PyData.eqvAll xs xs=true
  exact yW xs h
 | .tuple xs,h=>by
  show PyData.eqvAll xs xs=true
  exact yW xs h
 | .dict _,h=>by cases h
theorem yW:∀ xs:L9 Dz,PyData.canLayAll0 xs=true->PyData.eqvAll xs xs=true
 | [],_=>by rfl
 | x::t,h=>by
  have h':(x.canLay0 && PyData.canLayAll0 t)=true:=h
  rw[A4]at h'
  show(x.eqv x && PyData.eqvAll t t)=true
  rw[aDB x h'.1,yW t h'.2];rfl
end
mutual
theorem aJ8:∀ x y:Dz,nbD x=true->nbD y=true->x.eqv y=true->x=y
 | .none,.none,_,_,_=>rfl
 | .int i,.int j,_,_,h=>by simp[PyData.eqv]at h;rw[h]
 | .str i,.str j,_,_,h=>by simp[PyData.eqv]at h;rw[h]
 | .list xs,.list ys,h1,h2,h=>by rw[yX xs ys h1 h2 h]
 | .tuple xs,.tuple ys,h1,h2,h=>by rw[yX xs ys h1 h2 h]
 | .bool _,_,h,_,_=>by cases h
 | .dict _,_,h,_,_=>by cases h
 | _,.bool _,_,h,_=>by cases h
 | _,.dict _,_,h,_=>by cases h
 | .none,.int _,_,_,h=>by simp[PyData.eqv]at h
 | .none,.str _,_,_,h=>by simp[PyData.eqv]at h
 | .none,.list _,_,_,h=>by simp[PyData.eqv]at h
 | .none,.tuple _,_,_,h=>by simp[PyData.eqv]at h
 | .int _,.none,_,_,h=>by simp[PyData.eqv]at h
 | .int _,.str _,_,_,h=>by simp[PyData.eqv]at h
 | .int _,.list _,_,_,h=>by simp[PyData.eqv]at h
 | .int _,.tuple _,_,_,h=>by simp[PyData.eqv]at h
 | .str _,.none,_,_,h=>by simp[PyData.eqv]at h
 | .str _,.int _,_,_,h=>by simp[PyData.eqv]at h
 | .str _,.list _,_,_,h=>by simp[PyData.eqv]at h
 | .str _,.tuple _,_,_,h=>by simp[PyData.eqv]at h
 | .list _,.none,_,_,h=>by simp[PyData.eqv]at h
 | .list _,.int _,_,_,h=>by simp[PyData.eqv]at h
 | .list _,.str _,_,_,h=>by simp[PyData.eqv]at h
 | .list _,.tuple _,_,_,h=>by simp[PyData.eqv]at h
 | .tuple _,.none,_,_,h=>by simp[PyData.eqv]at h
 | .tuple _,.int _,_,_,h=>by simp[PyData.eqv]at h
 | .tuple _,.str _,_,_,h=>by simp[PyData.eqv]at h
 | .tuple _,.list _,_,_,h=>by simp[PyData.eqv]at h
theorem yX:∀ xs ys:L9 Dz,mZ xs=true->mZ ys=true->PyData.eqvAll xs ys=true->xs=ys
 | [],[],_,_,_=>rfl
 | [],_::_,_,_,h=>by simp[PyData.eqvAll]at h
 | _::_,[],_,_,h=>by simp[PyData.eqvAll]at h
 | x::xs,y::ys,h1,h2,h=>by
  have h1':(nbD x && mZ xs)=true:=h1
  have a:(nbD y && mZ ys)=true:=h2
  have h':(x.eqv y && PyData.eqvAll xs ys)=true:=h
  rw[A4]at h1' a h'
  rw[aJ8 x y h1'.1 a.1 h'.1,yX xs ys h1'.2 a.2 h'.2]
end
theorem aJ9{d:Dz}(h:shaped d=true):d.canLay0=true:=by
 have h':(d.canLay0 && decide (d.depth<=64))=true:=h
 ext
theorem aKA{x y:Dz}(hx:nbD x=true)(a:nbD y=true)(l:shaped x=true):x.eqv y=decide (x=y):=by
 by_cases h:x=y
 .subst h;rw[aDB x (aJ9 l),A1 rfl]
 .rw[BA h]
  cases q:x.eqv y with
  | false=>rfl
  | true=>exact absurd (aJ8 x y hx a q) h
structure Cp(d:Dz):Prop where
 nb:nbD d=true
 sh:shaped d=true
theorem aUZ{x y:Dz}(hx:Cp x)(a:Cp y):dEq x y=.ok (.bool (decide (x=y))):=by rw[rH hx.sh a.sh,aKA hx.nb a.nb hx.sh]
theorem aDC{x y:Dz}(hx:Cp x)(a:Cp y):dNe x y=.ok (.bool (!decide (x=y))):=by rw[rJ hx.sh a.sh,aKA hx.nb a.nb hx.sh]
theorem rP{x:Dz}(h:shaped x=true):dNe x x=.ok (.bool false):=by rw[rJ h h,aDB x (aJ9 h)];rfl
def wρ(rs:L9 Rw)(f:Tn)(bk:L9 Tn)(t:Tn)(ps:L9 Int)(u:O9 A):Sg:=[some (.d (aD rs)),some (.d (hU f bk)),some (.d t.d),some (.m (been PyData.int ps)),u]
theorem aM0{rs:L9 Rw}{f:Tn}{bk:L9 Tn}{x:Str}{ps:L9 Int}{u:O9 A}:wT (wρ rs f bk (.w x) ps u)=.ok false:=by
 simp[wT,wρ,Tn.d,yQ]
theorem aM1{rs:L9 Rw}{f:Tn}{bk:L9 Tn}{q:Int}{ps:L9 Int}{u:O9 A}:wT (wρ rs f bk (.n q) ps u)=.ok true:=by
 simp[wT,wρ,Tn.d,yP]
theorem aU0{rs:L9 Rw}{f:Tn}{bk:L9 Tn}{q:Int}{ps:L9 Int}{u:O9 A}(h:q∈ps):wB (wρ rs f bk (.n q) ps u)=.ok (.rt (.d (.str "ever"))):=by
 have h1:=iT ps q
 have h2:=(pR iS).mpr h
 simp[wB,wρ,Tn.d,h1,h2]
theorem aYN{rs:L9 Rw}{f:Tn}{bk:L9 Tn}{q:Int}{ps:L9 Int}{u:O9 A}{x:Str}(h:q∉ps)(a:aQ rs q)(b:ps.length<=16777216)(e:(rowAt rs q).r=.w x):wB (wρ rs f bk (.n q) ps u)=.ok (.nx (wρ rs f bk (.w x) (ps++[q]) (some (.d (.str x))))):=by
 have h1:=iT ps q
 have h2:=jQ iS h
 have g:=mT iS h
 have c:(been PyData.int ps).length<=16777216:=by rw[kO];exact b
 have hr:=rN a.1 a.2
 simp[wB,wρ,Tn.d,h1,h2,g,c,hr,aO,e,yQ]
theorem aYO{rs:L9 Rw}{f:Tn}{bk:L9 Tn}{q q':Int}{ps:L9 Int}{u:O9 A}(h:q∉ps)(a:aQ rs q)(b:ps.length<=16777216)(e:(rowAt rs q).r=.n q')(h0:0<=q')(c:q' < (bk.length:Int)):wB (wρ rs f bk (.n q) ps u)=.ok (.nx (wρ rs f bk (bkF bk q') (ps++[q]) (some (.d (.int q'))))):=by
 have h1:=iT ps q
 have h2:=jQ iS h
 have j:=mT iS h
 have i:(been PyData.int ps).length<=16777216:=by rw[kO];exact b
 have hr:=rN a.1 a.2
 have g:=aOH h0 c
 simp[wB,wρ,Tn.d,h1,h2,j,i,hr,aO,e,yP,hU,g]
theorem j9{rs:L9 Rw}{sg:Nat}(M:Mach rs sg){q q':Int}(a:aQ rs q)(e:(rowAt rs q).r=.n q'):0<=q'/\q' < (rs.length:Int):=by
 have hr:=AH (bL a.1 a.2)
 have:=(M.row _ hr).1.2.1
 rw[e]at this
 exact this
theorem aRB{rs:L9 Rw}{sg:Nat}{f:Tn}{bk:L9 Tn}(M:Mach rs sg)(hb:bk.length=rs.length)(j:∀ t∈bk,tnV rs.length t){g:Int}:∀ (n:Nat) (ps:L9 Int) (q:Int) (u:O9 A),Und2 (bN rs (bkF bk)) g ps q->(∀ p∈ps,aQ rs p)->aQ rs q->rs.length+1<=ps.length+n->
  aF (bD wT wB) (aN (vV 2)) (wρ rs f bk (.n q) ps u)=.ok (.rt (.d (.str ((aS (bN rs (bkF bk)) g).getD bW)))):=by
 intro n
 induction n with
 | zero=>
  intro ps q u U pv b l
  have:=tL U.nd pv
  ext
 | succ n ih=>
  intro ps q u U pv b l
  rw[cF]
  by_cases a:q∈ps
  .rw[nU aM1 (aU0 a),U.met a];rfl
  .have m:ps.length<=rs.length:=tL U.nd pv
   have c:ps.length<=16777216:=by have:=M.len2;ext
   cases e:(rowAt rs q).r with
   | w x=>
    have st:bN rs (bkF bk) q=some (.inr x):=by unfold bN;rw[e]
    rw[iL aM1 (aYN a b c e),dS aM0,U.outs st]
    simp[wρ,Tn.d]
   | n q'=>
    obtain⟨k,i⟩:=j9 M b e
    rw[iL aM1 (aYO a b c e k (by rw[hb];exact i))]
    have h:=tK j q'
    cases e2:bkF bk q' with
    | w x=>
     have st:bN rs (bkF bk) q=some (.inr x):=by unfold bN;rw[e];simp only;rw[e2]
     rw[dS aM0,U.outs st]
     simp[wρ,Tn.d]
    | n r=>
     rw[e2]at h
     have st:bN rs (bkF bk) q=some (.inl r):=by unfold bN;rw[e];simp only;rw[e2]
     have:=ih (ps++[q]) r (some (.d (.int q'))) (U.next a st) (λp c=>by
      rcases BD.mp c with z|z
      · simp_all
      · rw [AM.mp z]; exact b) h (by rw [AY, BJ]; ext)
     simp_all
theorem aWY{rs:L9 Rw}{sg:Nat}{f:Tn}{bk:L9 Tn}(M:Mach rs sg)(hb:bk.length=rs.length)(e:∀ t∈bk,tnV rs.length t)(c:tnV rs.length f):dB [.d (aD rs),.d (hU f bk)]=.ok (.d (.str (wbR rs (bkF bk) f))):=by
 have g:dIx (hU f bk) (.int 0)=.ok f.d:=rfl
 have a:aF (bD wT wB) (aN (vV 2)) (wρ rs f bk f [] none)=.ok (.rt (.d (.str (wbR rs (bkF bk) f)))):=by
  cases f with
  | w x=>
   rw[cF,dS aM0]
   simp[wρ,Tn.d,wbR]
  | n q=>exact aRB M hb e (rs.length+1) [] q none Und2.start (λp b=>by simp at b) c (by simp)
 unfold dB
 rw[qC]
 rw[cF]at a
 simp only[wρ,been,BS]at a
 simp_all
theorem aM2{rs:L9 Rw}{sg:Nat}(M:Mach rs sg){bk a:Int->Tn}(h:∀ q,aQ rs q->bk q=a q)(j:∀ q,aQ rs q->tnV rs.length (bk q)){t:Tn}(i:tnV rs.length t):wbR rs bk t=wbR rs a t:=by
 cases t with
 | w x=>rfl
 | n q=>
  have st:∀ q,aQ rs q->bN rs bk q=bN rs a q:=λq c=>by
   unfold bN
   cases e:(rowAt rs q).r with
   | w x=>rfl
   | n b=>simp only;rw[h b (j9 M c e)]
  have nx:∀ q b,aQ rs q->bN rs bk q=some (.inl b)->aQ rs b:=λq b c e=>by
   unfold bN at e
   cases e2:(rowAt rs q).r with
   | w x=>rw[e2]at e;cases e
   | n r=>
    rw[e2]at e
    simp only at e
    have f:=j _ (j9 M c e2)
    split at e
    · rename_i l g; cases e; rw [g]at f; exact f
    · cases e
  have d:=kR (st:=bN rs bk) (st2:=bN rs a) (e:=id) (k:=id) (ev:=bW) (Dom:=aQ rs) (λq c=>?_) (s:=q) i
  .show (aS (bN rs bk) q).getD bW=(aS (bN rs a) q).getD bW
   exact(d.trans (by rw[Option.map_id];rfl)).symm
  .have e:=(st q c).symm
   cases e2:bN rs bk q with
   | none=>unfold bN at e2;split at e2<;>(try split at e2)<;>cases e2
   | some x=>
    rw[e2]at e
    cases x with
    | inl b=>exact .inl ⟨b,rfl,e,nx q b c e2⟩
    | inr o=>exact .inr ⟨o,rfl,by rw[cG (s:=id q) e];rfl⟩
theorem aU1{rs:L9 Rw}{sg:Nat}{z:L9 Nat}(M:Mach rs sg)(S:aK sg z):dB [.d (aD rs),.d (aV rs z)]=.ok (.d (.str (bO rs z))):=by
 have c:((range rs.length).map λq:Nat=>aW rs z (q:Int)).length=rs.length:=by simp
 have a:∀ t∈(range rs.length).map λq:Nat=>aW rs z (q:Int),tnV rs.length t:=λt e=>by
  obtain⟨q,f,rfl⟩:=AT.mp e
  exact c6 M S (xA (BC.mp f))
 unfold aV
 rw[aWY M c a (c6 M S (jF M z)),aM2 M (λq b=>yR b) (λq b=>tK a q) (c6 M S (jF M z)),<-aC2 M S]
 rfl
theorem aKB{rs:L9 Rw}{sg:Nat}{z:L9 Nat}(M:Mach rs sg)(S:aK sg z){s:Int×Int}(V:n9 rs z s):(bA rs z s).ok:=by
 have a:(Tn.w bW).ok:=by show PyData.strOk bW=true;decide +kernel
 unfold bA
 cases e:aS (bZ rs z) s with
 | none=>exact a
 | some t=>
  obtain⟨n,h⟩:=dL e
  show t.ok
  clear e
  induction h with
  | @out s o h=>
   unfold bZ at h
   rcases beg_cell M S V with ⟨x,e,b⟩|⟨q,e,c,h1,h2⟩
   .rw[e]at h
    cases h
    have hr:=AH (bL V.2.2.1 V.2.2.2)
    have:=((M.row _ hr).1.ok).1
    unfold a5 at e
    rw[AN b]at e
    simp only at e
    rw[e]at this
    exact this
   .rw[e]at h
    simp only at h
    split at h
    · cases h
    · cases h; exact trivial
  | @go s s' o n h t ih=>
   refine ih ?_
   unfold bZ at h
   rcases beg_cell M S V with ⟨x,e,b⟩|⟨q,e,c,h1,h2⟩
   .rw[e]at h;cases h
   .rw[e]at h
    simp only at h
    split at h
    · rename_i d; cases h; exact⟨h1, d, c⟩
    · cases h
theorem aRC{rs:L9 Rw}{sg:Nat}{z:L9 Nat}(M:Mach rs sg)(S:aK sg z):(bA rs z (0,0)).ok/\∀ t∈(range rs.length).map λq:Nat=>aW rs z (q:Int),t.ok:=⟨aKB M S (jF M z),λt a=>by
 obtain⟨q,b,rfl⟩:=AT.mp a
 exact aKB M S (xA (BC.mp b))⟩
theorem vK:∀ {xs:L9 Dz},(∀ x∈xs,eD x=true)->cH xs=true
 | [],_=>rfl
 | x::t,h=>by
  show(eD x && cH t)=true
  rw[h x (AX ..),vK λy a=>h y (AQ _ a)];rfl
theorem aKC{t:Tn}(h:t.ok):eD t.d=true:=by
 cases t with
 | n i=>rfl
 | w x=>exact h
theorem aRD{f:Tn}{bk:L9 Tn}(e:f.ok)(hb:∀ t∈bk,t.ok):fF (hU f bk)=true:=by
 have h1:eD (hU f bk)=true:=by
  show cH [f.d,.tuple (bk.map Tn.d)]=true
  refine vK λx a=>?_
  rcases AW.mp a with z|a
  .rw[z];exact aKC e
  .rw[AM.mp a]
   show cH (bk.map Tn.d)=true
   refine vK λx a=>?_
   obtain⟨c,b,rfl⟩:=AT.mp a
   exact aKC (hb c b)
 have h2:Sh 3 (hU f bk):=by
  refine lD λx a=>?_
  rcases AW.mp a with z|a
  .rw[z];exact aN1 _ e
  .rw[AM.mp a]
   refine lD λx a=>?_
   obtain⟨c,b,rfl⟩:=AT.mp a
   exact aN1 _ (hb c b)
 show(eD (hU f bk) && decide ((hU f bk).depth<=8))=true
 rw[h1,A1 (A2 h2.2 (by decide))];rfl
def aDD(rs:L9 Rw)(x:Dz)(k:Nat):Dz:=match fJ [.d x,.d (eP rs k)]with
 | .ok (.d y)=>y
 | _=>.none
theorem yY{rs:L9 Rw}{sg k:Nat}{z:L9 Nat}(M:Mach rs sg)(S:aK sg z)(a:k < sg):aDD rs (aV rs z) k=aV rs (z++[97+k]):=by
 have:=aC5 M S (c:=97+k) (by unfold aY;exact A1 (by ext))
 rw[show 97+k - 97=k by ext]at this
 unfold aDD
 rw[this]
def pX(rs:L9 Rw)(sg:Nat):Prop:=∀ xs:L9 Dz,xs.Nodup->(∀ x∈xs,∃ z,aK sg z/\x=aV rs z)->xs.length<=200
theorem aG9{sg k:Nat}{z:L9 Nat}(S:aK sg z)(d:k < sg)(b:z.length < 1000):aK sg (z++[97+k]):=⟨by simp;ext,λc a=>by
 rcases BD.mp a with h|h
 · exact S.2 c h
 · rw [AM.mp h]; unfold aY; exact A1 (by ext)⟩
def aKD(rs:L9 Rw)(x:Dz):Dz:=match dB [.d (aD rs),.d x]with
 | .ok (.d y)=>y
 | _=>.none
theorem xB{rs:L9 Rw}{sg:Nat}{z:L9 Nat}(M:Mach rs sg)(S:aK sg z):aKD rs (aV rs z)=.str (bO rs z):=by
 unfold aKD
 rw[aU1 M S]
theorem aU2{rs:L9 Rw}{sg:Nat}(code:L9 Nat->Nat)(g:∀ z,aK sg z->code z < 200)(hi:∀ z z',aK sg z->aK sg z'->code z=code z'->aV rs z=aV rs z'):pX rs sg:=λxs d h=>by
 classical
 let f:Dz->Nat:=λx=>if h:∃ z,aK sg z/\x=aV rs z then code h.choose else 0
 have i:∀ x∈xs,∃ z,aK sg z/\x=aV rs z/\f x=code z:=λx c=>⟨(h x c).choose,(h x c).choose_spec.1,(h x c).choose_spec.2,dif_pos (h x c)⟩
 refine nG f 200 xs d (λx c=>?_) (λa j b k e=>?_)
 · ext
 · ext
def tnB(m:Nat):Tn->Prop
 | .n i=>0<=i/\i < (m:Int)
 | .w x=>x="by"\/x="out"\/x="ever"
theorem yZ{rs:L9 Rw}{sg:Nat}{z:L9 Nat}(M:Mach rs sg)(S:aK sg z){s:Int×Int}(V:n9 rs z s):tnB rs.length (bA rs z s):=by
 unfold bA
 cases e:aS (bZ rs z) s with
 | none=>exact .inr (.inr rfl)
 | some t=>
  obtain⟨n,h⟩:=dL e
  show tnB rs.length t
  clear e
  induction h with
  | @out s o h=>
   unfold bZ at h
   rcases beg_cell M S V with ⟨x,e,b⟩|⟨q,e,a,h1,h2⟩
   .rw[e]at h
    cases h
    have hr:=AH (bL V.2.2.1 V.2.2.2)
    have:=(M.row _ hr).1.1
    unfold a5 at e
    rw[AN b]at e
    simp only at e
    rw[e]at this
    rcases this with h|h
    · exact .inl h
    · exact .inr (.inl h)
   .rw[e]at h
    simp only at h
    split at h
    · cases h
    · cases h; exact a
  | @go s s' o n h t ih=>
   refine ih ?_
   unfold bZ at h
   rcases beg_cell M S V with ⟨x,e,b⟩|⟨q,e,a,h1,h2⟩
   .rw[e]at h;cases h
   .rw[e]at h
    simp only at h
    split at h
    · rename_i c; cases h; exact⟨h1, c, a⟩
    · cases h
def tc(m:Nat):Tn->Nat
 | .n i=>i.toNat
 | .w x=>if x="by" then m else if x="out" then m+1 else m+2
theorem pY{m:Nat}{t:Tn}(h:tnB m t):tc m t < m+3:=by
 cases t with
 | n i=>have:0<=i/\i < (m:Int):=h;show i.toNat < _;ext
 | w x=>show(if x="by" then m else if x="out" then m+1 else m+2) < _;split<;>(try split)<;>ext
theorem aDE{m:Nat}{t u:Tn}(h:tnB m t)(h':tnB m u)(e:tc m t=tc m u):t=u:=by
 have c:("by":Str)≠"out":=by decide +kernel
 have h1:("ever":Str)≠"by":=by decide +kernel
 have h2:("ever":Str)≠"out":=by decide +kernel
 cases t with
 | n i=>
  have a:0<=i/\i < (m:Int):=h
  cases u with
  | n j=>
   have b:0<=j/\j < (m:Int):=h'
   have e:i.toNat=j.toNat:=e
   ext
  | w x=>
   have e:i.toNat=(if x="by" then m else if x="out" then m+1 else m+2):=e
   ext
 | w x=>
  cases u with
  | n j=>
   have b:0<=j/\j < (m:Int):=h'
   have e:(if x="by" then m else if x="out" then m+1 else m+2)=j.toNat:=e
   ext
  | w y=>
   have e:(if x="by" then m else if x="out" then m+1 else m+2)=(if y="by" then m else if y="out" then m+1 else m+2):=e
   rcases h with rfl|rfl|rfl<;>rcases h' with rfl|rfl|rfl<;>first|rfl|(simp[c,c.symm,h1,h1.symm,h2,h2.symm]at e)
theorem pZ{rs:L9 Rw}{z a:L9 Nat}(h1:bA rs z (0,0)=bA rs a (0,0))(h2:∀ q:Nat,q < rs.length->aW rs z (q:Int)=aW rs a (q:Int)):aV rs z=aV rs a:=by
 unfold aV
 rw[h1,A9 λq b=>h2 q (BC.mp b)]
theorem aDF{rs:L9 Rw}{bk:Int->Tn}{c:Nat}{q:Int}(h:(ck (c - 97) (rowAt rs q)).2=1):onR rs bk c (.n q)=.n (ck (c - 97) (rowAt rs q)).1:=by
 have:cN rs bk c q=some (.inr (.n (ck (c - 97) (rowAt rs q)).1)):=by rw[c9,AN h]
 show(aS (cN rs bk c) q).getD (.w bW)=_
 rw[cG this];rfl
theorem m7{P:L9 Nat->Prop}(h0:P [])(a:∀ z c,P z->P (z++[c]))(z:L9 Nat):P z:=by
 rw[<-List.reverse_reverse z]
 induction z.reverse with
 | nil=>exact h0
 | cons c t ih=>rw[EG];exact a _ _ ih
theorem kA{sg c:Nat}{z:L9 Nat}(S:aK sg (z++[c])):aK sg z/\aY sg c=true:=⟨⟨by have:=S.1;simp at this;ext,λc a=>S.2 c (CN _ a)⟩,S.2 c (by simp)⟩
end Mc
namespace Mb
open Classical
section
variable{τ:Type}(g:τ->Nat->τ)(t0:τ)(cs:L9 Nat)
variable{g t0 cs}
end
end Mb
variable{k:Dz}{D:L9 (Dz×Dz)}{q:Nat}
namespace Mc
open Fl
variable{L:L9 PZ}{k1 k2:Nat}{G Wn:L9 Dz->R Dz}
def stD(z:L9 Nat):Dz:=.str ⟨z.toArray⟩
abbrev PZ:=Dz×L9 Nat
def adP(z:L9 Nat)(l:L9 PZ)(y:Dz×Nat):L9 PZ:=if y.1∈l.map (·.1)then l else l++[(y.1,z++[97+y.2])]
def bfP(after:Dz->L9 Dz)(x0:Dz):Nat->L9 PZ
 | 0=>[(x0,[])]
 | n+1=>match (bfP after x0 n)[n]? with
  | some p=>(after p.1).zipIdx.foldl (adP p.2) (bfP after x0 n)
  | none=>bfP after x0 n
theorem aRE(z:L9 Nat)(l:L9 PZ)(y:Dz×Nat):(adP z l y).map (·.1)=adQ (l.map (·.1)) y.1:=by
 unfold adP adQ
 split
 · rfl
 · rw [BE]; rfl
theorem y6(z:L9 Nat)(l:L9 PZ)(y:Dz×Nat):l <+: adP z l y:=by
 unfold adP
 ext
theorem aM3(z:L9 Nat)(ys:L9 (Dz×Nat)):∀ l:L9 PZ,(ys.foldl (adP z) l).map (·.1)=adA (l.map (·.1)) (ys.map (·.1)):=by
 induction ys with
 | nil=>intro l;rfl
 | cons y t ih=>intro l;rw[DS,ih,aRE];rfl
theorem kT(z:L9 Nat)(ys:L9 (Dz×Nat)):∀ l:L9 PZ,l <+: ys.foldl (adP z) l:=by
 induction ys with
 | nil=>exact λl=>D6 _
 | cons y t ih=>exact λl=>(y6 z l y).trans (ih _)
theorem eI(after:Dz->L9 Dz)(x0:Dz)(n:Nat):(bfP after x0 n).map (·.1)=bfQ after x0 n:=by
 induction n with
 | zero=>rfl
 | succ n ih=>
  have e:(bfQ after x0 n)[n]? = ((bfP after x0 n)[n]?).map (·.1):=by rw[<-ih,AC]
  cases q:(bfP after x0 n)[n]? with
  | none=>rw[q]at e;rw[bfP,bfQ,q,e];exact ih
  | some p=>
   rw[q]at e
   rw[bfP,bfQ,q,e]
   simp only[DA]
   rw[aM3,ih]
   simp_all
theorem aM4(after:Dz->L9 Dz)(x0:Dz)(n:Nat):bfP after x0 n <+: bfP after x0 (n+1):=by
 rw[bfP]
 split
 · exact kT _ _ _
 · simp_all
theorem oW{after:Dz->L9 Dz}{x0:Dz}(h:m<=n):bfP after x0 m <+: bfP after x0 n:=by
 obtain⟨k,rfl⟩:=GJ h
 clear h
 induction k with
 | zero=>exact D6 _
 | succ k ih=>exact ih.trans (aM4 after x0 (m+k))
theorem aDG(after:Dz->L9 Dz)(x0:Dz)(n:Nat):(bfP after x0 n)[0]? = some (x0,[]):=by
 obtain⟨t,e⟩:=oW (after:=after) (x0:=x0) (B8 n)
 rw[<-e];rfl
theorem gB(after:Dz->L9 Dz)(x0:Dz)(n:Nat):(bfP after x0 n).length=(bfQ after x0 n).length:=by rw[<-eI,AB]
theorem vL{after:Dz->L9 Dz}{p:PZ}(h:(bfP after x0 n)[n]? = some p):bfP after x0 (n+1)=(after p.1).zipIdx.foldl (adP p.2) (bfP after x0 n):=by rw[bfP,h]
theorem kU{v b:Dz}(h:bJ a k=false):cM (putM a k v) b=if b=k then some v else cM a b:=by
 have h':cM a k=none:=by
  unfold bJ at h
  cases q:cM a k with
  | none=>rfl
  | some x=>rw[q]at h;cases h
 unfold putM
 rw[h,AL (by decide)]
 unfold cM at h' ⊢
 rw[List.find?_append]
 by_cases e:b=k
 .subst e
  have:a.find? (λp=>decide (p.1=b))=none:=by
   cases q:a.find? (λp=>decide (p.1=b))with
   | none=>rfl
   | some x=>rw[q]at h';cases h'
  rw[AN rfl,this]
  simp
 .rw[AL e]
  cases q:a.find? (λp=>decide (p.1=b))with
  | none=>simp[BF e]
  | some x=>rfl
theorem aRF{v:Dz}(h:bJ a k=false):(putM a k v).length=a.length+1:=by
 unfold putM;rw[h,AL (by decide)];simp
theorem aDH{v:Dz}(h:bJ a k=false):(putM a k v).map (·.1)=a.map (·.1)++[k]:=by
 unfold putM;rw[h,AL (by decide),BE];rfl
structure Came(L:List PZ)(D:List (Dz×Dz))(m:Nat):Prop where
 got:∀ (j:Nat) (x:Dz) (z:List Nat),1<=j->j < m->L[j]? = some (x,z)->∃ (i k:Nat) (x':Dz) (z':List Nat),cM D (.int (j:Int))=some (.tuple [.int (i:Int),.str ⟨#[97+k]⟩])/\L[i]? = some (x',z')/\i < j/\z=z'++[97+k]
 new:∀ j:Nat,m<=j->bJ D (.int (j:Int))=false
 key:∀ p∈D.map (·.1),jY p=true
theorem Came.same(C:Came L D m)(j:Int):bH (.int j) (D.map (·.1))=true:=by
 unfold bH
 rw[CU,A4,A4]
 exact .inr ⟨rfl,BO.mpr C.key⟩
theorem xC(h:i≠j):(PyData.int (i:Int))≠.int (j:Int):=by ext
theorem Came.step{i k j:Nat}{x y:Dz}(C:Came L D m)(h1:1<=m)(B:m<=L.length)(hi:L[i]? = some (x,z))(w:i < m)(d:j < m\/(j=m/\L[j]? = some (y,z++[97+k]))) :
  Came L (if bJ D (.int (j:Int))=true then D else putM D (.int (j:Int)) (.tuple [.int (i:Int),.str ⟨#[97+k]⟩])) (if j < m then m else m+1)/\(if bJ D (.int (j:Int))=true then D else putM D (.int (j:Int)) (.tuple [.int (i:Int),.str ⟨#[97+k]⟩])).length<=D.length+1:=by
 refine⟨?_,?_⟩
 .rcases d with d|⟨rfl,d⟩
  .rw[AN d]
   cases q:bJ D (.int (j:Int))with
   | true=>rw[AN rfl];exact C
   | false=>
    rw[AL (by decide)]
    have A:j=0:=by
     rcases Nat.eq_zero_or_pos j with z|z
     .exact z
     .obtain ⟨u,s,t,o,g,_⟩:=C.got j _ _ z d (AI (show j < L.length by ext))
      unfold bJ at q
      rw[g]at q;cases q
    subst A
    refine⟨λc t o a b e=>?_,λc f=>?_,λp l=>?_⟩
    .obtain ⟨u,s,x2,v,g,r⟩:=C.got c t o a b e
     exact⟨u,s,x2,v,by rw[kU q,AL (xC (by ext))];exact g,r⟩
    .have:=C.new c f
     unfold bJ at this ⊢
     rw[kU q,AL (xC (by ext))];exact this
    .rw[aDH q]at l
     rcases BD.mp l with h|h
     .exact C.key p h
     .rw[AM.mp h];rfl
  .have q:=C.new j (AK _)
   rw[q,AL (by decide),AL (show ¬ j < j by ext)]
   refine⟨λc t o a b e=>?_,λc f=>?_,λp l=>?_⟩
   .by_cases n:c=j
    .subst n
     rw[d]at e
     cases e
     exact⟨i,k,x,z,by rw[kU q,AN rfl],hi,w,rfl⟩
    .obtain ⟨u,s,x2,v,g,r⟩:=C.got c t o a (by ext) e
     exact⟨u,s,x2,v,by rw[kU q,AL (xC n)];exact g,r⟩
   .have:=C.new c (by ext)
    unfold bJ at this ⊢
    rw[kU q,AL (xC (by ext))];exact this
   .rw[aDH q]at l
    rcases BD.mp l with h|h
    .exact C.key p h
    .rw[AM.mp h];rfl
 .cases q:bJ D (.int (j:Int))with
  | true=>rw[AN rfl];ext
  | false=>rw[AL (by decide),aRF q];ext
theorem aRG:∀ {js:L9 Nat},js.length<=3->iJ (.str "abc") (bP js)=.ok (js.zipIdx.map λp=>.tuple [.str ⟨#[97+p.2]⟩,.int (p.1:Int)])
 | [],_=>rfl
 | [_],_=>rfl
 | [_,_],_=>rfl
 | [_,_,_],_=>rfl
 | _::_::_::_::_,h=>by simp at h
section
variable{after:Dz->L9 Dz}{x0:Dz}{N:Nat}
theorem aU3{x:Dz}{a b u v w:O9 A}(hi:(bfP after x0 i)[i]? = some (x,z))(V:i < N)(h3:(after x).length<=3)(C:Came (bfP after x0 N) D (bfP after x0 i).length)(hD:D.length<=1000000) :
  ∃ D' u' v',fH (stT [(stN 5),(stN 6)]) stF (((after x).map (nrQ (bfQ after x0 N))).zipIdx.map λp=>.tuple [.str ⟨#[97+p.2]⟩,.int (p.1:Int)]) [a,b,some (.m D),some (.d (.int (i:Int))),w,u,v,none]=.ok (.nx [a,b,some (.m D'),some (.d (.int (i:Int))),w,u',v',none])/\Came (bfP after x0 N) D' (bfP after x0 (i+1)).length/\D'.length<=D.length+3:=by
 have P:=vL hi
 have U:=(AJ.mp hi).1
 have l:(bfP after x0 N)[i]? = some (x,z):=iO (oW (by ext)) hi
 obtain⟨Y',S,D',u',v',Z,o,n⟩:=gN (fs:=stT [(stN 5),(stN 6)]) (fb:=stF) (d:=λp:Nat×Nat=>PyData.tuple [.str ⟨#[97+p.2]⟩,.int (p.1:Int)]) (xs:=((after x).map (nrQ (bfQ after x0 N))).zipIdx) (Y:=[a,b,some (.m D),some (.d (.int (i:Int))),w,u,v,none])
  (λk Y=>∃ D' u' v',Y=[a,b,some (.m D'),some (.d (.int (i:Int))),w,u',v',none]/\Came (bfP after x0 N) D' (((after x).zipIdx.take k).foldl (adP z) (bfP after x0 i)).length/\D'.length<=D.length+k) ⟨D,u,v,rfl,C,by ext⟩ λk p Y g I=>by
  obtain⟨D',u',v',e,o,n⟩:=I
  obtain⟨jn,X⟩:=p
  rw[EN]at g
  obtain⟨W,y,hy,H,E⟩:k < (after x).length/\∃ y,(after x)[k]? = some y/\nrQ (bfQ after x0 N) y=jn/\k=X:=by
   cases q:(after x)[k]? with
   | none=>rw[AC,q]at g;cases g
   | some y=>
    rw[AC,q]at g
    simp only[DA,HF,FA,Prod.mk.injEq]at g
    exact⟨(AJ.mp q).1,y,rfl,g.1,g.2⟩
  subst H E
  have hz:(after x).zipIdx[k]? = some (y,k):=by rw[EN,hy];simp
  have T:(after x).zipIdx.take (k+1)=(after x).zipIdx.take k++[(y,k)]:=by rw[FC,hz];rfl
  have c:((after x).zipIdx.take (k+1)).foldl (adP z) (bfP after x0 i) <+: bfP after x0 N:=by
   refine List.IsPrefix.trans ?_ (oW (show i+1<=N by ext))
   rw[P]
   have:(after x).zipIdx.foldl (adP z) (bfP after x0 i)=((after x).zipIdx.drop (k+1)).foldl (adP z) (((after x).zipIdx.take (k+1)).foldl (adP z) (bfP after x0 i)):=by
    rw[<-List.foldl_append,FQ]
   rw[this];exact kT _ _ _
  rw[T,FB,DS,List.foldl_nil]at c ⊢
  have f:=kT z ((after x).zipIdx.take k) (bfP after x0 i)
  generalize ((after x).zipIdx.take k).foldl (adP z) (bfP after x0 i)=F at *
  have aa:(bfP after x0 i).length<=F.length:=f.length_le
  have J:F.length<=(bfP after x0 N).length:=((y6 z F (y,k)).trans c).length_le
  have s:(adP z F (y,k)).map (·.1) <+: bfQ after x0 N:=by rw[<-eI];exact c.map _
  have B:F.map (·.1) <+: bfQ after x0 N:=by rw[<-eI];exact((y6 z F (y,k)).trans c).map _
  have M:(nrQ (bfQ after x0 N) y < F.length/\(adP z F (y,k)).length=F.length)\/((nrQ (bfQ after x0 N) y=F.length/\(bfP after x0 N)[nrQ (bfQ after x0 N) y]? = some (y,z++[97+k]))/\(adP z F (y,k)).length=F.length+1):=by
   by_cases r:y∈F.map (·.1)
   .refine .inl ⟨?_,by unfold adP;rw[AN r]⟩
    rw[yV B r]
    have:=DO r
    rw[AB]at this
    exact this
   .have K:adP z F (y,k)=F++[(y,z++[97+k])]:=AL r
    rw[K]at c s
    have O:(bfP after x0 N)[F.length]? = some (y,z++[97+k]):=iO c (by simp)
    have Q:nrQ (bfQ after x0 N) y=F.length:=by
     have h1:(bfQ after x0 N)[F.length]? = some y:=by rw[<-eI,AC,O];rfl
     exact aOI (rO after x0 N) (oU (AH h1)) h1
    exact .inr ⟨⟨Q,by rw[Q];exact O⟩,by rw[K];simp⟩
  obtain⟨L,l2⟩:=o.step (i:=i) (k:=k) (j:=nrQ (bfQ after x0 N) y) (y:=y) (by ext) J l (by ext) (M.imp (·.1) (·.1))
  have G:(if nrQ (bfQ after x0 N) y < F.length then F.length else F.length+1)=(adP z F (y,k)).length:=by
   rcases M with h|h
   .rw[AN h.1,h.2]
   .rw[AL (by ext),h.2]
  rw[G]at L
  have hs:=o.same (nrQ (bfQ after x0 N) y:Int)
  have t:D'.length<=16777216:=by ext
  refine⟨[a,b,some (.m D'),some (.d (.int (i:Int))),w,some (.d (.str ⟨#[97+k]⟩)),some (.d (.int (nrQ (bfQ after x0 N) y:Int))),none],_,by rw[e];rfl,.inl ?_,_,some (.d (.str ⟨#[97+k]⟩)),some (.d (.int (nrQ (bfQ after x0 N) y:Int))),rfl,L,by ext⟩
  simp only[stF,aMZ,BH,BG,w5,R.bind_ok,aE4,vG,tF,A7,CS,Nat.reduceAdd,Nat.reduceLeDiff,DJ,hs,t,and_self,B6,CM]
  cases q:bJ D' (.int (nrQ (bfQ after x0 N) y:Int))with
  | true=>simp
  | false=>simp
 subst Z
 refine⟨D',u',v',S,?_,?_⟩
 .rw[P]
  rwa [EE (by simp)]at o
 .rw[C6,AB]at n
  ext
theorem aRH{a:Dz}{b:O9 A}(l:∀ m,m < N->m < (bfQ after x0 m).length)(L:∀ i x,i < N->(bfQ after x0 N)[i]? = some x->(after x).length<=3)(hN:N<=100000) :
  ∃ D r s u v,fH (stT [(stN 3),(stN 4)]) stO ((bT after (bfQ after x0 N) N).zipIdx.map pP) [some (.d a),b,some (.m []),none,none,none,none,none]=.ok (.nx [some (.d a),b,some (.m D),r,s,u,v,none])/\Came (bfP after x0 N) D (bfP after x0 N).length:=by
 have J:N<=(bfQ after x0 N).length:=by
  cases N with
  | zero=>ext
  | succ n=>have a:=l n (by ext);have b:=(fO after x0 n).length_le;ext
 have y:(bT after (bfQ after x0 N) N).length=N:=by unfold bT;rw[AB,B2];ext
 obtain⟨T,F,D,r,s,u,v,H,C,_⟩:=gN (fs:=stT [(stN 3),(stN 4)]) (fb:=stO) (d:=pP) (xs:=(bT after (bfQ after x0 N) N).zipIdx) (Y:=[some (.d a),b,some (.m []),none,none,none,none,none])
  (λi Y=>∃ D r s u v,Y=[some (.d a),b,some (.m D),r,s,u,v,none]/\Came (bfP after x0 N) D (bfP after x0 i).length/\D.length<=3 * i) ⟨[],none,none,none,none,rfl,⟨λj x z h1 h2 _=>by simp[bfP]at h2;ext,λj _=>rfl,λp f=>by simp at f⟩,by simp⟩ λi p Y f B=>by
  obtain⟨D,r,s,u,v,e,C,U⟩:=B
  obtain⟨K,S⟩:=p
  rw[EN]at f
  have c:i < N:=by
   rcases FX i N with h|h
   · exact h
   · rw [C7 (by ext)]at f; cases f
  have t:=l i c
  obtain⟨⟨x,z⟩,k⟩:∃ p,(bfP after x0 i)[i]? = some p:=⟨_,AI (show i < (bfP after x0 i).length by rw[gB];exact t)⟩
  have E:(bfQ after x0 N)[i]? = some x:=by
   have:=iO (oW (show i<=N by ext)) k
   rw[<-eI,AC,this];rfl
  have o:(bT after (bfQ after x0 N) N)[i]? = some (mY after (bfQ after x0 N) x):=by
   unfold bT
   rw[AC,List.getElem?_take,AN c,E];rfl
  rw[o]at f
  simp only[DA,HF,FA,Prod.mk.injEq]at f
  obtain⟨rfl,rfl⟩:=f
  have g:=L i x c E
  obtain⟨M,I,Q,q,G,P⟩:=aU3 (N:=N) (a:=some (.d a)) (b:=b) (u:=u) (v:=v) (w:=some (.d (mY after (bfQ after x0 N) x))) k c g C (by ext)
  refine⟨[some (.d a),b,some (.m D),some (.d (.int (i:Int))),some (.d (mY after (bfQ after x0 N) x)),u,v,none],_,by rw[e];rfl,.inl ?_,M,some (.d (.int (i:Int))),some (.d (mY after (bfQ after x0 N) x)),I,Q,rfl,G,by ext⟩
  have O:iJ (.str "abc") (mY after (bfQ after x0 N) x)=_:=aRG (js:=(after x).map (nrQ (bfQ after x0 N))) (by rw[AB];exact g)
  simp only[stO,tG,tD,l5,w5,BH,BG,R.bind_ok,O,q]
 subst H
 rw[C6,y]at C
 exact⟨D,r,s,u,v,F,C⟩
theorem aRI(C:Came L D L.length)(h0:L[0]? = some (x0,[])):∀ (n j:Nat) (x:Dz) (z:L9 Nat) (cb:L9 Dz) (a r s u v:O9 A),j<=n->L[j]? = some (x,z)->cb.length+j<=1000000->
  z.length<=j/\bD stQ stW [a,some (.d (.int (j:Int))),some (.m D),r,s,u,v,some (.l cb)]=.ok (.nx [a,some (.d (.int 0)),some (.m D),r,s,u,v,some (.l (cb++z.reverse.map λc=>.str ⟨#[c]⟩))]):=by
 intro n
 induction n with
 | zero=>
  intro j x z cb a r s u v p e t
  have:j=0:=Nat.le_zero.mp p
  subst this
  rw[h0]at e
  cases e
  refine⟨by simp,?_⟩
  rw[dS (by simp[stQ,aC6])]
  simp
 | succ n ih=>
  intro j x z cb a r s u v p e t
  rcases Nat.eq_zero_or_pos j with f|f
  .subst f
   rw[h0]at e
   cases e
   refine⟨by simp,?_⟩
   rw[dS (by simp[stQ,aC6])]
   simp
  .obtain ⟨i,k,F,w,g,hi,b,rfl⟩:=C.got j x z f (AJ.mp e).1 e
   obtain⟨B,w1⟩:=ih i F w (cb++[.str ⟨#[97+k]⟩]) a r s u v (Nat.le_of_lt_succ (A0 b p)) hi (by rw[AY,BJ,Nat.add_assoc,EY 1];exact A2 (Nat.add_le_add_left b _) t)
   refine⟨by rw[AY];exact A2 (Nat.succ_le_succ B) b,?_⟩
   have y:=C.same (j:Int)
   have q:¬ (j:Int)=0:=λh=>absurd (IL h) (BY f)
   have E:stQ [a,some (.d (.int (j:Int))),some (.m D),r,s,u,v,some (.l cb)]=.ok true:=by simp[stQ,aC6,q];exact BY f
   have G:dIx (.tuple [.int (i:Int),.str ⟨#[97+k]⟩]) (.int 0)=.ok (.int (i:Int)):=rfl
   have i1:dIx (.tuple [.int (i:Int),.str ⟨#[97+k]⟩]) (.int 1)=.ok (.str ⟨#[97+k]⟩):=rfl
   have o:cb.length < 16777216:=CD (A2 (BP _ _) t) (by decide)
   have H:stW [a,some (.d (.int (j:Int))),some (.m D),r,s,u,v,some (.l cb)]=.ok (.nx [a,some (.d (.int (i:Int))),some (.m D),r,s,u,v,some (.l (cb++[.str ⟨#[97+k]⟩]))]):=by
    simp[stW,y,g,G,i1,o]
   rw[iL E H,w1]
   simp
theorem aM5(z:L9 Nat)(h:z.length<=1000000):sR (.str "") (.list (z.map λc=>.str ⟨#[c]⟩))=.ok (stD z):=by
 have b:lM (z.map λc=>PyData.str ⟨#[c]⟩)=some (z.map one):=by
  clear h
  induction z with
  | nil=>rfl
  | cons a t ih=>simp only[AU,lM,ih];rfl
 show(match lM (z.map λc=>PyData.str ⟨#[c]⟩)with|some ys=>if _ then R.ok _ else .bad|none=>.bad)=_
 rw[b]
 simp only
 rw[AN (by rw[aED,AB];show z.length+z.length * 0<=_;ext),aEE];rfl
theorem aWZ(c:∀ m,m < N->m < (bfQ after x0 m).length)(h:∀ i x,i < N->(bfQ after x0 N)[i]? = some x->(after x).length<=3)(hN:N<=100000)(l:(bfQ after x0 N).length<=400000){x:Dz}(f:(bfP after x0 N)[j]? = some (x,z)) :
  j4 [.d (.list (bT after (bfQ after x0 N) N)),.d (.int (j:Int))]=.ok (.d (stD z)):=by
 obtain⟨D,r,s,u,v,q,C⟩:=aRH (a:=.list (bT after (bfQ after x0 N) N)) (b:=some (.d (.int (j:Int)))) c h hN
 have e:=(AJ.mp f).1
 rw[gB]at e
 obtain⟨k,w⟩:=aRI C (aDG after x0 N) j j x z [] (some (.d (.list (bT after (bfQ after x0 N) N)))) r s u v (AK _) f (by simp;ext)
 have n:=aDA (cS (xs:=bT after (bfQ after x0 N) N) (by unfold bT;rw[AB,B2];ext))
 have g:=aM5 z (by ext)
 unfold j4
 rw[wZ]
 simp_all
end
section
variable{after:Dz->L9 Dz}{x0:Dz}
theorem aM6(h:(bfQ after x0 n).length<=n):bfP after x0 (n+1)=bfP after x0 n:=by
 have:(bfP after x0 n)[n]? = none:=C7 (by rw[gB];exact h)
 rw[bfP,this]
theorem vM(h:(bfQ after x0 m).length<=m):∀ k,bfP after x0 (m+k)=bfP after x0 m
 | 0=>rfl
 | k+1=>by
  have ih:=vM h k
  have:(bfQ after x0 (m+k)).length<=m+k:=by rw[<-gB,ih,gB];ext
  rw[<-Nat.add_assoc,aM6 this,ih]
theorem gS{n:Nat}(h:(bfQ after x0 m).length<=m):bfP after x0 n <+: bfP after x0 m:=by
 rcases Nat.le_total n m with q|q
 .exact oW q
 .obtain ⟨k,rfl⟩:=GJ q
  rw[vM h k];exact D6 _
structure Fto(after:Dz->List Dz)(x0:Dz)(wn:Dz->Bool)(k1 k2:Nat)(G Wn:List Dz->R Dz)(N:Nat):Prop where
 on:∀ m,m < N->m < (bfQ after x0 m).length/\∀ x,(bfQ after x0 m)[m]? = some x->wn x=false
 off:(bfQ after x0 N).length<=N\/∃ x,(bfQ after x0 N)[N]? = some x/\wn x=true
 key:(∀ x∈bfQ after x0 N,fF x=true)\/(∀ x∈bfQ after x0 N,jY x=true)
 len:(bfQ after x0 N).length<=100000
 hN:N<=100000
 hk1:k1<=12
 hk2:k2<=11
 hG:∀ m x,m < N->(bfQ after x0 N)[m]? = some x->(∃ d,G [x]=.ok d/\aH d=.ok (after x))/\(after x).length<=3
 hW:∀ m x,m<=N->(bfQ after x0 N)[m]? = some x->Wn [x]=.ok (.bool (wn x))
def aYP(after:Dz->L9 Dz)(x0:Dz)(wn:Dz->Bool)(k1 k2:Nat)(G Wn:L9 Dz->R Dz):Sq where
 after:=after
 x0:=x0
 stop fs m:=match fs[m]? with
  | some x=>wn x
  | none=>false
 k1:=k1
 k2:=12
 G:=G
 D:=cB 3 dH [.g k2 1 Wn]
theorem Fto.sq{b:Dz->Bool}(O:Fto after x0 b k1 k2 G Wn N):(aYP after x0 b k1 k2 G Wn).ok N where
 on m h:=by
  obtain⟨h1,h2⟩:=O.on m h
  refine⟨h1,?_⟩
  show(match (bfQ after x0 m)[m]? with|some x=>b x|none=>false)=false
  cases q:(bfQ after x0 m)[m]? with
  | none=>rfl
  | some x=>exact h2 x q
 off:=O.off.imp id λd=>by
  obtain⟨x,h1,h2⟩:=d
  show(match (bfQ after x0 N)[N]? with|some x=>b x|none=>false)=true
  rw[h1];exact h2
 key:=O.key
 len:=by have:=O.len;show(bfQ after x0 N).length<=_;ext
 hk1:=O.hk1
 hk2:=by show 12<=12;ext
 hG m x hm a:=by
  obtain⟨h1,h2⟩:=O.hG m x hm a
  exact⟨h1,by show(after x).length<=1000;ext⟩
 hD m hm hl:=by
  show cB 3 dH [.g k2 1 Wn] [.list (bfQ after x0 m),.int (m:Int)]=.ok (.bool (match (bfQ after x0 m)[m]? with|some x=>b x|none=>false))
  have c:m < (bfQ after x0 m).length:=hl
  have a:(bfQ after x0 m)[m]? = some (bfQ after x0 m)[m]:=AI c
  generalize (bfQ after x0 m)[m]=x at a
  have e:=O.hW m x hm (iO (mB hm) a)
  have k2:=O.hk2
  have f:dIx (.list (bfQ after x0 m)) (.int (m:Int))=.ok x:=j6 (c8 a)
  rw[a]
  unfold cB dH
  simp[f,k2,e,dOf]
theorem F_fto{o:Dz->Bool}(O:Fto after x0 o k1 k2 G Wn N) :
  ((bfQ after x0 N).length<=N/\dQ [.d x0,.g k1 1 G,.g k2 1 Wn]=.ok (.d (.tuple [.list (bfQ after x0 N),.none]))) \/
  ∃ x z,(bfP after x0 N)[N]? = some (x,z)/\o x=true/\dQ [.d x0,.g k1 1 G,.g k2 1 Wn]=.ok (.d (.tuple [.list (bfQ after x0 N),stD z])):=by
 have e:=aMY O.sq
 have e:cW [.d x0,.g k1 1 G,.g 12 2 (cB 3 dH [.g k2 1 Wn])]=.ok (.d (.tuple [.list (bfQ after x0 N),.list (bT after (bfQ after x0 N) N)])):=e
 have u:N<=(bfQ after x0 N).length:=by
  cases N with
  | zero=>ext
  | succ n=>have a:=(O.on n (by ext)).1;have b:=(fO after x0 n).length_le;ext
 have c:(bT after (bfQ after x0 N) N).length=N:=by unfold bT;rw[AB,B2];ext
 have r:dIx (.tuple [.list (bfQ after x0 N),.list (bT after (bfQ after x0 N) N)]) (.int 0)=.ok (.list (bfQ after x0 N)):=rfl
 have i1:dIx (.tuple [.list (bfQ after x0 N),.list (bT after (bfQ after x0 N) N)]) (.int 1)=.ok (.list (bT after (bfQ after x0 N) N)):=rfl
 by_cases s:(bfQ after x0 N).length<=N
 .refine .inl ⟨s,?_⟩
  have f:(N:Int)=((bfQ after x0 N).length:Int):=by ext
  unfold dQ lZ
  simp[iI,pN,eK,nO,e,r,i1,i3,c,eO,<-f,dOf]
 .obtain ⟨x,q,v⟩:=O.off.resolve_left s
  obtain⟨⟨l,z⟩,k⟩:∃ p,(bfP after x0 N)[N]? = some p:=⟨_,AI (show N < (bfP after x0 N).length by rw[gB];ext)⟩
  have j:l=x:=by
   have:(bfQ after x0 N)[N]? = some l:=by rw[<-eI,AC,k];rfl
   simp_all
  subst j
  have t:=aWZ (after:=after) (x0:=x0) (N:=N) (λm h=>(O.on m h).1) (λi x hi q=>(O.hG i x hi q).2) O.hN (by have:=O.len;ext) k
  have f:¬ (N:Int)=((bfQ after x0 N).length:Int):=by ext
  refine .inr ⟨l,z,k,v,?_⟩
  unfold dQ lZ
  simp[iI,pN,eK,nO,e,r,i1,i3,c,eO,f,t,dOf]
end
theorem nX{P:Nat->Prop}:∀ K:Nat,P K->∃ n,n<=K/\P n/\∀ m,m < n->¬ P m:=by
 intro K
 induction K using Nat.strongRecOn with
 | _ K ih=>
  ext
def rdD(al:L9 (L9 Nat))(ws:L9 Dz):Dz:=.tuple [.tuple (al.map bP),.tuple ws]
structure Rdr(al:List (List Nat))(sg:Nat):Prop where
 n1:1<=al.length
 n2:al.length<=1000
 s1:1<=sg
 s3:sg<=3
 row:∀ r∈al,r.length=sg/\∀ j∈r,j < al.length
section
variable{al:L9 (L9 Nat)}{sg:Nat}
theorem Rdr.at(M:Rdr al sg)(a:q < al.length):al[q]? = some (al.getD q [])/\(al.getD q []).length=sg/\∀ j∈al.getD q [],j < al.length:=by
 have e:al[q]? = some (al.getD q []):=by rw[AG,AI a];rfl
 exact⟨e,M.row _ (AH e)⟩
theorem aRJ:∀ {n:Nat} {xs:L9 Dz},xs.Nodup->(∀ x∈xs,∃ q:Nat,q < n/\x=.int (q:Int))->xs.length<=n:=by
 intro n xs nd h
 refine nG (λx=>match x with | .int q=>q.toNat|_=>0) n xs nd (λx c=>?_) (λa f b d e=>?_)
 · ext
 · ext
theorem tO{ws:L9 Dz}(M:Rdr al sg)(a:q < al.length):dIx (.tuple (al.map bP)) (.int (q:Int))=.ok (bP (al.getD q [])):=j5 (c8 (by rw[AC,(M.at a).1];rfl))
end
def sl(y z:L9 Nat):Prop:=y.length < z.length\/(y.length=z.length/\Lex (· < ·) y z)
theorem aKE:∀ {x y z:L9 Nat},Lex (· < ·) x y->Lex (· < ·) y z->Lex (· < ·) x z
 | _,_,_,.nil,.cons _=>.nil
 | _,_,_,.nil,.rel _=>.nil
 | _,_,_,.rel h,.rel k=>.rel (CV h k)
 | _,_,_,.rel h,.cons _=>.rel h
 | _,_,_,.cons _,.rel k=>.rel k
 | _,_,_,.cons h,.cons k=>.cons (aKE h k)
theorem aU4(z:L9 Nat){d:Nat}(h:c < d):Lex (· < ·) (z++[c]) (z++[d]):=by
 induction z with
 | nil=>exact .rel h
 | cons a z ih=>exact .cons ih
theorem aU5{y:L9 Nat}(h:Lex (· < ·) y z):y.length=z.length->∀ c d:Nat,Lex (· < ·) (y++[c]) (z++[d]):=by
 induction h with
 | nil=>intro e;simp at e
 | rel h=>intro _ c d;exact .rel h
 | cons h ih=>intro e c d;exact .cons (ih (by simpa using e) c d)
theorem aHA{x y:L9 Nat}(h:sl x y)(k:sl y z):sl x z:=by
 rcases h with h|⟨h1,h2⟩<;>rcases k with k|⟨k1,k2⟩
 · exact .inl (by ext)
 · exact .inl (by ext)
 · exact .inl (by ext)
 · exact .inr ⟨by ext, aKE h2 k2⟩
theorem aAW{y:L9 Nat}(h:sl y z)(c d:Nat):sl (y++[c]) (z++[d]):=by
 rcases h with h|⟨h1,h2⟩
 · exact .inl (by simp; ext)
 · exact .inr ⟨by simp; ext, aU5 h2 h1 c d⟩
theorem aW0(z:L9 Nat){d:Nat}(h:c < d):sl (z++[c]) (z++[d]):=.inr ⟨by simp,aU4 z h⟩
theorem aW1(z:L9 Nat)(c:Nat):sl z (z++[c]):=.inl (by simp)
section
variable{after:Dz->L9 Dz}{x0:Dz}
theorem aFG(ys:L9 Dz):∀ (k:Nat) (F:L9 PZ),(F.map (·.2)).Pairwise sl->(∀ p∈F,∀ j,k<=j->sl p.2 (z++[97+j]))->
  (((ys.zipIdx k).foldl (adP z) F).map (·.2)).Pairwise sl/\(∀ p∈(ys.zipIdx k).foldl (adP z) F,p∈F\/∃ j,p.2=z++[97+j])/\∀ (j:Nat) y,ys[j]? = some y->∃ zy,(y,zy)∈(ys.zipIdx k).foldl (adP z) F/\(zy=z++[97+(k+j)]\/sl zy (z++[97+(k+j)])):=by
 induction ys with
 | nil=>intro k F h1 h2;exact⟨h1,λp d=>.inl d,λj y e=>by simp at e⟩
 | cons y t ih=>
  intro k F h1 h2
  rw[List.zipIdx_cons,DS]
  by_cases g:y∈F.map (·.1)
  .have l:adP z F (y,k)=F:=AN g
   rw[l]
   obtain⟨a,b,c⟩:=ih (k+1) F h1 λp d j q=>h2 p d j (by ext)
   refine⟨a,b,λj w e=>?_⟩
   cases j with
   | zero=>
    simp at e
    subst e
    obtain⟨p,d,rfl⟩:=AT.mp g
    exact⟨p.2,(kT z _ F).subset d,.inr (h2 p d _ (by ext))⟩
   | succ j=>
    obtain⟨zy,i,f⟩:=c j w (by simpa using e)
    exact⟨zy,i,by rw[show k+(j+1)=k+1+j by ext];exact f⟩
  .have l:adP z F (y,k)=F++[(y,z++[97+k])]:=AL g
   rw[l]
   have o:((F++[(y,z++[97+k])]).map (·.2)).Pairwise sl:=by
    rw[BE,List.pairwise_append]
    refine⟨h1,by simp,λu n v m=>?_⟩
    obtain⟨p,d,rfl⟩:=AT.mp n
    rw[GO,AM]at m
    rw[m];exact h2 p d k (AK _)
   obtain⟨a,b,c⟩:=ih (k+1) (F++[(y,z++[97+k])]) o λp d j q=>by
    rcases BD.mp d with h|h
    .exact h2 p h j (by ext)
    .rw[AM.mp h];exact aW0 z (by ext)
   refine⟨a,λp d=>?_,λj w e=>?_⟩
   .rcases b p d with h|h
    .rcases BD.mp h with h|h
     · exact .inl h
     · exact .inr ⟨k, by rw [AM.mp h]⟩
    .exact .inr h
   .cases j with
    | zero=>
     simp at e
     subst e
     exact⟨z++[97+k],(kT z _ _).subset (by simp),.inl rfl⟩
    | succ j=>
     obtain⟨zy,i,f⟩:=c j w (by simpa using e)
     exact⟨zy,i,by rw[show k+(j+1)=k+1+j by ext];exact f⟩
theorem aKF(n:Nat):((bfP after x0 n).map (·.2)).Pairwise sl/\∀ x z,(bfP after x0 n)[n]? = some (x,z)->∀ p∈bfP after x0 n,∀ j,sl p.2 (z++[97+j]):=by
 induction n with
 | zero=>
  refine⟨by simp[bfP],λx z e p c j=>?_⟩
  have e:some (x0,([]:L9 Nat))=some (x,z):=e
  cases e
  rw[AM.mp c]
  exact aW1 [] _
 | succ n ih=>
  obtain⟨h1,h2⟩:=ih
  cases q:(bfP after x0 n)[n]? with
  | none=>
   have e:bfP after x0 (n+1)=bfP after x0 n:=by rw[bfP,q]
   rw[e]
   refine⟨h1,λx z f=>?_⟩
   have:=List.getElem?_eq_none_iff.mp q
   rw[C7 (by ext)]at f
   cases f
  | some p=>
   obtain⟨x,z⟩:=p
   have e:=vL q
   obtain⟨a,b,_⟩:=aFG (after x) 0 (bfP after x0 n) h1 λp c j _=>h2 x z q p c j
   rw[e]
   refine⟨a,λx1 k e1 p c j=>?_⟩
   have d:sl z k:=by
    have i:((after x).zipIdx.foldl (adP z) (bfP after x0 n))[n]? = some (x,z):=iO (kT z _ _) q
    have m:=(AJ.mp i)
    have r:=(AJ.mp e1)
    obtain⟨l,g⟩:=m
    obtain⟨s,o⟩:=r
    have:=CL.mp a n (n+1) (by rw[AB];exact l) (by rw[AB];exact s) (by ext)
    rw[FM,FM,g,o]at this
    exact this
   rcases b p c with h|⟨t,h⟩
   .exact aHA (h2 x z q p h 0) (aAW d _ _)
   .rw[h];exact aAW d _ _
def gC(after:Dz->L9 Dz)(x0:Dz)(w:L9 Nat):Dz:=w.foldl (λx c=>((after x)[c - 97]?).getD .none) x0
theorem aRK{x:Dz}(a:(bfQ after x0 N).length<=N)(h:(bfP after x0 N)[i]? = some (x,z)):(bfP after x0 i)[i]? = some (x,z)/\bfP after x0 (i+1) <+: bfP after x0 N:=by
 have hi:i < (bfP after x0 i).length:=by
  rcases FX i (bfP after x0 i).length with q|q
  .exact q
  .have h1:=(gS (n:=N) (show(bfQ after x0 i).length<=i by rw[<-gB];exact q)).length_le
   ext
 exact⟨nW (gS a) hi h,gS a⟩
theorem aRL(l:(bfQ after x0 N).length<=N)(v:∀ x∈bfQ after x0 N,(after x).length=sg)(w:L9 Nat):(∀ c∈w,aY sg c=true)->∃ z,(gC after x0 w,z)∈bfP after x0 N/\(z=w\/sl z w):=by
 refine m7 (P:=λw=>(∀ c∈w,aY sg c=true)->∃ z,(gC after x0 w,z)∈bfP after x0 N/\(z=w\/sl z w)) (λ_=>⟨[],AH (aDG after x0 N),.inl rfl⟩) (λw c t o=>?_) w
 obtain⟨z,q,d⟩:=t λc l=>o c (CN _ l)
 have s:=A5 (o c (by simp))
 obtain⟨i,hi⟩:=BQ q
 obtain⟨b,k⟩:=aRK l hi
 obtain⟨s1,A⟩:=aKF (after:=after) (x0:=x0) i
 obtain⟨_,_,g⟩:=aFG (after (gC after x0 w)) 0 (bfP after x0 i) s1 λp k j _=>A _ z b p k j
 have a:gC after x0 w∈bfQ after x0 N:=by rw[<-eI];exact AT.mpr ⟨_,q,rfl⟩
 have m:=v _ a
 have r:(after (gC after x0 w))[c - 97]? = some (after (gC after x0 w))[c - 97]:=AI (by ext)
 obtain⟨y,n,f⟩:=g (c - 97) _ r
 rw[<-vL b]at n
 have u:gC after x0 (w++[c])=(after (gC after x0 w))[c - 97]:=by
  unfold gC
  rw[FB,DS,List.foldl_nil]
  show((after (gC after x0 w))[c - 97]?).getD .none=_
  rw[r];rfl
 rw[u]
 refine⟨y,k.subset n,?_⟩
 rw[show 97+(0+(c - 97))=c by ext]at f
 rcases d with rfl|d
 .exact f
 .exact .inr (f.elim (λe=>by rw[e];exact aAW d _ _) λh=>aHA h (aAW d _ _))
theorem aRM(n:Nat):∀ p∈bfP after x0 n,gC after x0 p.2=p.1:=by
 induction n with
 | zero=>intro p a;rw[AM.mp a];rfl
 | succ n ih=>
  rw[bfP]
  split
  .rename_i q d
   have b:=ih q (AH d)
   have c:∀ (ys:L9 (Dz×Nat)) (F:L9 PZ),(∀ y∈ys,(after q.1)[y.2]? = some y.1)->(∀ p∈F,gC after x0 p.2=p.1)->∀ p∈ys.foldl (adP q.2) F,gC after x0 p.2=p.1:=by
    intro ys
    induction ys with
    | nil=>exact λF _ h=>h
    | cons y t iht=>
     intro F f h
     refine iht _ (λe h'=>f e (AQ _ h')) λp a=>?_
     unfold adP at a
     split at a
     .grind
     .rcases BD.mp a with z|z
      .grind
      .rw[AM.mp z]
       show gC after x0 (q.2++[97+y.2])=y.1
       unfold gC at b ⊢
       ext
   ext
  .exact ih
structure FtoC(after:Dz->List Dz)(x0:Dz)(wn:Dz->Bool)(k1 k2:Nat)(G Wn:List Dz->R Dz)(M:Nat):Prop where
 cl:(bfQ after x0 M).length<=M
 hM:M<=100000
 key:(∀ x∈bfQ after x0 M,fF x=true)\/(∀ x∈bfQ after x0 M,jY x=true)
 hk1:k1<=12
 hk2:k2<=11
 hG:∀ x∈bfQ after x0 M,(∃ d,G [x]=.ok d/\aH d=.ok (after x))/\(after x).length<=3
 hW:∀ x∈bfQ after x0 M,Wn [x]=.ok (.bool (wn x))
theorem F_ftoC{b:Dz->Bool}{M:Nat}(O:FtoC after x0 b k1 k2 G Wn M) :
  ((∀ p∈bfP after x0 M,b p.1=false)/\dQ [.d x0,.g k1 1 G,.g k2 1 Wn]=.ok (.d (.tuple [.list (bfQ after x0 M),.none]))) \/
  ∃ (i:Nat) (x:Dz) (z:L9 Nat) (fs:L9 Dz),(bfP after x0 M)[i]? = some (x,z)/\b x=true/\(∀ (j:Nat) y v,j < i->(bfP after x0 M)[j]? = some (y,v)->b y=false)/\dQ [.d x0,.g k1 1 G,.g k2 1 Wn]=.ok (.d (.tuple [.list fs,stD z])):=by
 obtain⟨N,hN,h2,B⟩:=nX (P:=λn=>(bfQ after x0 n).length<=n\/∃ x,(bfQ after x0 n)[n]? = some x/\b x=true) M (.inl O.cl)
 have sub:∀ n x,x∈bfQ after x0 n->x∈bfQ after x0 M:=λn x a=>by
  rw[<-eI]at a ⊢
  obtain⟨p,f,rfl⟩:=AT.mp a
  exact DH ((gS O.cl).subset f)
 have u:(bfQ after x0 N).length<=M:=by
  have:=(gS (n:=N) O.cl).length_le
  rw[gB,gB]at this
  exact A2 this O.cl
 have hM:=O.hM
 have T:Fto after x0 b k1 k2 G Wn N:={
  on:=λm C=>by
   ext
  off:=h2
  key:=O.key.imp (λh x a=>h x (sub N x a)) (λh x a=>h x (sub N x a))
  len:=by ext
  hN:=by ext
  hk1:=O.hk1
  hk2:=O.hk2
  hG:=λm x _ a=>O.hG x (sub N x (AH a))
  hW:=λm x _ a=>O.hW x (sub N x (AH a))}
 have c:∀ (j:Nat) y v,j < N->(bfP after x0 M)[j]? = some (y,v)->b y=false:=λj y v l e=>by
  refine(T.on j l).2 y ?_
  have:=(T.on j l).1
  have A:(bfP after x0 j)[j]? = some (y,v):=nW (gS O.cl) (by rw[gB];exact this) e
  rw[<-eI,AC,A];rfl
 rcases F_fto T with ⟨o,e⟩|⟨x,z,f,w,e⟩
 .left
  have s:bfP after x0 M=bfP after x0 N:=by
   obtain⟨k,t⟩:=GJ hN
   rw[<-t,vM o k]
  have r:bfQ after x0 N=bfQ after x0 M:=by rw[<-eI,<-eI,s]
  refine⟨λp f=>?_,by rw[<-r];exact e⟩
  obtain⟨j,l⟩:=BQ f
  have q:=(AJ.mp l).1
  rw[s,gB]at q
  ext
 .exact .inr ⟨N,x,z,_,iO (gS O.cl) f,w,c,e⟩
end
def prN(a b:Nat):Dz:=.tuple [.int (a:Int),.int (b:Int)]
def afP(r1 r2:L9 (L9 Nat)):Dz->L9 Dz
 | .tuple [.int a,.int b]=>((r1.getD a.toNat []).zip (r2.getD b.toNat [])).map λp=>prN p.1 p.2
 | _=>[]
theorem tP(r1 r2:L9 (L9 Nat))(a b:Nat):afP r1 r2 (prN a b)=((r1.getD a []).zip (r2.getD b [])).map λp=>prN p.1 p.2:=by
 show((r1.getD ((a:Int)).toNat []).zip (r2.getD ((b:Int)).toNat [])).map _=_
 rw[show((a:Int)).toNat=a by ext,show((b:Int)).toNat=b by ext]
def wnP(w1 w2:L9 Str):Dz->Bool
 | .tuple [.int a,.int b]=>decide (w1.getD a.toNat ""≠w2.getD b.toNat "")
 | _=>false
theorem aOK(w1 w2:L9 Str)(a b:Nat):wnP w1 w2 (prN a b)=decide (w1.getD a ""≠w2.getD b ""):=by
 show decide (w1.getD ((a:Int)).toNat ""≠w2.getD ((b:Int)).toNat "")=_
 rw[show((a:Int)).toNat=a by ext,show((b:Int)).toNat=b by ext]
def rQ(w:Str):Prop:=w="by"\/w="out"\/w="ever"
structure Rdw(al:List (List Nat))(ws:List Str)(sg:Nat):Prop where
 r:Rdr al sg
 wl:ws.length=al.length
 ww:∀ w∈ws,rQ w
def rdW(al:L9 (L9 Nat))(ws:L9 Str):Dz:=rdD al (ws.map .str)
section
variable{r1 r2:L9 (L9 Nat)}{w1 w2:L9 Str}{sg:Nat}
theorem Rdw.w(M:Rdw r1 w1 sg)(b:q < r1.length):rQ (w1.getD q "")/\dIx (.tuple (w1.map .str)) (.int (q:Int))=.ok (.str (w1.getD q "")):=by
 have a:=M.wl
 have e:w1[q]? = some (w1.getD q ""):=by rw[AG,AI (by ext)];rfl
 refine⟨M.ww _ (AH e),j5 (c8 ?_)⟩
 rw[AC,e];rfl
theorem mC(M1:Rdr r1 sg)(M2:Rdr r2 sg){a:Nat}(j:a < r1.length)(hb:b < r2.length):∀ {x:Dz},x∈bfQ (afP r1 r2) (prN a b) n->∃ c d:Nat,c < r1.length/\d < r2.length/\x=prN c d:=by
 induction n with
 | zero=>intro x e;rw[AM.mp e];exact⟨a,b,j,hb,rfl⟩
 | succ n ih=>
  intro x e
  rw[bfQ]at e
  split at e
  .rename_i y f
   rcases adA_mem _ e with h|h
   .exact ih h
   .obtain ⟨c,d,g,i,rfl⟩:=ih (AH f)
    rw[tP]at h
    obtain⟨p,k,rfl⟩:=AT.mp h
    have:=ET (a:=p.1) (b:=p.2) k
    exact⟨p.1,p.2,(M1.at g).2.2 _ this.1,(M2.at i).2.2 _ this.2,rfl⟩
  .exact ih e
theorem aRN(nd:xs.Nodup)(h:∀ x∈xs,∃ c d:Nat,c < n/\d < m/\x=prN c d):xs.length<=n * m:=by
 refine nG (λx=>match x with | .tuple [.int a,.int b]=>a.toNat * m+b.toNat|_=>0) (n * m) xs nd (λx i=>?_) (λx i y q e=>?_)
 .obtain ⟨c,d,l,g,rfl⟩:=h x i
  show c * m+d < n * m
  exact A0 (GC g _) (by rw[<-Nat.succ_mul];exact Nat.mul_le_mul_right _ l)
 .obtain ⟨c,d,l,g,rfl⟩:=h x i
  obtain⟨k,f,o,j,rfl⟩:=h y q
  have e:c * m+d=k * m+f:=e
  have h1:(c * m+d) % m=d:=by rw[EY,GY,FJ g]
  have h2:(k * m+f) % m=f:=by rw[EY,GY,FJ j]
  have p:d=f:=by rw[<-h1,e,h2]
  subst p
  rw[Nat.eq_of_mul_eq_mul_right (CD (B8 _) g) (Nat.add_right_cancel e)]
theorem tQ(M1:Rdr r1 sg)(M2:Rdr r2 sg){a:Nat}(d:a < r1.length)(hb:b < r2.length)(n:Nat):(bfQ (afP r1 r2) (prN a b) n).length<=r1.length * r2.length:=
 aRN (rO _ _ n) λx c=>mC M1 M2 d hb c
theorem aOL(M1:Rdw r1 w1 sg)(M2:Rdw r2 w2 sg){a:Nat}(c:a < r1.length)(hb:b < r2.length) :
  eM [.d (rdW r1 w1),.d (rdW r2 w2),.d (prN a b)]=.ok (.d (.list (afP r1 r2 (prN a b)))):=by
 have g:dIx (rdW r1 w1) (.int 0)=.ok (.tuple (r1.map bP)):=rfl
 have n:dIx (rdW r2 w2) (.int 0)=.ok (.tuple (r2.map bP)):=rfl
 have k:dIx (prN a b) (.int 0)=.ok (.int (a:Int)):=rfl
 have i:dIx (prN a b) (.int 1)=.ok (.int (b:Int)):=rfl
 have i1:=tO (ws:=w1.map .str) M1.r c
 have h:=tO (ws:=w2.map .str) M2.r hb
 have s3:=M1.r.s3
 have l:=(M1.r.at c).2.1
 have m:=(M2.r.at hb).2.1
 have e:aH (bP (r1.getD a []))=.ok ((r1.getD a []).map λj:Nat=>.int (j:Int)):=cR (by rw[AB];ext)
 have d2:aH (bP (r2.getD b []))=.ok ((r2.getD b []).map λj:Nat=>.int (j:Int)):=cR (by rw[AB];ext)
 have f:iJ (bP (r1.getD a [])) (bP (r2.getD b []))=.ok (afP r1 r2 (prN a b)):=by
  unfold iJ
  rw[e,d2]
  show R.ok _=R.ok _
  rw[tP,List.zip_map,AZ]
  rfl
 unfold eM rE
 simp_all
theorem aOM(M1:Rdw r1 w1 sg)(M2:Rdw r2 w2 sg){a:Nat}(e:a < r1.length)(hb:b < r2.length) :
  fK [.d (rdW r1 w1),.d (rdW r2 w2),.d (prN a b)]=.ok (.d (.bool (!wnP w1 w2 (prN a b)))):=by
 have m:dIx (rdW r1 w1) (.int 1)=.ok (.tuple (w1.map .str)):=rfl
 have k:dIx (rdW r2 w2) (.int 1)=.ok (.tuple (w2.map .str)):=rfl
 have j:dIx (prN a b) (.int 0)=.ok (.int (a:Int)):=rfl
 have i:dIx (prN a b) (.int 1)=.ok (.int (b:Int)):=rfl
 obtain⟨f,i1⟩:=M1.w e
 obtain⟨c,h⟩:=M2.w hb
 have l:=aUW f c
 have g:(!wnP w1 w2 (prN a b))=decide (w1.getD a ""=w2.getD b ""):=by rw[aOK];simp
 rw[g]
 unfold fK uE
 simp_all
def y7(r1 r2:L9 (L9 Nat))(a b:Nat):L9 PZ:=bfP (afP r1 r2) (prN a b) (r1.length * r2.length)
def p4(r1 r2:L9 (L9 Nat))(w1 w2:L9 Str)(a b:Nat):O9 (L9 Nat):=((y7 r1 r2 a b).find? λp=>wnP w1 w2 p.1).map (·.2)
end
@[simp] theorem aZE(i:Nat)(f:Sg->R Fw)(Y:Sg):aMI i f Y=f (fzM i Y):=id rfl
@[simp] theorem aZ1(i:Nat)(Y:Sg):fzM i Y=match Y[i]? with|some (some (.m a0))=>Y.set i (some (.f a0))|_=>Y:=id rfl
@[simp] theorem aYQ(i:Nat)(Y:Sg):aAU i Y=match Y[i]? with|some (some (.f a0))=>if a0.length<=16777216 then .ok (a0.map (·.1))else .bad|_=>.bad:=id rfl
section
variable{r1 r2:L9 (L9 Nat)}{w1 w2:L9 Str}{sg:Nat}
theorem aU6{w v:Str}(h:rQ w)(h':rQ v):dNe (.str w) (.str v)=.ok (.bool (!decide (w=v))):=by
 rw[rJ (kS h) (kS h'),aCZ]
 congr 3
end
def stN1(al:L9 (L9 Nat))(q c:Nat):Nat:=(al.getD q []).getD (c - 97) 0
def runN(al:L9 (L9 Nat))(q:Nat)(z:L9 Nat):Nat:=z.foldl (stN1 al) q
def Sgs(sg:Nat)(z:L9 Nat):Prop:=∀ c∈z,aY sg c=true
section
variable{al r1 r2:L9 (L9 Nat)}{ws w1 w2:L9 Str}{sg:Nat}
theorem aDI(h:aY sg c=true):97<=c/\c - 97 < sg:=by
 unfold aY at h
 ext
theorem dN(M:Rdr al sg)(a:q < al.length)(b:aY sg c=true):(al.getD q [])[c - 97]? = some (stN1 al q c)/\stN1 al q c < al.length:=by
 have hr:=M.at a
 have h:=aDI b
 have d:c - 97 < (al.getD q []).length:=by rw[hr.2.1];exact h.2
 have e:(al.getD q [])[c - 97]? = some (stN1 al q c):=by
  unfold stN1
  ext
 exact⟨e,hr.2.2 _ (AH e)⟩
theorem mD(M:Rdr al sg):∀ (z:L9 Nat) {q:Nat},Sgs sg z->q < al.length->runN al q z < al.length
 | [],_,_,h=>h
 | c::t,_,hs,h=>mD M t (λc a=>hs c (AQ _ a)) (dN M h (hs c AX)).2
theorem aKG(M1:Rdr r1 sg)(M2:Rdr r2 sg):∀ (z:L9 Nat) {a b:Nat},Sgs sg z->a < r1.length->b < r2.length->gC (afP r1 r2) (prN a b) z=prN (runN r1 a z) (runN r2 b z)
 | [],_,_,_,_,_=>rfl
 | c::t,a,b,hs,ha,hb=>by
  have hc:=hs c AX
  obtain⟨e1,d⟩:=dN M1 ha hc
  obtain⟨e2,f⟩:=dN M2 hb hc
  have e:((afP r1 r2 (prN a b))[c - 97]?).getD .none=prN (stN1 r1 a c) (stN1 r2 b c):=by
   rw[tP,AC]
   have:((r1.getD a []).zip (r2.getD b []))[c - 97]? = some (stN1 r1 a c,stN1 r2 b c):=G6.mpr ⟨e1,e2⟩
   rw[this];rfl
  show gC (afP r1 r2) (((afP r1 r2 (prN a b))[c - 97]?).getD .none) t=_
  rw[e]
  exact aKG M1 M2 t (λc hc=>hs c (AQ _ hc)) d f
theorem aRO{after:Dz->L9 Dz}{x0:Dz}(n:Nat):(∀ x∈bfQ after x0 n,(after x).length<=sg)->∀ p∈bfP after x0 n,Sgs sg p.2:=by
 induction n with
 | zero=>intro _ p a c e;rw[AM.mp a]at e;simp at e
 | succ n b=>
  intro j
  have b:=b λx m=>j x ((fO after x0 n).subset m)
  rw[bfP]
  split
  .rename_i q i
   have g:=b q (AH i)
   have o:(after q.1).length<=sg:=j _ ((fO after x0 n).subset (by rw[<-eI];exact DH (AH i)))
   have f:∀ (ys:L9 (Dz×Nat)) (F:L9 PZ),(∀ y∈ys,y.2 < sg)->(∀ p∈F,Sgs sg p.2)->∀ p∈ys.foldl (adP q.2) F,Sgs sg p.2:=by
    intro ys
    induction ys with
    | nil=>exact λF _ h=>h
    | cons y t iht=>
     intro F d h
     refine iht _ (λl h'=>d l (AQ _ h')) λp a=>?_
     unfold adP at a
     split at a
     .exact h p a
     .rcases BD.mp a with z|z
      .exact h p z
      .rw[AM.mp z]
       intro c e
       rcases BD.mp e with k|k
       .exact g c k
       .rw[AM.mp k]
        have:=d y AX
        unfold aY
        exact A1 (by ext)
   refine f _ _ (λy d=>?_) b
   have:=List.snd_lt_add_of_mem_zipIdx d
   ext
  .exact b
def EqI(al:L9 (L9 Nat))(ws:L9 Str)(sg i x y:Nat):Prop:=∀ w,Sgs sg w->w.length<=i->ws.getD (runN al x w) ""=ws.getD (runN al y w) ""
theorem EqI.up(h:EqI al ws sg (i+1) x y):EqI al ws sg i x y:=λw a b=>h w a (by ext)
theorem EqI.sy(h:EqI al ws sg i x y):EqI al ws sg i y x:=λw a b=>(h w a b).symm
theorem EqI.tr{z:Nat}(h:EqI al ws sg i x y)(k:EqI al ws sg i y z):EqI al ws sg i x z:=λw a b=>(h w a b).trans (k w a b)
def gD(al:L9 (L9 Nat))(ws:L9 Str)(sg i x:Nat):Prop:=∀ b,b < x->¬ EqI al ws sg i x b
theorem oX(i x:Nat):∃ r,r<=x/\EqI al ws sg i x r/\gD al ws sg i r:=by
 obtain⟨r,h1,h2,c⟩:=nX (P:=λr=>EqI al ws sg i x r) x (λw _ _=>rfl)
 exact⟨r,h1,h2,λb a h=>c b a (h2.tr h)⟩
theorem aFH(h:∀ x,x < al.length->gD al ws sg (i+1) x->gD al ws sg i x)(hx:x < al.length)(g:y < al.length)(e:EqI al ws sg i x y):EqI al ws sg (i+1) x y:=by
 obtain⟨r,r1,r2,b⟩:=oX (al:=al) (ws:=ws) (sg:=sg) (i+1) x
 obtain⟨s,s1,a,f⟩:=oX (al:=al) (ws:=ws) (sg:=sg) (i+1) y
 have c:=h r (by ext) b
 have d:=h s (by ext) f
 have e2:EqI al ws sg i r s:=(r2.up.sy.tr e).tr a.up
 have:r=s:=by
  rcases DY r s with q|q|q
  · exact absurd e2.sy (d r q)
  · exact q
  · exact absurd e2 (c s q)
 subst this
 exact r2.tr a.sy
theorem aDJ(M:Rdr al sg)(h:∀ x y,x < al.length->y < al.length->EqI al ws sg i x y->EqI al ws sg (i+1) x y):∀ (k:Nat) {x y:Nat},x < al.length->y < al.length->EqI al ws sg i x y->EqI al ws sg (i+k) x y
 | 0,_,_,_,_,e=>e
 | k+1,x,y,hx,hy,e=>λw hs hl=>by
  cases w with
  | nil=>exact e [] hs (B8 _)
  | cons c t=>
   have hc:=hs c AX
   obtain⟨_,g⟩:=dN M hx hc
   obtain⟨_,b⟩:=dN M hy hc
   have e1:=h x y hx hy e
   have e2:EqI al ws sg i (stN1 al x c) (stN1 al y c):=λu a hl=>e1 (c::u) (λd f=>by
    rcases AW.mp f with q|q
    · simp_all
    · exact a d q) (by simpa using hl)
   exact aDJ M h k g b e2 t (λc hc=>hs c (AQ _ hc)) (by simp at hl;ext)
theorem aDK(p q:α->Bool):∀ l:L9 α,(∀ a∈l,p a=true->q a=true)->(∃ a∈l,p a=false/\q a=true)->l.countP p < l.countP q
 | [],_,⟨a,h,_⟩=>by simp at h
 | x::t,hi,⟨a,h,h1,h2⟩=>by
  rw[List.countP_cons,List.countP_cons]
  have hle:=List.countP_mono_left (l:=t) (p:=p) (q:=q) λa b=>hi a (AQ _ b)
  rcases AW.mp h with c|c
  .grind
  .have d:=aDK p q t (λa b=>hi a (AQ _ b)) ⟨a,c,h1,h2⟩
   ext
open Classical in
theorem aW2(M:Rdr al sg){a:Nat}(k:a < al.length)(hb:b < al.length)(hz:Sgs sg z)(n:ws.getD (runN al a z) ""≠ws.getD (runN al b z) "") :
  ∃ w,Sgs sg w/\w.length+1<=al.length/\ws.getD (runN al a w) ""≠ws.getD (runN al b w) "":=by
 obtain⟨L,h1,h2,m⟩:=nX (P:=λi=>¬ EqI al ws sg i a b) z.length (λh=>n (h z hz (AK _)))
 have up:∀ i,i < L->∃ x,x < al.length/\¬ gD al ws sg i x/\gD al ws sg (i+1) x:=λi hi=>B9 λg=>by
  have st:∀ x,x < al.length->gD al ws sg (i+1) x->gD al ws sg i x:=λx c h=>B9 λh'=>g ⟨x,c,h',h⟩
  have e:EqI al ws sg i a b:=B9 λh=>m i hi h
  have:=aDJ (ws:=ws) M (λx y c q=>aFH st c q) (L - i) k hb e
  rw[show i+(L - i)=L by ext]at this
  exact h2 this
 have f:∀ i,i<=L->i+1<=(range al.length).countP λx=>decide (gD al ws sg i x):=by
  intro i
  induction i with
  | zero=>
   intro _
   have:0∈range al.length:=BC.mpr (by ext)
   exact List.countP_pos_iff.mpr ⟨0,this,A1 λb hb=>absurd hb (Nat.not_lt_zero _)⟩
  | succ i ih=>
   intro hi
   have:=ih (by ext)
   obtain⟨x,c,j,r⟩:=up i (by ext)
   have:=aDK (λx=>decide (gD al ws sg i x)) (λx=>decide (gD al ws sg (i+1) x)) (range al.length) (λx _ h=>A1 λb hb e=>A5 h b hb e.up) ⟨x,BC.mpr c,BA j,A1 r⟩
   ext
 have s:=f L (AK _)
 have o:(range al.length).countP (λx=>decide (gD al ws sg L x))<=al.length:=by
  have:=IF (p:=λx=>decide (gD al ws sg L x)) (l:=range al.length)
  rw[BB]at this;exact this
 obtain⟨w,d⟩:=F8.mp h2
 obtain⟨s1,d⟩:=F8.mp d
 obtain⟨t,d⟩:=F8.mp d
 exact⟨w,s1,by ext,d⟩
end
def ix1(ks:L9 Dz)(k:Dz):Nat:=ks.findIdx λy=>decide (y=k)
theorem aFI{a:L9 Dz}(h:k∈a):a[ix1 a k]? = some k/\∀ j,j < ix1 a k->a[j]? ≠ some k:=by
 have c:∃ x∈a,decide (x=k)=true:=⟨k,h,A1 rfl⟩
 have b:ix1 a k < a.length:=List.findIdx_lt_length_of_exists c
 refine⟨?_,λj d e=>?_⟩
 .have:=List.findIdx_getElem (w:=b)
  rw[AI b]
  exact CQ some (A5 this)
 .obtain ⟨g,f⟩:=AJ.mp e
  have:=List.not_of_lt_findIdx d
  simp_all
theorem aU7{a:L9 Dz}(h:a[i]? = some k)(b:∀ j,j < i->a[j]? ≠ some k):ix1 a k=i:=by
 obtain⟨h1,h2⟩:=aFI (AH h)
 rcases DY (ix1 a k) i with q|q|q
 · exact absurd h1 (b _ q)
 · exact q
 · exact absurd h (h2 _ q)
theorem aON{x:Dz}{a:L9 Dz}(hx:aH x=.ok a)(N:a.length<=100000)(K:(∀ k∈a,fF k=true)\/(∀ k∈a,jY k=true)):jC [.d x]=.ok (.d (.list (a.map λk=>.int (ix1 a k:Int)))):=by
 have n:=aDA hx
 have same:∀ (k:Dz) (M:L9 (Dz×Dz)),k∈a->(∀ p∈M,p.1∈a)->bH k (M.map (·.1))=true:=λk M h1 h2=>by
  unfold bH
  ext
 have f:∀ (M:L9 (Dz×Dz)) k,bJ M k=(cM M k).isSome:=λM k=>rfl
 obtain⟨L,B,M,u2,o,F,g,q,I⟩:=gN (fs:=stT [(stN 2),(stN 3)]) (fb:=pO 1 (eV 3) (eV 2)) (d:=pP) (xs:=a.zipIdx) (Y:=[some (.d x),some (.m []),none,none])
  (λi Y=>∃ (M:L9 (Dz×Dz)) (u2 o:O9 A),Y=[some (.d x),some (.m M),u2,o]/\(∀ k,cM M k=if k∈a.take i then some (.int (ix1 a k:Int))else none)/\(∀ p∈M,p.1∈a)/\M.length<=i)
  ⟨[],none,none,rfl,λk=>by simp[cM],λp r=>by simp at r,AK _⟩ (λi p Y r v=>by
  obtain⟨M,u2,o,e,g,q,I⟩:=v
  subst e
  obtain⟨k,b⟩:=p
  obtain⟨c,rfl⟩:a[i]? = some k/\b=i:=by
   ext
  have t:=AH c
  have D:b < a.length:=(AJ.mp c).1
  have w:=same k M t q
  have J:M.length<=16777216:=by ext
  have C:a.take (b+1)=a.take b++[k]:=by rw[FC,c];rfl
  by_cases h:k∈a.take b
  .have u:bJ M k=true:=by rw[f,g k,AN h];rfl
   refine⟨[some (.d x),some (.m M),some (.d (.int (b:Int))),some (.d k)],[some (.d x),some (.m M),some (.d (.int (b:Int))),some (.d k)],by simp[pP],.inl ?_,M,some (.d (.int (b:Int))),some (.d k),rfl,λE=>?_,q,by ext⟩
   .simp_all
   .grind
  .have u:bJ M k=false:=by rw[f,g k,AL h];rfl
   have H:ix1 a k=b:=aU7 c λj G e=>h (by
    refine AH (i:=j) ?_
    rw[EX G];exact e)
   refine⟨[some (.d x),some (.m M),some (.d (.int (b:Int))),some (.d k)],[some (.d x),some (.m (putM M k (.int (b:Int)))),some (.d (.int (b:Int))),some (.d k)],by simp[pP],.inl ?_,putM M k (.int (b:Int)),some (.d (.int (b:Int))),some (.d k),rfl,λE=>?_,λp r=>?_,?_⟩
   .simp_all
   .rw[kU u,C]
    ext
   .unfold putM at r
    ext
   .unfold putM
    rw[u,AL (by decide),AY];simp;ext)
 rw[C6,List.take_length]at g
 subst F
 have z:=bR (fs:=stN 0) (fe:=lW 1 (eV 0)) (Y0:=[none,some (.m M)]) (d:=λk:Dz=>k) (g:=λk:Dz=>PyData.int (ix1 a k:Int)) (xs:=a) λk l=>⟨_,rfl,by
  have w:=same k M l q
  have y:=g k
  rw[AN l]at y
  simp[w,y]⟩
 rw[IM]at z
 have s:fH (stT [(stN 2),(stN 3)]) (pO 1 (eV 3) (eV 2)) (a.zipIdx.map pP) [some (.d x),some (.m []),none,none]=.ok (.nx [some (.d x),some (.m M),u2,o]):=B
 unfold jC aCO
 simp[n,s,hx,cX,z]
section
variable{al:L9 (L9 Nat)}{ws:L9 Str}{sg:Nat}
def rp(al:L9 (L9 Nat))(ws:L9 Str)(sg i x:Nat):Nat:=(oX (al:=al) (ws:=ws) (sg:=sg) i x).choose
theorem aHB(i x:Nat):rp al ws sg i x<=x:=(oX (al:=al) (ws:=ws) (sg:=sg) i x).choose_spec.1
theorem p5(i x:Nat):EqI al ws sg i x (rp al ws sg i x):=(oX (al:=al) (ws:=ws) (sg:=sg) i x).choose_spec.2.1
theorem rR(i x:Nat):gD al ws sg i (rp al ws sg i x):=(oX (al:=al) (ws:=ws) (sg:=sg) i x).choose_spec.2.2
theorem aKH{r s:Nat}(h1:gD al ws sg i r)(h2:gD al ws sg i s)(h:EqI al ws sg i r s):r=s:=by
 rcases DY r s with q|q|q
 · exact absurd h.sy (h2 r q)
 · exact q
 · exact absurd h (h1 s q)
theorem aFJ{i x r:Nat}(h:EqI al ws sg i x r)(k:gD al ws sg i r):r=rp al ws sg i x:=aKH k (rR i x) (h.sy.tr (p5 i x))
theorem rS:rp al ws sg i x=rp al ws sg i y↔EqI al ws sg i x y:=by
 constructor
 .intro h
  have:=p5 (al:=al) (ws:=ws) (sg:=sg) i y
  rw[<-h]at this
  exact(p5 i x).tr this.sy
 .intro h
  exact aKH (rR i x) (rR i y) ((p5 i x).sy.tr (h.tr (p5 i y)))
theorem aDL{i:Nat}{κ:Nat->Dz}(c:∀ x y,x < n->y < n->(κ x=κ y↔EqI al ws sg i x y))(hx:x < n):ix1 ((range n).map κ) (κ x)=rp al ws sg i x:=by
 have a:∀ j,j < n->((range n).map κ)[j]? = some (κ j):=λj g=>by rw[AC,CB g];rfl
 obtain⟨h1,h2⟩:=aFI (AH (a x hx))
 generalize ix1 ((range n).map κ) (κ x)=r at *
 have hr:r < n:=by
  have:=(AJ.mp h1).1
  rw[AB,BB]at this;exact this
 rw[a r hr]at h1
 have e:κ r=κ x:=BL h1
 refine aFJ ((c x r hx hr).mp e.symm) λb f h=>?_
 have d:b < n:=CV f hr
 exact h2 b f (by rw[a b d,<-(c r b hr d).mpr h,e])
def lkD(al:L9 (L9 Nat))(ws:L9 Str)(sg i:Nat):Dz:=.list ((range al.length).map λx=>.int (rp al ws sg i x:Int))
theorem aM7:EqI al ws sg 0 x y↔ws.getD x ""=ws.getD y "":=by
 constructor
 .intro h;exact h [] (λc a=>by simp at a) (AK _)
 .intro h w _ b
  have:w=[]:=List.eq_nil_of_length_eq_zero (by ext)
  subst this;exact h
theorem aM8(M:Rdr al sg)(hx:x < al.length)(e:y < al.length):EqI al ws sg (i+1) x y↔EqI al ws sg i x y/\∀ k,k < sg->EqI al ws sg i (stN1 al x (97+k)) (stN1 al y (97+k)):=by
 constructor
 .intro h
  refine⟨h.up,λk f w a d=>h ((97+k)::w) (λc b=>?_) (by simpa using d)⟩
  rcases AW.mp b with q|q
  .rw[q];unfold aY;exact A1 (by ext)
  .exact a c q
 .rintro ⟨h1,h2⟩ w a d
  cases w with
  | nil=>exact h1 [] a (B8 _)
  | cons c t=>
   have b:=aDI (a c AX)
   have:=h2 (c - 97) b.2 t (λc b=>a c (AQ _ b)) (by simp at d;ext)
   rw[show 97+(c - 97)=c by ext]at this
   exact this
theorem aW3{i:Nat}(hx:x < al.length):dIx (lkD al ws sg i) (.int (x:Int))=.ok (.int (rp al ws sg i x:Int)):=j6 (c8 (by rw[AC,CB hx];rfl))
theorem aU8(M:Rdw al ws sg):jC [.d (.tuple (ws.map .str))]=.ok (.d (lkD al ws sg 0)):=by
 have n2:=M.r.n2
 have f:=M.wl
 have b:ws.map PyData.str=(range al.length).map λx=>PyData.str (ws.getD x ""):=by
  refine EH λj=>?_
  ext
 have e:aH (.tuple (ws.map .str))=.ok (ws.map .str):=cR (by rw[AB];ext)
 rw[aON e (by rw[AB];ext) (.inr λk c=>by obtain⟨w,_,rfl⟩:=AT.mp c;rfl)]
 unfold lkD
 rw[b,AZ]
 congr 3
 refine A9 λx a=>?_
 have a:=BC.mp a
 show PyData.int _=_
 rw[aDL (al:=al) (ws:=ws) (sg:=sg) (i:=0) (κ:=λx=>PyData.str (ws.getD x "")) (λx y _ _=>by rw[aM7];exact⟨λh=>by injection h,λh=>by rw[h]⟩) a]
theorem aW4(M:Rdr al sg)(hx:x < al.length):cE [.d (lkD al ws sg i),.d (bP (al.getD x []))]=.ok (.d (.tuple ((al.getD x []).map λj=>.int (rp al ws sg i j:Int)))):=by
 have hr:=M.at hx
 have s3:=M.s3
 have c:aH (bP (al.getD x []))=.ok ((al.getD x []).map λj:Nat=>.int (j:Int)):=cR (by rw[AB];ext)
 have b:=bR (fs:=stN 0) (fe:=e2 dIx (rV 1) (rV 0)) (Y0:=[none,some (.d (lkD al ws sg i))]) (d:=λj:Nat=>.int (j:Int)) (g:=λj:Nat=>PyData.int (rp al ws sg i j:Int)) (xs:=al.getD x []) λj a=>⟨_,rfl,by
  have:=aW3 (ws:=ws) (sg:=sg) (i:=i) (hr.2.2 j a)
  simp[this]⟩
 generalize al.getD x []=r at *
 unfold cE kN
 simp[c,cX,b]
def fkK(al:L9 (L9 Nat))(ws:L9 Str)(sg i x:Nat):Dz:=.tuple [.int (rp al ws sg i x:Int),.tuple ((al.getD x []).map λj=>.int (rp al ws sg i j:Int))]
theorem aRP(M:Rdr al sg)(hx:x < al.length)(d:y < al.length):fkK al ws sg i x=fkK al ws sg i y↔EqI al ws sg (i+1) x y:=by
 have e:=M.at hx
 have g:=M.at d
 rw[aM8 M hx d,<-rS]
 have b:∀ q,q < al.length->∀ k,k < sg->(al.getD q [])[k]? = some (stN1 al q (97+k)):=λq f k a=>by
  have:=(dN M f (c:=97+k) (by unfold aY;exact A1 (by ext))).1
  ext
 constructor
 .intro h
  unfold fkK at h
  injection h with h
  injection h with h1 h2
  injection h2 with h2 _
  injection h1 with h1
  injection h2 with h2
  refine⟨IL h1,λk a=>rS.mp ?_⟩
  have:=CQ (λl=>l[k]?) h2
  simp only[AC,b x hx k a,b y d k a,DA]at this
  injection this with this
  injection this with this
  exact IL this
 .rintro ⟨h1,h2⟩
  unfold fkK
  have:(al.getD x []).map (λj=>PyData.int (rp al ws sg i j:Int))=(al.getD y []).map λj=>PyData.int (rp al ws sg i j:Int):=by
   refine EH λk=>?_
   rw[AC,AC]
   by_cases a:k < sg
   .rw[b x hx k a,b y d k a]
    show some (PyData.int _)=some (PyData.int _)
    rw[rS.mpr (h2 k a)]
   .rw[C7 (by rw[e.2.1];exact G3.mp a),C7 (by rw[g.2.1];exact G3.mp a)]
  rw[this,h1]
theorem aFK(f:Nat->Int):∀ (xs:L9 Nat),cH (xs.map λj=>.int (f j))=true
 | []=>rfl
 | x::t=>by rw[AU,cH,aFK f t];rfl
theorem aU9(M:Rdr al sg)(hx:x < al.length):fF (fkK al ws sg i x)=true:=by
 have c:=aFK (λj=>(rp al ws sg i j:Int)) (al.getD x [])
 have h2:Sh 2 (fkK al ws sg i x):=lD λy b=>by
  rcases AW.mp b with q|q
  .rw[q];exact oE _ _
  .rw[AM.mp q]
   exact lD λz a=>by
    obtain⟨j,_,rfl⟩:=AT.mp a
    exact oE _ _
 have d:=h2.2
 unfold fkK at d ⊢
 unfold fF
 rw[A4]
 refine⟨?_,A1 (by ext)⟩
 show cH [_,_]=true
 unfold cH cH
 show(true && (cH ((al.getD x []).map λj=>PyData.int (rp al ws sg i j:Int)) && cH []))=true
 rw[c];rfl
theorem aOO(M:Rdw al ws sg)(i:Nat):oN [.d (.tuple (al.map bP)),.d (lkD al ws sg i)]=.ok (.d (lkD al ws sg (i+1))):=by
 have n2:=M.r.n2
 have s3:=M.r.s3
 have h:aH (lkD al ws sg i)=.ok ((range al.length).map λx=>.int (rp al ws sg i x:Int)):=cS (by rw[AB,BB];ext)
 have e:al.map bP=(range al.length).map λx=>bP (al.getD x []):=by
  refine EH λj=>?_
  ext
 have m:aH (.tuple (al.map bP))=.ok ((range al.length).map λx=>bP (al.getD x [])):=by rw[<-e];exact cR (by rw[AB];ext)
 have n:iJ (lkD al ws sg i) (.tuple (al.map bP))=.ok ((range al.length).map λx=>.tuple [.int (rp al ws sg i x:Int),bP (al.getD x [])]):=by
  unfold iJ
  rw[h,m]
  show R.ok _=R.ok _
  rw[List.zip_map,AZ]
  congr 1
  refine EH λj=>?_
  rw[AC,AC]
  by_cases f:j < al.length
  .have l:((range al.length).zip (range al.length))[j]? = some (j,j):=G6.mpr ⟨CB f,CB f⟩
   rw[CB f,l];rfl
  .grind
 have q:=bR (fs:=stT [(stN 0),(stN 1)]) (fe:=bM (aA (eV 0) (aA (eA (aG 2 cE (aA (vV 2) (aA (vV 1) aB)))) aB))) (Y0:=[none,none,some (.d (lkD al ws sg i))]) (d:=λx=>PyData.tuple [.int (rp al ws sg i x:Int),bP (al.getD x [])]) (g:=fkK al ws sg i) (xs:=range al.length) λx a=>⟨[some (.d (.int (rp al ws sg i x:Int))),some (.d (bP (al.getD x []))),some (.d (lkD al ws sg i))],by simp,by
  have:=aW4 (ws:=ws) M.r (i:=i) (BC.mp a)
  unfold fkK
  simp[-List.getD_eq_getElem?_getD,this]⟩
 have c:aH (.list ((range al.length).map (fkK al ws sg i)))=.ok ((range al.length).map (fkK al ws sg i)):=cS (by rw[AB,BB];ext)
 have b:=aON c (by rw[AB,BB];ext) (.inl λk c=>by
  obtain⟨x,a,rfl⟩:=AT.mp c
  exact aU9 M.r (BC.mp a))
 have o:((range al.length).map (fkK al ws sg i)).map (λk=>PyData.int (ix1 ((range al.length).map (fkK al ws sg i)) k:Int))=(range al.length).map λx=>.int (rp al ws sg (i+1) x:Int):=by
  rw[AZ]
  refine A9 λx a=>?_
  show PyData.int _=_
  rw[aDL (al:=al) (ws:=ws) (sg:=sg) (i:=i+1) (κ:=fkK al ws sg i) (λx y a p=>aRP M.r a p) (BC.mp a)]
 rw[o]at b
 have b:jC [.d (.list ((range al.length).map (fkK al ws sg i)))]=.ok (.d (lkD al ws sg (i+1))):=b
 unfold oN aE3
 simp[-List.getD_eq_getElem?_getD,n,cX,q,b]
theorem aFL(f:Nat->Int):∀ (xs:L9 Nat),mZ (xs.map λj=>.int (f j))=true
 | []=>rfl
 | x::t=>by rw[AU];show(true && mZ _)=true;rw[aFL f t];rfl
theorem tR(i:Nat):Cp (lkD al ws sg i):=⟨aFL _ _,Sh.shaped (n:=1) (sh_lst λx a=>by
 obtain⟨q,_,rfl⟩:=AT.mp a
 exact oE _ _) (by decide)⟩
theorem aFM(h:lkD al ws sg i=lkD al ws sg (i+1)):∀ x,x < al.length->rp al ws sg i x=rp al ws sg (i+1) x:=λx a=>by
 unfold lkD at h
 injection h with h
 have:=CQ (λl=>l[x]?) h
 simp only[AC,CB a,DA,FA]at this
 injection this with this
 ext
open Classical in
def aDM(al:L9 (L9 Nat))(ws:L9 Str)(sg i:Nat):Nat:=(range al.length).countP λx=>decide (gD al ws sg i x)
open Classical in
theorem aFN(h:lkD al ws sg i≠lkD al ws sg (i+1)):aDM al ws sg i < aDM al ws sg (i+1):=by
 refine aDK _ _ _ (λx _ h=>A1 λb c e=>A5 h b c e.up) (B9 λd=>h ?_)
 have st:∀ x,x < al.length->gD al ws sg (i+1) x->gD al ws sg i x:=λx a hr=>B9 λh'=>d ⟨x,BC.mpr a,BA h',A1 hr⟩
 unfold lkD
 congr 1
 refine A9 λx a=>?_
 have a:=BC.mp a
 have f:=aHB (al:=al) (ws:=ws) (sg:=sg) i x
 rw[<-aFJ (al:=al) (ws:=ws) (sg:=sg) (i:=i+1) (x:=x) (r:=rp al ws sg i x) (aFH st a (by ext) (p5 i x)) λb c e=>rR i x b c e.up]
theorem aRQ(i:Nat):aDM al ws sg i<=al.length:=by
 unfold aDM
 have:=IF (p:=λx=>@decide (gD al ws sg i x) (Classical.propDecidable _)) (l:=range al.length)
 rw[BB]at this;exact this
theorem aRR(M:Rdw al ws sg):∀ (k i:Nat),al.length<=aDM al ws sg i+k->∃ N,aF (bD arT arB) (aN (vV 1)) [some (.d (rdW al ws)),some (.d (lkD al ws sg i)),some (.d (lkD al ws sg (i+1)))]=.ok (.rt (.d (lkD al ws sg N)))/\lkD al ws sg N=lkD al ws sg (N+1):=by
 intro k
 induction k with
 | zero=>
  intro i g
  by_cases h:lkD al ws sg i=lkD al ws sg (i+1)
  .refine ⟨i,?_,h⟩
   have a:arT [some (.d (rdW al ws)),some (.d (lkD al ws sg i)),some (.d (lkD al ws sg (i+1)))]=.ok false:=by
    have:=aDC (tR (al:=al) (ws:=ws) (sg:=sg) (i+1)) (tR (al:=al) (ws:=ws) (sg:=sg) i)
    rw[A1 h.symm]at this
    simp[arT,this]
   rw[cF,dS a]
   simp
  .have:=aFN h
   have:=aRQ (al:=al) (ws:=ws) (sg:=sg) (i+1)
   ext
 | succ k ih=>
  intro i g
  by_cases h:lkD al ws sg i=lkD al ws sg (i+1)
  .refine ⟨i,?_,h⟩
   have a:arT [some (.d (rdW al ws)),some (.d (lkD al ws sg i)),some (.d (lkD al ws sg (i+1)))]=.ok false:=by
    have:=aDC (tR (al:=al) (ws:=ws) (sg:=sg) (i+1)) (tR (al:=al) (ws:=ws) (sg:=sg) i)
    rw[A1 h.symm]at this
    simp[arT,this]
   rw[cF,dS a]
   simp
  .have b:=aFN h
   have a:arT [some (.d (rdW al ws)),some (.d (lkD al ws sg i)),some (.d (lkD al ws sg (i+1)))]=.ok true:=by
    have:=aDC (tR (al:=al) (ws:=ws) (sg:=sg) (i+1)) (tR (al:=al) (ws:=ws) (sg:=sg) i)
    rw[BA λe=>h e.symm]at this
    simp[arT,this]
   have f:dIx (rdW al ws) (.int 0)=.ok (.tuple (al.map bP)):=rfl
   have c:=aOO M (i+1)
   have j:arB [some (.d (rdW al ws)),some (.d (lkD al ws sg i)),some (.d (lkD al ws sg (i+1)))]=.ok (.nx [some (.d (rdW al ws)),some (.d (lkD al ws sg (i+1))),some (.d (lkD al ws sg (i+1+1)))]):=by
    simp[arB,f,c]
   obtain⟨N,e,l⟩:=ih (i+1) (by ext)
   refine⟨N,?_,l⟩
   rw[cF]at e ⊢
   rw[iL a j]
   exact e
def EqA(al:L9 (L9 Nat))(ws:L9 Str)(sg x y:Nat):Prop:=∀ w,Sgs sg w->ws.getD (runN al x w) ""=ws.getD (runN al y w) ""
theorem aW5(M:Rdw al ws sg):∃ L:L9 Nat,dY [.d (rdW al ws)]=.ok (.d (.list (L.map λr:Nat=>.int (r:Int))))/\L.length=al.length/\∀ x,x < al.length->∃ r,L[x]? = some r/\r<=x/\EqA al ws sg x r/\∀ b,b < r->¬ EqA al ws sg r b:=by
 obtain⟨N,e,j⟩:=aRR M al.length 0 (by ext)
 have m:dIx (rdW al ws) (.int 0)=.ok (.tuple (al.map bP)):=rfl
 have i1:dIx (rdW al ws) (.int 1)=.ok (.tuple (ws.map .str)):=rfl
 have n:=aU8 M
 have h1:=aOO M 0
 have g:∀ {x y:Nat},x < al.length->y < al.length->EqI al ws sg N x y->EqA al ws sg x y:=λ{x y} a f h w c=>by
  have:=aDJ (ws:=ws) M.r (i:=N) (λx y a f e=>by
   have:=rS.mpr e
   rw[aFM j x a,aFM j y f]at this
   exact rS.mp this) w.length a f h
  exact this w c (by ext)
 refine⟨(range al.length).map (rp al ws sg N),?_,by rw[AB,BB],λx a=>⟨rp al ws sg N x,by rw[AC,CB a];rfl,aHB N x,g a (CD (aHB N x) a) (p5 N x),λb l h=>rR N x b l λw c _=>h w c⟩⟩
 have k:lkD al ws sg N=.list (((range al.length).map (rp al ws sg N)).map λr:Nat=>.int (r:Int)):=by unfold lkD;rw[AZ];rfl
 rw[<-k]
 unfold dY
 rw[qD]
 simp_all
end
section
variable{al:L9 (L9 Nat)}{ws:L9 Str}{sg:Nat}{L:L9 Nat}
structure Lk(al:List (List Nat))(ws:List Str)(sg:Nat)(L:List Nat):Prop where
 len:L.length=al.length
 at_:∀ x,x < al.length->L[x]? = some (L.getD x 0)/\L.getD x 0<=x/\EqA al ws sg x (L.getD x 0)/\∀ b,b < L.getD x 0->¬ EqA al ws sg (L.getD x 0) b
theorem aVA(M:Rdw al ws sg):∃ L:L9 Nat,dY [.d (rdW al ws)]=.ok (.d (.list (L.map λr:Nat=>.int (r:Int))))/\Lk al ws sg L:=by
 obtain⟨L,e,l,h⟩:=aW5 M
 refine⟨L,e,l,λx b=>?_⟩
 obtain⟨r,h1,h2,c,a⟩:=h x b
 have:L.getD x 0=r:=by rw[AG,h1];rfl
 rw[this]
 exact⟨h1,h2,c,a⟩
def afL(al:L9 (L9 Nat))(L:L9 Nat):Dz->L9 Dz
 | .int q=>(al.getD q.toNat []).map λj=>.int (L.getD j 0:Int)
 | _=>[]
theorem nY(q:Nat):afL al L (.int (q:Int))=(al.getD q []).map λj=>.int (L.getD j 0:Int):=by
 show(al.getD ((q:Int)).toNat []).map _=_
 rw[show((q:Int)).toNat=q by ext]
theorem kW(M:Rdr al sg)(K:Lk al ws sg L):∀ {x:Dz},x∈bfQ (afL al L) (.int 0) n->∃ q:Nat,q < al.length/\x=.int (q:Int):=by
 induction n with
 | zero=>intro x a;rw[AM.mp a];exact⟨0,M.n1,rfl⟩
 | succ n ih=>
  intro x a
  rw[bfQ]at a
  split at a
  .rename_i y d
   rcases adA_mem _ a with h|h
   .exact ih h
   .obtain ⟨q,c,rfl⟩:=ih (AH d)
    rw[nY]at h
    obtain⟨j,e,rfl⟩:=AT.mp h
    have b:=(M.at c).2.2 j e
    have:=(K.at_ j b).2.1
    exact⟨L.getD j 0,by ext,rfl⟩
  .exact ih a
theorem aVB(M:Rdr al sg)(K:Lk al ws sg L)(hx:x < al.length):cE [.d (.list (L.map λr:Nat=>.int (r:Int))),.d (bP (al.getD x []))]=.ok (.d (.tuple (afL al L (.int (x:Int))))):=by
 have hr:=M.at hx
 have s3:=M.s3
 have c:aH (bP (al.getD x []))=.ok ((al.getD x []).map λj:Nat=>.int (j:Int)):=cR (by rw[AB];ext)
 have b:=bR (fs:=stN 0) (fe:=e2 dIx (rV 1) (rV 0)) (Y0:=[none,some (.d (.list (L.map λr:Nat=>.int (r:Int))))]) (d:=λj:Nat=>.int (j:Int)) (g:=λj:Nat=>PyData.int (L.getD j 0:Int)) (xs:=al.getD x []) λj a=>⟨_,rfl,by
  have:dIx (.list (L.map λr:Nat=>.int (r:Int))) (.int (j:Int))=.ok (.int (L.getD j 0:Int)):=j6 (c8 (by rw[AC,(K.at_ j (hr.2.2 j a)).1];rfl))
  simp[-List.getD_eq_getElem?_getD,this]⟩
 rw[nY]
 generalize al.getD x []=r at *
 unfold cE kN
 simp[-List.getD_eq_getElem?_getD,c,cX,b]
structure Lst(al:List (List Nat))(ws:List Str)(L:List Nat)(N:Nat):Prop where
 len:(bfQ (afL al L) (.int 0) N).length=N
 on:∀ m,m < N->m < (bfQ (afL al L) (.int 0) m).length
 le:N<=al.length
theorem aVC(M:Rdr al sg)(K:Lk al ws sg L):∃ N,Lst al ws L N:=by
 have c:∀ n,(bfQ (afL al L) (.int 0) n).length<=al.length:=λn=>aRJ (rO _ _ n) λx e=>kW M K e
 obtain⟨N,h1,h2,f⟩:=nX (P:=λn=>(bfQ (afL al L) (.int 0) n).length<=n) al.length (c _)
 have on:∀ m,m < N->m < (bfQ (afL al L) (.int 0) m).length:=λm d=>by have:=f m d;ext
 refine⟨N,Nat.le_antisymm h2 ?_,on,h1⟩
 cases N with
 | zero=>ext
 | succ n=>
  have a:=on n (by ext)
  have b:=(fO (afL al L) (.int 0) n).length_le
  ext
def roomsL(al:L9 (L9 Nat))(L:L9 Nat)(N:Nat):L9 Nat:=(bfQ (afL al L) (.int 0) N).map λx=>match x with | .int q=>q.toNat|_=>0
def bQ(al:L9 (L9 Nat))(L:L9 Nat)(N:Nat):L9 (L9 Nat):=(bfQ (afL al L) (.int 0) N).map λx=>(afL al L x).map (nrQ (bfQ (afL al L) (.int 0) N))
def wordsL(al:L9 (L9 Nat))(ws:L9 Str)(L:L9 Nat)(N:Nat):L9 Str:=(roomsL al L N).map λq=>ws.getD q ""
theorem nZ(M:Rdr al sg)(K:Lk al ws sg L)(N:Nat):bfQ (afL al L) (.int 0) N=(roomsL al L N).map λq:Nat=>.int (q:Int):=by
 unfold roomsL
 rw[AZ]
 conv=>lhs;rw[<-List.map_id (bfQ (afL al L) (.int 0) N)]
 refine A9 λx a=>?_
 obtain⟨q,_,rfl⟩:=kW M K a
 rfl
theorem aW6(M:Rdw al ws sg)(K:Lk al ws sg L)(eL:dY [.d (rdW al ws)]=.ok (.d (.list (L.map λr:Nat=>.int (r:Int)))))(T:Lst al ws L N) :
  oO [.d (rdW al ws)]=.ok (.d (rdW (bQ al L N) (wordsL al ws L N))):=by
 have n2:=M.r.n2
 have s3:=M.r.s3
 have u:=T.le
 have t:dIx (rdW al ws) (.int 0)=.ok (.tuple (al.map bP)):=rfl
 have i1:dIx (rdW al ws) (.int 1)=.ok (.tuple (ws.map .str)):=rfl
 have o:dIx (.list (L.map λr:Nat=>.int (r:Int))) (.int 0)=.ok (.int 0):=by
  have h:=K.at_ 0 M.r.n1
  have:L.getD 0 0=0:=by ext
  rw[this]at h
  exact j6 (c8 (j:=0) (by rw[AC,h.1];rfl))
 let S:Sq:={after:=afL al L,x0:=.int 0,stop:=λ_ _=>false,k1:=2,k2:=1,G:=cB 3 dJ [.d (.list (L.map λr:Nat=>.int (r:Int))),.d (rdW al ws)],D:=gF jP}
 have O:S.ok N:={
  on:=λm i=>⟨T.on m i,rfl⟩
  off:=.inl (EZ T.len)
  key:=.inr λx f=>by obtain⟨q,_,rfl⟩:=kW M.r K f;rfl
  len:=by show(bfQ (afL al L) (.int 0) N).length<=_;rw[T.len];ext
  hk1:=by show 2<=12;ext
  hk2:=by show 1<=12;ext
  hG:=λm x i f=>by
   obtain⟨q,a,rfl⟩:=kW M.r K (AH f)
   have p:(afL al L (.int (q:Int))).length<=3:=by rw[nY,AB,(M.r.at a).2.1];exact s3
   refine⟨⟨.tuple (afL al L (.int (q:Int))),?_,cR (by show(afL al L (.int (q:Int))).length<=_;ext)⟩,by show(afL al L (.int (q:Int))).length<=1000;ext⟩
   have e:=aVB M.r K a
   have c:=tO (ws:=ws.map .str) M.r a
   show cB 3 dJ [.d (.list (L.map λr:Nat=>.int (r:Int))),.d (rdW al ws)] [.int (q:Int)]=_
   unfold cB dJ
   simp[-List.getD_eq_getElem?_getD,t,c,e,dOf]
  hD:=λm i z=>by
   show gF jP [.list (bfQ (afL al L) (.int 0) m),.int (m:Int)]=.ok (.bool false)
   unfold gF jP aE2
   simp[dOf]}
 have e:=aMY O
 have e:cW [.d (.int 0),.g 2 1 (cB 3 dJ [.d (.list (L.map λr:Nat=>.int (r:Int))),.d (rdW al ws)]),.g 1 2 (gF jP)]=.ok (.d (.tuple [.list (bfQ (afL al L) (.int 0) N),.list (bT (afL al L) (bfQ (afL al L) (.int 0) N) N)])):=e
 have s:bT (afL al L) (bfQ (afL al L) (.int 0) N) N=(bQ al L N).map bP:=by
  unfold bT bQ
  rw[EE (EZ T.len),AZ];rfl
 rw[s]at e
 have k:=nZ M.r K N
 have v:(roomsL al L N).length=N:=by unfold roomsL;rw[AB,T.len]
 rw[k]at e
 have hi:aH (.list ((roomsL al L N).map λq:Nat=>.int (q:Int)))=.ok ((roomsL al L N).map λq:Nat=>.int (q:Int)):=cS (by rw[AB];ext)
 have b:∀ q∈roomsL al L N,q < al.length:=λq a=>by
  have:PyData.int (q:Int)∈bfQ (afL al L) (.int 0) N:=by rw[k];exact AT.mpr ⟨q,a,rfl⟩
  obtain⟨B,h,e⟩:=kW M.r K this
  ext
 have l:=bR (fs:=stN 0) (fe:=e2 dIx (e2 dIx (rV 1) (eC (.int 1))) (rV 0)) (Y0:=[none,some (.d (rdW al ws))]) (d:=λq:Nat=>.int (q:Int)) (g:=λq:Nat=>PyData.str (ws.getD q "")) (xs:=roomsL al L N) λq a=>⟨_,rfl,by
  obtain⟨_,c⟩:=M.w (b q a)
  simp[-List.getD_eq_getElem?_getD,i1,c]⟩
 have n:(roomsL al L N).map (λq:Nat=>PyData.str (ws.getD q ""))=(wordsL al ws L N).map .str:=by unfold wordsL;rw[AZ];rfl
 rw[n]at l
 have x0:dIx (.tuple [.list ((roomsL al L N).map λq:Nat=>.int (q:Int)),.list ((bQ al L N).map bP)]) (.int 0)=.ok (.list ((roomsL al L N).map λq:Nat=>.int (q:Int))):=rfl
 have x1:dIx (.tuple [.list ((roomsL al L N).map λq:Nat=>.int (q:Int)),.list ((bQ al L N).map bP)]) (.int 1)=.ok (.list ((bQ al L N).map bP)):=rfl
 show oO [.d (rdW al ws)]=.ok (.d (.tuple [.tuple ((bQ al L N).map bP),.tuple ((wordsL al ws L N).map .str)]))
 generalize (bQ al L N).map bP=y at *
 generalize (wordsL al ws L N).map PyData.str=C at *
 generalize (roomsL al L N).map (λq:Nat=>PyData.int (q:Int))=A at *
 unfold oO yL
 simp[nN,iI,lX,pN,aGW,eK,nO,eL,o,e,x0,x1,hi,cX,l,dOf]
end
section
variable{al:L9 (L9 Nat)}{ws:L9 Str}{sg:Nat}{L:L9 Nat}{N:Nat}
theorem EqA.sy(h:EqA al ws sg x y):EqA al ws sg y x:=λw a=>(h w a).symm
theorem EqA.tr{z:Nat}(h:EqA al ws sg x y)(k:EqA al ws sg y z):EqA al ws sg x z:=λw a=>(h w a).trans (k w a)
theorem EqA.on(h:EqA al ws sg x y)(e:aY sg c=true):EqA al ws sg (stN1 al x c) (stN1 al y c):=λw a=>h (c::w) λd b=>by
 rcases AW.mp b with q|q
 · simp_all
 · exact a d q
theorem Lk.iff(K:Lk al ws sg L)(hx:x < al.length)(c:y < al.length):L.getD x 0=L.getD y 0↔EqA al ws sg x y:=by
 obtain⟨_,_,b,f⟩:=K.at_ x hx
 obtain⟨_,_,a,d⟩:=K.at_ y c
 constructor
 .intro h;rw[<-h]at a;exact b.tr a.sy
 .intro h
  have e:EqA al ws sg (L.getD x 0) (L.getD y 0):=b.sy.tr (h.tr a)
  rcases DY (L.getD x 0) (L.getD y 0)with q|q|q
  · exact absurd e.sy (d _ q)
  · exact q
  · exact absurd e (f _ q)
theorem Lk.idem(K:Lk al ws sg L)(hx:x < al.length):L.getD (L.getD x 0) 0=L.getD x 0:=by
 have h:=K.at_ x hx
 exact((K.iff hx (CD h.2.1 hx)).mpr h.2.2.1).symm
theorem p6(T:Lst al ws L N):(roomsL al L N).length=N:=by unfold roomsL;rw[AB,T.len]
theorem aAI(M:Rdr al sg)(K:Lk al ws sg L):∀ q∈roomsL al L N,q < al.length:=λq a=>by
 have:PyData.int (q:Int)∈bfQ (afL al L) (.int 0) N:=by rw[nZ M K];exact AT.mpr ⟨q,a,rfl⟩
 obtain⟨b,h,e⟩:=kW M K this
 ext
theorem rT{after:Dz->L9 Dz}{x y:Dz}(f:(bfQ after x0 n).length<=n)(hx:x∈bfQ after x0 n)(g:y∈after x):y∈bfQ after x0 n:=by
 obtain⟨m,d⟩:=BQ hx
 have c:=(AJ.mp d).1
 have a:m < n:=A0 c f
 by_cases h:m < (bfQ after x0 m).length
 .have:=nW (mB (B5 a)) h d
  have e:=pV this
  have b:y∈bfQ after x0 (m+1):=by rw[e];exact tN _ g
  exact(mB (show m+1<=n by ext)).subset b
 .exfalso
  have i:∀ k,(bfQ after x0 (m+k))=bfQ after x0 m:=by
   intro k
   induction k with
   | zero=>rfl
   | succ k ih=>
    have:(bfQ after x0 (m+k))[m+k]? = none:=by rw[ih];exact C7 (by ext)
    rw[<-Nat.add_assoc,bfQ,this]
    exact ih
  obtain⟨k,rfl⟩:=GJ (B5 a)
  simp_all
theorem aM9(M:Rdr al sg)(K:Lk al ws sg L)(T:Lst al ws L N)(hi:i < N)(p:aY sg c=true) :
  stN1 (bQ al L N) i c < N/\(roomsL al L N).getD (stN1 (bQ al L N) i c) 0=L.getD (stN1 al ((roomsL al L N).getD i 0) c) 0:=by
 have k:=p6 T
 have l:(roomsL al L N)[i]? = some ((roomsL al L N).getD i 0):=by rw[AG,AI (by ext)];rfl
 have g:=aAI M K _ (AH l)
 generalize n:(roomsL al L N).getD i 0=q at *
 have m:=nZ M K N
 have f:(bfQ (afL al L) (.int 0) N)[i]? = some (.int (q:Int)):=by rw[m,AC,l];rfl
 obtain⟨e1,r⟩:=dN M g p
 have o:PyData.int (L.getD (stN1 al q c) 0:Int)∈afL al L (.int (q:Int)):=by rw[nY];exact AT.mpr ⟨_,AH e1,rfl⟩
 have d:=rT (EZ T.len) (AH f) o
 have b:(bQ al L N).getD i []=(afL al L (.int (q:Int))).map (nrQ (bfQ (afL al L) (.int 0) N)):=by
  rw[AG]
  unfold bQ
  rw[AC,f];rfl
 have h:stN1 (bQ al L N) i c=nrQ (bfQ (afL al L) (.int 0) N) (.int (L.getD (stN1 al q c) 0:Int)):=by
  unfold stN1
  rw[b,AG,AC,nY,AC,e1];rfl
 have a:=oU d
 rw[h]
 generalize nrQ (bfQ (afL al L) (.int 0) N) (.int (L.getD (stN1 al q c) 0:Int))=j at *
 have e:=(AJ.mp a).1
 rw[T.len]at e
 refine⟨e,?_⟩
 rw[m,AC]at a
 cases z:(roomsL al L N)[j]? with
 | none=>rw[z]at a;cases a
 | some v=>
  rw[z]at a
  have:PyData.int (v:Int)=.int (L.getD (stN1 al q c) 0:Int):=BL a
  injection this with this
  rw[AG,z]
  show v=_
  ext
theorem aNA(M:Rdw al ws sg)(K:Lk al ws sg L)(T:Lst al ws L N):Rdw (bQ al L N) (wordsL al ws L N) sg:=by
 have a:(bQ al L N).length=N:=by unfold bQ;rw[AB,T.len]
 have n1:1<=N:=by
  have:=T.len
  cases N with
  | zero=>simp[bfQ]at this
  | succ n=>ext
 have e:=T.le
 have n2:=M.r.n2
 refine⟨⟨by ext,by ext,M.r.s1,M.r.s3,λr hr=>?_⟩,?_,λw f=>?_⟩
 .obtain ⟨x,d,rfl⟩:=AT.mp hr
  obtain⟨q,b,rfl⟩:=kW M.r K d
  refine⟨by rw[AB,nY,AB,(M.r.at b).2.1],λj h=>?_⟩
  obtain⟨y,g,rfl⟩:=AT.mp h
  have c:=oU (rT (EZ T.len) d g)
  have:=(AJ.mp c).1
  rw[T.len]at this
  rw[a];exact this
 .unfold wordsL;rw[AB,p6 T,a]
 .obtain ⟨q,b,rfl⟩:=AT.mp f
  exact(M.w (aAI M.r K q b)).1
theorem aVD(M:Rdr al sg)(K:Lk al ws sg L)(T:Lst al ws L N):∀ (w:L9 Nat) {i x:Nat},Sgs sg w->i < N->x < al.length->(roomsL al L N).getD i 0=L.getD x 0->runN (bQ al L N) i w < N/\(roomsL al L N).getD (runN (bQ al L N) i w) 0=L.getD (runN al x w) 0
 | [],_,_,_,hi,_,h=>⟨hi,h⟩
 | c::t,i,x,hs,hi,hx,h=>by
  have hc:=hs c AX
  obtain⟨h1,h2⟩:=aM9 M K T hi hc
  have a:=(dN M hx hc).2
  have hr:=K.at_ x hx
  have b:L.getD x 0 < al.length:=CD hr.2.1 hx
  have e:L.getD (stN1 al ((roomsL al L N).getD i 0) c) 0=L.getD (stN1 al x c) 0:=by
   rw[h]
   exact(K.iff (dN M b hc).2 a).mpr (hr.2.2.1.sy.on hc)
  exact aVD M K T t (λc hc=>hs c (AQ _ hc)) h1 a (h2.trans e)
theorem aW7(M:Rdw al ws sg)(K:Lk al ws sg L)(T:Lst al ws L N){w:L9 Nat}(a:Sgs sg w)(hi:i < N)(hx:x < al.length)(h:(roomsL al L N).getD i 0=L.getD x 0) :
  (wordsL al ws L N).getD (runN (bQ al L N) i w) ""=ws.getD (runN al x w) "":=by
 obtain⟨h1,h2⟩:=aVD M.r K T w a hi hx h
 have f:=p6 T
 have b:(roomsL al L N)[runN (bQ al L N) i w]? = some ((roomsL al L N).getD (runN (bQ al L N) i w) 0):=by rw[AG,AI (by ext)];rfl
 have e:(wordsL al ws L N).getD (runN (bQ al L N) i w) ""=ws.getD ((roomsL al L N).getD (runN (bQ al L N) i w) 0) "":=by
  rw[AG]
  unfold wordsL
  rw[AC,b];rfl
 rw[e,h2]
 have:=(K.at_ _ (mD M.r w a hx)).2.2.1 [] (λc d=>by simp at d)
 exact this.symm
end
section
variable{after1 after2:Dz->L9 Dz}{x1 x2:Dz}{Rl:Dz->Dz->Prop}
theorem aNB(h1:∀ x y x' y',Rl x y->Rl x' y'->(x=x'↔y=y')){ps:L9 (Dz×Dz)}{q:Dz×Dz}(a:∀ p∈ps,Rl p.1 p.2)(b:Rl q.1 q.2):q.1∈ps.map (·.1)↔q.2∈ps.map (·.2):=by ext
theorem y8(h1:∀ x y x' y',Rl x y->Rl x' y'->(x=x'↔y=y')):∀ (qs ps:L9 (Dz×Dz)),(∀ p∈ps,Rl p.1 p.2)->(∀ q∈qs,Rl q.1 q.2)->∃ ps':L9 (Dz×Dz),adA (ps.map (·.1)) (qs.map (·.1))=ps'.map (·.1)/\adA (ps.map (·.2)) (qs.map (·.2))=ps'.map (·.2)/\∀ p∈ps',Rl p.1 p.2
 | [],ps,hp,_=>⟨ps,rfl,rfl,hp⟩
 | q::qs,ps,hp,hq=>by
  have hq0:=hq q AX
  have e:=aNB h1 hp hq0
  by_cases h:q.1∈ps.map (·.1)
  .obtain ⟨ps',a,b,c⟩:=y8 h1 qs ps hp λy d=>hq y (AQ _ d)
   refine⟨ps',?_,?_,c⟩
   .show adA (adQ _ _) _=_;rw[lI h];exact a
   .show adA (adQ _ _) _=_;rw[lI (e.mp h)];exact b
  .obtain ⟨ps',a,b,c⟩:=y8 h1 qs (ps++[q]) (λy d=>by
    rcases BD.mp d with z|z
    · exact hp y z
    · rw [AM.mp z]; exact hq0) λy d => hq y (AQ _ d)
   rw[BE]at a b
   refine⟨ps',?_,?_,c⟩
   .show adA (adQ _ _) _=_;rw[jR h];exact a
   .show adA (adQ _ _) _=_;rw[jR λz=>h (e.mpr z)];exact b
theorem aRS(h0:Rl x1 x2)(i:∀ x y,Rl x y->∃ qs:L9 (Dz×Dz),after1 x=qs.map (·.1)/\after2 y=qs.map (·.2)/\∀ q∈qs,Rl q.1 q.2)(h1:∀ x y x' y',Rl x y->Rl x' y'->(x=x'↔y=y'))(n:Nat):∃ ps:L9 (Dz×Dz),bfQ after1 x1 n=ps.map (·.1)/\bfQ after2 x2 n=ps.map (·.2)/\∀ p∈ps,Rl p.1 p.2:=by
 induction n with
 | zero=>exact⟨[(x1,x2)],rfl,rfl,λp g=>by rw[AM.mp g];exact h0⟩
 | succ n ih=>
  obtain⟨ps,a,b,c⟩:=ih
  rw[bfQ,bfQ,a,b,AC,AC]
  cases q:ps[n]? with
  | none=>exact⟨ps,rfl,rfl,c⟩
  | some p=>
   obtain⟨qs,e1,e2,e⟩:=i p.1 p.2 (c p (AH q))
   obtain⟨d,j,h,f⟩:=y8 h1 qs ps c e
   exact⟨d,by show adA _ (after1 p.1)=_;rw[e1];exact j,by show adA _ (after2 p.2)=_;rw[e2];exact h,f⟩
theorem aFO(h1:∀ x y x' y',Rl x y->Rl x' y'->(x=x'↔y=y')){q:Dz×Dz}(a:Rl q.1 q.2):∀ (ps:L9 (Dz×Dz)),(∀ p∈ps,Rl p.1 p.2)->nrQ (ps.map (·.1)) q.1=nrQ (ps.map (·.2)) q.2
 | [],_=>rfl
 | p::t,hp=>by
  have ih:=aFO h1 a t λy b=>hp y (AQ _ b)
  have e:=h1 _ _ _ _ (hp p AX) a
  unfold nrQ at ih ⊢
  ext
end
section
variable{r1 r2:L9 (L9 Nat)}{w1 w2:L9 Str}{sg:Nat}{L1 L2:L9 Nat}{N1 N2:Nat}
def EqX(r1 r2:L9 (L9 Nat))(w1 w2:L9 Str)(sg x y:Nat):Prop:=∀ w,Sgs sg w->w1.getD (runN r1 x w) ""=w2.getD (runN r2 y w) ""
theorem EqX.on(h:EqX r1 r2 w1 w2 sg x y)(e:aY sg c=true):EqX r1 r2 w1 w2 sg (stN1 r1 x c) (stN1 r2 y c):=λw a=>h (c::w) λd b=>by
 rcases AW.mp b with q|q
 · ext
 · exact a d q
def RlX(r1 r2:L9 (L9 Nat))(w1 w2:L9 Str)(sg:Nat)(L1 L2:L9 Nat)(a b:Dz):Prop:=∃ x y:Nat,a=.int (x:Int)/\b=.int (y:Int)/\x < r1.length/\y < r2.length/\L1.getD x 0=x/\L2.getD y 0=y/\EqX r1 r2 w1 w2 sg x y
theorem aFP(M:Rdr r1 sg)(hx:x < r1.length):r1.getD x []=(range sg).map λk=>stN1 r1 x (97+k):=by
 have hr:=M.at hx
 refine EH λk=>?_
 rw[AC]
 by_cases a:k < sg
 .have:=(dN M hx (c:=97+k) (by unfold aY;exact A1 (by ext))).1
  ext
 .grind
theorem aKI(M1:Rdr r1 sg)(M2:Rdr r2 sg)(i:Lk r1 w1 sg L1)(j:Lk r2 w2 sg L2):∀ a b,RlX r1 r2 w1 w2 sg L1 L2 a b->∃ qs:L9 (Dz×Dz),afL r1 L1 a=qs.map (·.1)/\afL r2 L2 b=qs.map (·.2)/\∀ q∈qs,RlX r1 r2 w1 w2 sg L1 L2 q.1 q.2:=by
 rintro _ _ ⟨x,y,rfl,rfl,hx,hy,_,_,h⟩
 refine⟨(range sg).map λk=>(.int (L1.getD (stN1 r1 x (97+k)) 0:Int),.int (L2.getD (stN1 r2 y (97+k)) 0:Int)),?_,?_,λq m=>?_⟩
 .rw[nY,aFP M1 hx,AZ,AZ];rfl
 .rw[nY,aFP M2 hy,AZ,AZ];rfl
 .obtain ⟨k,n,rfl⟩:=AT.mp m
  have e:aY sg (97+k)=true:=by unfold aY;exact A1 (by have:=BC.mp n;ext)
  have f:=(dN M1 hx e).2
  have c:=(dN M2 hy e).2
  have g:=i.at_ _ f
  have l:=j.at_ _ c
  refine⟨_,_,rfl,rfl,CD g.2.1 f,CD l.2.1 c,i.idem f,j.idem c,λw d=>?_⟩
  rw[<-g.2.2.1 w d,<-l.2.2.1 w d]
  exact h.on e w d
theorem aRT(f:Lk r1 w1 sg L1)(d:Lk r2 w2 sg L2):∀ a b a' b',RlX r1 r2 w1 w2 sg L1 L2 a b->RlX r1 r2 w1 w2 sg L1 L2 a' b'->(a=a'↔b=b'):=by
 rintro _ _ _ _ ⟨x,y,rfl,rfl,hx,hy,fx,fy,h⟩ ⟨x',y',rfl,rfl,hx',hy',fx',fy',h'⟩
 constructor
 .intro e
  injection e with e
  obtain rfl:x=x':=by ext
  have:EqA r2 w2 sg y y':=λw c=>(h w c).symm.trans (h' w c)
  rw[<-fy,<-fy',(d.iff hy hy').mpr this]
 .intro e
  injection e with e
  obtain rfl:y=y':=by ext
  have:EqA r1 w1 sg x x':=λw c=>(h w c).trans (h' w c).symm
  rw[<-fx,<-fx',(f.iff hx hx').mpr this]
theorem aHC(M1:Rdw r1 w1 sg)(M2:Rdw r2 w2 sg)(d:Lk r1 w1 sg L1)(g:Lk r2 w2 sg L2)(k:Lst r1 w1 L1 N1)(o:Lst r2 w2 L2 N2)(h:EqX r1 r2 w1 w2 sg 0 0) :
  N1=N2/\bQ r1 L1 N1=bQ r2 L2 N2/\wordsL r1 w1 L1 N1=wordsL r2 w2 L2 N2:=by
 have w:=(d.at_ 0 M1.r.n1).2.1
 have A:=(g.at_ 0 M2.r.n1).2.1
 have v:RlX r1 r2 w1 w2 sg L1 L2 (.int 0) (.int 0):=⟨0,0,rfl,rfl,M1.r.n1,M2.r.n1,by ext,by ext,h⟩
 have l:=aKI M1.r M2.r d g
 have h1:=aRT (w1:=w1) (w2:=w2) d g
 have m:=aRS v l h1
 have j:∀ n,(bfQ (afL r1 L1) (.int 0) n).length=(bfQ (afL r2 L2) (.int 0) n).length:=λn=>by
  obtain⟨ps,a,b,_⟩:=m n
  simp_all
 have t:N1=N2:=by
  rcases DY N1 N2 with q|q|q
  .have:=o.on N1 q
   have a:=k.len
   simp_all
  .exact q
  .have:=k.on N2 q
   have a:=o.len
   simp_all
 subst t
 obtain⟨ps,a,b,c⟩:=m N1
 refine⟨rfl,?_,?_⟩
 .unfold bQ
  rw[a,b,AZ,AZ]
  refine A9 λp f=>?_
  obtain⟨qs,e1,e2,s⟩:=l p.1 p.2 (c p f)
  show(afL r1 L1 p.1).map _=(afL r2 L2 p.2).map _
  rw[e1,e2,AZ,AZ]
  refine A9 λq e=>?_
  exact aFO h1 (s q e) ps c
 .unfold wordsL roomsL
  rw[a,b,AZ,AZ,AZ,AZ]
  refine A9 λp f=>?_
  obtain⟨x,y,e1,e2,z,B,_,_,i⟩:=c p f
  show w1.getD (match p.1 with | .int q=>q.toNat|_=>0) ""=w2.getD (match p.2 with | .int q=>q.toNat|_=>0) ""
  rw[e1,e2]
  show w1.getD ((x:Int)).toNat ""=w2.getD ((y:Int)).toNat ""
  rw[show((x:Int)).toNat=x by ext,show((y:Int)).toNat=y by ext]
  exact i [] λc u=>by simp at u
end
section
variable{al r1 r2:L9 (L9 Nat)}{ws w1 w2:L9 Str}{sg:Nat}{L L1 L2:L9 Nat}{N N1 N2:Nat}
theorem aRU(T:Lst al ws L N):0 < N:=by
 have:=T.len
 cases N with
 | zero=>simp[bfQ]at this
 | succ n=>ext
theorem aHD(M:Rdr al sg)(K:Lk al ws sg L)(T:Lst al ws L N):(roomsL al L N).getD 0 0=L.getD 0 0:=by
 have h:=K.at_ 0 M.n1
 have e:(roomsL al L N)[0]? = some 0:=by
  have:=pW (afL al L) (.int 0) N
  rw[nZ M K,AC]at this
  simp_all
 ext
theorem p7(M:Rdw al ws sg)(K:Lk al ws sg L)(T:Lst al ws L N):EqX (bQ al L N) al (wordsL al ws L N) ws sg 0 0:=λw a=>
 aW7 M K T a (aRU T) M.r.n1 (aHD M.r K T)
theorem aAJ(M1:Rdw r1 w1 sg)(M2:Rdw r2 w2 sg)(e:Lk r1 w1 sg L1)(d:Lk r2 w2 sg L2)(c:Lst r1 w1 L1 N1)(f:Lst r2 w2 L2 N2) :
  (bQ r1 L1 N1=bQ r2 L2 N2/\wordsL r1 w1 L1 N1=wordsL r2 w2 L2 N2)↔EqX r1 r2 w1 w2 sg 0 0:=by
 constructor
 .rintro ⟨h1,h2⟩ w hw
  have a:=p7 M1 e c w hw
  have b:=p7 M2 d f w hw
  simp_all
 .intro h
  exact(aHC M1 M2 e d c f h).2
end
end Mc
variable{k:Nat}
namespace Zp
end Zp
namespace Fl
end Fl
variable{x:L9 Nat}
namespace Mc
open Fl
variable{rs:L9 Rw}
def afW(rs:L9 Rw)(sg:Nat)(x:Dz):L9 Dz:=(range sg).map (aDD rs x)
def bfW(rs:L9 Rw)(sg n:Nat):L9 Dz:=bfQ (afW rs sg) (aV rs []) n
def adZ(rs:L9 Rw)(zs:L9 (L9 Nat))(z:L9 Nat):L9 (L9 Nat):=if aV rs z∈zs.map (aV rs)then zs else zs++[z]
def aAX(sg:Nat)(z:L9 Nat):L9 (L9 Nat):=(range sg).map λk=>z++[97+k]
def zsW(rs:L9 Rw)(sg:Nat):Nat->L9 (L9 Nat)
 | 0=>[[]]
 | n+1=>match (zsW rs sg n)[n]? with
  | some z=>(aAX sg z).foldl (adZ rs) (zsW rs sg n)
  | none=>zsW rs sg n
theorem aRV(rs:L9 Rw)(zs:L9 (L9 Nat))(z:L9 Nat):(adZ rs zs z).map (aV rs)=adQ (zs.map (aV rs)) (aV rs z):=by
 unfold adZ adQ
 ext
theorem aNC(rs:L9 Rw)(l:L9 (L9 Nat)):∀ zs:L9 (L9 Nat),(l.foldl (adZ rs) zs).map (aV rs)=adA (zs.map (aV rs)) (l.map (aV rs)):=by
 induction l with
 | nil=>intro zs;rfl
 | cons z t ih=>intro zs;rw[DS,ih,aRV];rfl
theorem adZ_mem{zs:L9 (L9 Nat)}(h:x∈adZ rs zs z):x∈zs\/x=z:=by
 unfold adZ at h
 ext
theorem adZs_mem(l:L9 (L9 Nat)):∀ {zs:L9 (L9 Nat)},x∈l.foldl (adZ rs) zs->x∈zs\/x∈l:=by
 induction l with
 | nil=>intro zs h;exact .inl h
 | cons z t ih=>
  intro zs h
  rcases ih (zs:=adZ rs zs z) h with h|h
  .rcases adZ_mem h with h|h
   · ext
   · ext
  .grind
theorem aND(M:Mach rs sg)(S:aK sg z):(aAX sg z).map (aV rs)=afW rs sg (aV rs z):=by
 unfold aAX afW
 rw[AZ]
 exact A9 λk a=>(yY M S (BC.mp a)).symm
structure ZsOk(rs:List Rw)(sg n:Nat)(zs:List (List Nat)):Prop where
 map:zs.map (aV rs)=bfW rs sg n
 ok:∀ z∈zs,aK sg z/\z.length<=n
theorem aRW(S:aK sg z)(b:z.length<=n)(c:n < 900)(h:x∈aAX sg z):aK sg x/\x.length<=n+1:=by
 obtain⟨k,a,rfl⟩:=AT.mp h
 exact⟨aG9 S (BC.mp a) (by ext),by simp;ext⟩
theorem rW(M:Mach rs sg):∀ n,n<=900->ZsOk rs sg n (zsW rs sg n):=by
 intro n
 induction n with
 | zero=>exact λ_=>⟨rfl,λz a=>by rw[AM.mp a];exact⟨⟨by simp,λc d=>by simp at d⟩,by simp⟩⟩
 | succ n ih=>
  intro f
  obtain⟨h1,h2⟩:=ih (by ext)
  unfold bfW at h1
  have e:(bfQ (afW rs sg) (aV rs []) n)[n]? = ((zsW rs sg n)[n]?).map (aV rs):=by rw[<-h1,AC]
  cases q:(zsW rs sg n)[n]? with
  | none=>
   rw[q]at e
   refine⟨?_,λz a=>?_⟩
   .unfold bfW
    rw[zsW,bfQ,q,e];exact h1
   .rw[zsW,q]at a
    ext
  | some z=>
   rw[q]at e
   have a:=h2 z (AH q)
   refine⟨?_,λx b=>?_⟩
   .unfold bfW
    rw[zsW,bfQ,q,e]
    simp only[DA]
    rw[aNC,h1,aND M a.1]
   .rw[zsW,q]at b
    rcases adZs_mem _ b with b|b
    · ext
    · exact aRW a.1 a.2 (by ext) b
structure EndW(rs:List Rw)(sg most N:Nat):Prop where
 on:∀ m,m < N->m < (bfW rs sg m).length/\(bfW rs sg m).length<=most
 off:(bfW rs sg N).length<=N\/most < (bfW rs sg N).length
theorem aNE{P:Nat->Prop}:∀ K:Nat,P K->∃ n,n<=K/\P n/\∀ m,m < n->¬ P m:=by
 intro K
 induction K using Nat.strongRecOn with
 | _ K ih=>
  ext
theorem aRX(rs:L9 Rw)(sg a:Nat):∃ N,N<=a/\EndW rs sg a N:=by
 obtain⟨n,h1,h2,c⟩:=aNE (P:=λn=>(bfW rs sg n).length<=n\/a < (bfW rs sg n).length) a (by ext)
 exact⟨n,h1,λm b=>by have:=c m b;ext,h2⟩
theorem EndW.full{a:Nat}(E:EndW rs sg a N)(h:(bfW rs sg N).length<=a):(bfW rs sg N).length=N:=by
 rcases E.off with q|q
 .cases N with
  | zero=>have:(bfW rs sg 0).length=1:=rfl;ext
  | succ n=>
   have h1:=(E.on n (by ext)).1
   have h2:(bfW rs sg n).length<=(bfW rs sg (n+1)).length:=(fO _ _ n).length_le
   ext
 .omega
def aYR(rs:L9 Rw)(sg:Nat):Sq where
 after:=afW rs sg
 x0:=aV rs []
 stop fs _:=decide (200 < fs.length)
 k1:=4
 k2:=1
 G:=cB 2 gM [.d (.list ((range sg).map (eP rs)))]
 D:=cB 2 iB []
theorem rX(M:Mach rs sg)(a:n<=900){x:Dz}(h:x∈bfW rs sg n):∃ z,aK sg z/\x=aV rs z:=by
 obtain⟨h1,h2⟩:=rW M n a
 ext
theorem aKJ(M:Mach rs sg)(S:aK sg z):fF (aV rs z)=true:=by
 obtain⟨a,b⟩:=aRC M S
 exact aRD a b
theorem aFQ{a:Nat}(M:Mach rs sg)(E:EndW rs sg a N)(e:1<=a):(bfW rs sg N).length<=a+3:=by
 cases N with
 | zero=>show 1<=a+3;ext
 | succ n=>
  obtain⟨h1,h2⟩:=E.on n (by ext)
  have b:(bfQ (afW rs sg) (aV rs []) n)[n]? = some (bfQ (afW rs sg) (aV rs []) n)[n]:=AI h1
  have c:=aQ7 (afW rs sg (bfQ (afW rs sg) (aV rs []) n)[n]) (bfQ (afW rs sg) (aV rs []) n)
  rw[<-pV b]at c
  have d:(afW rs sg (bfQ (afW rs sg) (aV rs []) n)[n]).length=sg:=by unfold afW;simp
  have:=M.sg3
  unfold bfW at h2 ⊢
  ext
theorem aRY(M:Mach rs sg)(E:EndW rs sg 200 N)(hN:N<=200):(aYR rs sg).ok N where
 on m h:=⟨(E.on m h).1,BA (by have:=(E.on m h).2;unfold bfW at this;show ¬ 200 < (bfQ (afW rs sg) (aV rs []) m).length;ext)⟩
 off:=E.off.imp id λh=>A1 h
 key:=.inl λx a=>by
  obtain⟨z,S,rfl⟩:=rX M (by ext) (show x∈bfW rs sg N from a)
  exact aKJ M S
 len:=by have:=aFQ M E (by ext);show(bfW rs sg N).length<=_;ext
 hk1:=by show 4<=12;decide
 hk2:=by show 1<=12;decide
 hG m x hm a:=by
  obtain⟨z,S,rfl⟩:=rX M (show N<=900 by ext) (AH a)
  have f:=bR (fs:=stN 0) (fe:=eA (aG 2 fJ (aA (vV 1) (aA (vV 0) aB)))) (Y0:=[none,some (.d (aV rs z))]) (d:=eP rs) (g:=aDD rs (aV rs z)) (xs:=range sg) λk b=>by
   refine⟨_,rfl,?_⟩
   have b:=BC.mp b
   have:=aC5 M S (c:=97+k) (by unfold aY;exact A1 (by ext))
   rw[show 97+k - 97=k by ext,<-yY M S b]at this
   simp[this]
  have hi:=cS (xs:=(range sg).map (eP rs)) (by have:=M.sg3;simp;ext)
  have e:(afW rs sg (aV rs z)).length=sg:=by unfold afW;simp
  have i:=M.sg3
  refine⟨⟨.list (afW rs sg (aV rs z)),?_,cS (by ext)⟩,by show(afW rs sg (aV rs z)).length<=_;ext⟩
  show cB 2 gM [.d (.list ((range sg).map (eP rs)))] [aV rs z]=_
  unfold cB gM
  simp[hi,cX,f,dOf]
  rfl
 hD m hm e:=by
  show cB 2 iB [] [.list (bfW rs sg m),.int (m:Int)]=.ok (.bool (decide (200 < (bfW rs sg m).length)))
  unfold cB iB
  simp[i3,dOf]
  ext
def aHE(rs:L9 Rw)(sg N:Nat):Dz:=.tuple [.tuple (bT (afW rs sg) (bfW rs sg N) N),.tuple ((zsW rs sg N).map λz=>.str (bO rs z))]
section
variable{rs:L9 Rw}{sg N:Nat}
structure Wy(rs:List Rw)(sg N:Nat):Prop where
 m:Mach rs sg
 len:(bfW rs sg N).length=N
 n:N<=200
def wRows(rs:L9 Rw)(sg N:Nat):L9 (L9 Nat):=(bfW rs sg N).map λx=>(afW rs sg x).map (nrQ (bfW rs sg N))
def wWords(rs:L9 Rw)(sg N:Nat):L9 Str:=(zsW rs sg N).map (bO rs)
theorem aVE(W:Wy rs sg N):aHE rs sg N=rdW (wRows rs sg N) (wWords rs sg N):=by
 unfold aHE rdW rdD bT wRows wWords mY
 rw[EE (by rw[W.len];exact AK _),AZ,AZ]
 rfl
theorem Wy.pos(W:Wy rs sg N):0 < N:=by
 have:=W.len
 cases N with
 | zero=>simp[bfW,bfQ]at this
 | succ n=>ext
theorem Wy.zlen(W:Wy rs sg N):(zsW rs sg N).length=N:=by
 have h:=(rW W.m N (by have:=W.n;ext)).map
 have:=CQ length h
 rw[AB,W.len]at this
 exact this
theorem Wy.at_(W:Wy rs sg N)(hi:i < N):∃ z,(zsW rs sg N)[i]? = some z/\(bfW rs sg N)[i]? = some (aV rs z)/\aK sg z/\z.length<=N:=by
 have ok:=rW W.m N (by have:=W.n;ext)
 have b:=W.zlen
 have a:(zsW rs sg N)[i]? = some (zsW rs sg N)[i]:=AI (by ext)
 refine⟨_,a,?_,ok.ok _ (D4 _)⟩
 rw[<-ok.map,AC,a];rfl
theorem Wy.rows_len(W:Wy rs sg N):(wRows rs sg N).length=N:=by unfold wRows;rw[AB,W.len]
theorem Wy.on(W:Wy rs sg N)(hi:(bfW rs sg N)[i]? = some (aV rs z))(S:aK sg z)(h:z.length < 1000)(g:aY sg c=true) :
  stN1 (wRows rs sg N) i c < N/\(bfW rs sg N)[stN1 (wRows rs sg N) i c]? = some (aV rs (z++[c])):=by
 obtain⟨j,d⟩:=aDI g
 have a:=yY W.m S (k:=c - 97) d
 rw[show 97+(c - 97)=c by ext]at a
 have f:aV rs (z++[c])∈bfW rs sg N:=rT (by have:=W.len;unfold bfW at this;ext) (AH hi) (by
  unfold afW
  exact AT.mpr ⟨c - 97,BC.mpr d,a⟩)
 have e:stN1 (wRows rs sg N) i c=nrQ (bfW rs sg N) (aV rs (z++[c])):=by
  unfold stN1 wRows
  rw[AG (l:=List.map _ _),AC,hi]
  show((afW rs sg (aV rs z)).map (nrQ (bfW rs sg N))).getD (c - 97) 0=_
  unfold afW
  rw[AG,AC,AC,CB d]
  show nrQ (bfW rs sg N) (aDD rs (aV rs z) (c - 97))=_
  rw[a]
 have b:=oU f
 rw[e]
 exact⟨by have:=(AJ.mp b).1;have:=W.len;ext,b⟩
theorem aD4(M:Mach rs sg){b:L9 Nat}(S:aK sg z)(c:aK sg b)(h:aV rs z=aV rs b):bO rs z=bO rs b:=by
 have a:=xB M S
 rw[h,xB M c]at a
 simp_all
theorem Wy.word(W:Wy rs sg N)(hi:(bfW rs sg N)[i]? = some (aV rs z))(S:aK sg z):(wWords rs sg N).getD i ""=bO rs z:=by
 have a:=(AJ.mp hi).1
 rw[W.len]at a
 obtain⟨c,h1,h2,b,_⟩:=W.at_ a
 rw[hi]at h2
 unfold wWords
 rw[AG,AC,h1]
 exact aD4 W.m b S (BL h2).symm
theorem Wy.run(W:Wy rs sg N):∀ (y:L9 Nat) {i:Nat} {z:L9 Nat},(bfW rs sg N)[i]? = some (aV rs z)->aK sg (z++y)->(bfW rs sg N)[runN (wRows rs sg N) i y]? = some (aV rs (z++y))
 | [],i,z,hi,_=>by rw[C8];exact hi
 | c::t,i,z,hi,S=>by
  have hc:aY sg c=true:=S.2 c (by simp)
  have a:z.length < 1000:=by have:=S.1;simp at this;ext
  have Sz:aK sg z:=⟨by ext,λd b=>S.2 d (CN _ b)⟩
  have h:=(W.on hi Sz a hc).2
  have e:z++c::t=(z++[c])++t:=by simp
  rw[e]at S ⊢
  exact W.run t h S
theorem Wy.says(W:Wy rs sg N)(S:aK sg z):(wWords rs sg N).getD (runN (wRows rs sg N) 0 z) ""=bO rs z:=by
 have a:(bfW rs sg N)[0]? = some (aV rs []):=pW _ _ _
 have:=W.run z a S
 exact W.word this S
theorem Wy.rdw(W:Wy rs sg N):Rdw (wRows rs sg N) (wWords rs sg N) sg:=by
 have s1:=W.m.sg1
 have i:=W.m.sg3
 have n:=W.n
 have h:=W.pos
 have a:=W.rows_len
 refine⟨⟨by ext,by ext,by ext,by ext,λr hr=>?_⟩,?_,λw b=>?_⟩
 .unfold wRows at hr
  obtain⟨x,e,rfl⟩:=AT.mp hr
  refine⟨by rw[AB];unfold afW;rw[AB,BB],λj g=>?_⟩
  obtain⟨y,f,rfl⟩:=AT.mp g
  have d:y∈bfW rs sg N:=rT (by have:=W.len;unfold bfW at this;ext) e f
  have:=(AJ.mp (oU d)).1
  have:=W.len
  ext
 .unfold wWords;rw[AB,W.zlen,a]
 .unfold wWords at b
  obtain⟨z,c,rfl⟩:=AT.mp b
  exact aMW W.m ((rW W.m N (by ext)).ok z c).1
end
section
variable{al r1 r2:L9 (L9 Nat)}{ws w1 w2:L9 Str}{sg:Nat}{L:L9 Nat}{N:Nat}
end
section
variable{al:L9 (L9 Nat)}{ws:L9 Str}{rs:L9 Rw}{sg N:Nat}{L:L9 Nat}
theorem aW8(M:Mach rs sg)(B:pX rs sg):∃ N,Wy rs sg N/\EndW rs sg 200 N:=by
 obtain⟨N,c,E⟩:=aRX rs sg 200
 have b:(bfW rs sg N).length<=200:=B _ (rO _ _ _) λx a=>rX M (n:=N) (by ext) a
 exact⟨N,⟨M,E.full b,c⟩,E⟩
end
end Mc
variable{x:Str}
namespace Zp
theorem aDN:typeLookup (.type "list") "keys"=pure none:=by rw[HS,FP];kernel_rfl
theorem y9{w:W9}{A:U9}{a:Az}{xs:Array V9}{sl:Array (O9 V9)}{Q:O9 V9->S9->Prop}
  (hx:s.heap.get? a=some {cls:=.type "list",dict:=none,data:=.seq xs k,slots:=sl}) (hA:A.handled=none)
  (h:∀ h' j,(∀ b o,s.heap.get? b=some o->h'.get? b=some o)->Q none {s with heap:=h',toks:=j}) :
  wpAny (model prog w) A (getAttr? (.ref a) "keys") Q E s:=by
 obtain⟨m,g,d,j,os⟩:=s
 have l:∀ i:Nat,(⟨m,g,d,i,os⟩:S9).TypeIs (.ref a) "list":=λ_=>⟨_,hx,rfl⟩
 have f1:=sub_AttributeError
 have u:=E3.lookup
 have r:=E3.bind (.ref a)
 have q:=am_list_getattr_none
 unfold getAttr? getAttrBy? getAttrBy
 repeat (any_goals (first|assumption|exact l _|((with_reducible show wpAny _ _ (call (Value.builtin "list.__getattribute__") _ _) _ _ _);refine E4 E3 (l _) am_entry_list_getattribute (F.args_list_getattribute_2 _ _) (meets_getattribute_miss_list a xs k sl "keys" _ aDN (by decide +kernel) (by decide)) ⟨hx,hA,λh' f e c=>?_⟩)|wp_step))
 obtain⟨i,t,n⟩:=c.there
 have p:(⟨h',g,d,f,os⟩:S9).TypeIs (.ref e) "AttributeError":=⟨_,n,rfl⟩
 show wpAny _ _ (getattributeRaised _ _ _ _ _ _ _) _ _ _
 unfold getattributeRaised
 repeat (any_goals (first|assumption|wp_step))
 exact h _ _ c.keeps
theorem aAK:entryFor table "dict.update.loop"=some Builtin.«dict.update.loop»:=entryFor_of_tree (by kernel_rfl)
theorem n4:plainId "dict.update.loop"=true:=by decide +kernel
end Zp
namespace Fl
def p8(p:Dz×Dz):Dz:=.tuple [p.1,p.2]
theorem aNF{F:Hp}{v:V}{p:Dz×Dz}(h:DatV K F v (p8 p)):∃ t x y,v=.ref t/\SqT K F t [x,y]/\DatV K F x p.1/\DatV K F y p.2:=by
 unfold p8 at h
 cases h with
 | tup hs hd=>
  cases hd with
  | cons h1 t1=>
   cases t1 with
   | cons h2 t2=>
    cases t2
    exact⟨_,_,_,rfl,hs,h1,h2⟩
section
variable{X:Cx}{ap:L9 (Az×Obj)}{Z:L2.St}
theorem aNG{H:Hp}{a:Az}{es:L9 Ent}{k:Dz}{kv v:V}{ku:V9}{A:U9}{Q:Unit->S9->Prop}(y:A.units+9 < cLine)(D:DicAt X H a es k kv)(I:Inv X ap Z H s)(B:aR kv ku)(x:aR v u)(hz:es.length<=sizeLine)(h:∀ ep s',Inv X ap Z (upd H a (bB X.w a (jZ es k kv v) ep)) s'->Q () s') :
  wpAny (model X.prog X.w) A (dictSet a ku u) Q E s:=by
 obtain⟨t,⟨b,xs,rfl,rfl,e,g,dd⟩|⟨C,xs,rfl,rfl,e,g,dd⟩⟩:=D.cases I B
 .have m:xs.length<=sizeLine:=by rw[<-Paired.length e];exact hz
  refine wpAny_dictSet_heap (a:=b) (show(gJ X.prog X.w).room A from y) g dd (λh' c j=>?_) m
  obtain⟨f,ar,ep,d,h2,i,n,_,r⟩:=c
  obtain⟨l,p⟩:=D.o
  refine h ep _ (jJ I (by rw[p];exact True.intro) j ⟨f,d⟩ (f7 t ⟨f,ar,d,h2,i,?_⟩))
  rw[n]
  exact mJ (aAP x e)
 .have m:xs.length<=sizeLine:=by rw[<-Paired.length e];exact hz
  refine wpAny_dictSet_pairs g dd (λh' c j=>?_) m
  obtain⟨f,ar,ep,d,h2,i,n,r,_⟩:=c
  obtain⟨l,p⟩:=D.o
  refine h ep _ (jJ I (by rw[p];exact True.intro) j ⟨f,d⟩ (f7 t ⟨f,ar,d,h2,i,?_⟩))
  exact mK (aAQ x e) r λz q=>n z (by simpa using q)
theorem aNH{p it l:Az}{F:Hp}{ys:L9 V}{A:U9}{R:Result->S9->Prop}(hA:A.handled=none)(hu:A.units+11 < cLine)(aj:p≠it)(G:l≠it)(C:l≠p)(B:L9 (Dz×Dz)):∀ (i:Nat) (cb res:L9 (Dz×Dz)) (es:L9 Ent) (ep:Nat) (H:Hp) (s:S9),
  Inv X ap Z H s->aC F H->F p=none->H p=some (bB X.w p es ep)->MapRel X.K F es cb->DatVs X.K F (ys.drop i) (B.map p8)->SqL X.K H l ys->gI X ap H it->s.heap.IsListIter it l i->i<=ys.length->cI cb B=.ok res->
  (∀ es' ep' s',Inv X ap Z (upd H p (bB X.w p es' ep')) s'->MapRel X.K F es' res->R (.ok (.ret .none)) s')->codeAny (model X.prog X.w) A (.builtin "dict.update.loop" ⟨[.ref p,.ref it,rawInt (i:Int),.none],[]⟩) R s:=by
 induction B with
 | nil=>
  intro i cb res es ep H s I O hf hp m d hl fp n hi e q
  have ay:ys.length<=i:=by
   have:=d.length
   rw[G9]at this
   simp at this;ext
  obtain⟨j,rv,pl,hz⟩:=I.list hl
  have ah:=rv.length
  have W:=(Walks.list (prog:=X.prog) (w:=X.w) (A:=A.in1) (by exact hA) it l G j.toArray).toS
  refine F6 Zp.aAK ?_
  rw[EO Zp.n4 _]
  show wpAny _ A.in1 (pyNext (.ref it) >>= _) _ _ s
  have aa:i=j.toArray.size:=by simp;ext
  refine AA (W.done s _ _ ⟨by rw[<-aa];exact n,pl.isList⟩ λs' M=>?_)
  obtain⟨f,g,dd,S,os⟩:=s'
  obtain⟨m1,m2,m3,m4,m5⟩:=M
  cases m2;cases m3;cases m4
  obtain⟨f0,f1,f2,f3,f4,f5⟩:=fp
  have I1:Inv X ap Z H ({s with heap:=f,toks:=S}:S9):=I.turned (λb o r e=>m1 b o (by simpa using r) e) f0 f1 f3 f4 f5
  cases e
  have ag:upd H p (bB X.w p es ep)=H:=by
   funext x
   by_cases z:x=p
   .subst z;rw[aL,hp]
   .rw[aE z]
  refine AA (m:=Builtin.Dict.addKeywords p []) (AE (AE ?_))
  exact q es ep _ (by rw[ag];exact I1) m
 | cons kv t ih=>
  intro i cb res es ep H s I O hf hp m d hl fp n hi e q
  obtain⟨y,k,Y,d1,d2⟩:∃ y k,ys.drop i=y::k/\DatV X.K F y (p8 kv)/\DatVs X.K F k (t.map p8):=by
   rw[AU]at d
   generalize ys.drop i=zz at d
   cases d with
   | cons a b=>exact⟨_,_,rfl,a,b⟩
  have hy:ys[i]? = some y:=by
   have:=CQ (λl=>l[0]?) Y
   simpa using this
  have az:=(AJ.mp hy).1
  have Q:ys.drop (i+1)=k:=by
   have:=CQ List.tail Y
   rw[List.tail_drop]at this
   exact this
  obtain⟨j,rv,pl,hz⟩:=I.list hl
  have ah:=rv.length
  obtain⟨u,hu1,ru⟩:=rv.get hy
  have W:=(Walks.list (prog:=X.prog) (w:=X.w) (A:=A.in1) (by exact hA) it l G j.toArray).toS
  refine F6 Zp.aAK ?_
  rw[EO Zp.n4 _]
  show wpAny _ A.in1 (pyNext (.ref it) >>= _) _ _ s
  refine AA (W.item i s _ _ (by simp;ext) ⟨n,pl.isList⟩ λv s' P St M=>?_)
  obtain⟨f,g,dd,S,os⟩:=s'
  obtain⟨m1,m2,m3,m4,m5⟩:=M
  cases m2;cases m3;cases m4
  have P:v=u:=by
   simp only[List.getElem?_toArray]at P
   rw[hu1]at P
   exact(BL P).symm
  subst P
  obtain⟨tt,x1,y1,rfl,ak,dk,dv⟩:=aNF d1
  cases(show v=Value.ref tt from ru)
  have ao:=fp
  obtain⟨f0,f1,f2,f3,f4,f5⟩:=fp
  have I1:Inv X ap Z H ({s with heap:=f,toks:=S}:S9):=I.turned (λb o r e=>m1 b o (by simpa using r) e) f0 f1 f3 f4 f5
  obtain⟨E,ax,⟨ot,ho,ae,nn,aw⟩,_⟩:=I1.tuple (ak.same O)
  obtain⟨ku,U,J,rk,ai⟩:∃ ku U,E=[ku,U]/\aR x1 ku/\aR y1 U:=by
   cases ax with
   | cons a b=>
    cases b with
    | cons c e=>
     cases e
     exact⟨_,_,rfl,a,c⟩
  subst J
  have ac:({s with heap:=f,toks:=S}:S9).TypeIs (.ref tt) "tuple":=⟨ot,ho,ae⟩
  unfold cI at e
  split at e
  .rename_i hs
   have av:∀ b∈[it],∃ o,({s with heap:=f,toks:=S}:S9).heap.get? b=some o/\∀ v,o.data≠.cell v:=λb r=>by
    rw[AM.mp r]
    obtain⟨o,e1,e2,e3⟩:=St.1
    exact⟨o,e1,λv z=>by rw[e3]at z;cases z⟩
   have I2:=I1.pinned (fp:=[it]) (λb r=>by rw[AM.mp r];exact ao) av
   have D:DicAt X H p es kv.1 x1:=⟨⟨ep,hp⟩,λe he=>(jN m.k1 m.k2 e he).same O,by rw[m.k1];exact m.nd,dk.same O,by rw[m.k1];exact hs.1⟩
   have aq:es.length<=sizeLine:=by
    have:es.length=cb.length:=by simpa using congrArg length m.k1
    rw[this,bX];exact hs.2
   refine AA (CJ (AA (wpAny_tryCatch ?_)))
   unfold Builtin.Dict.pairItems
   refine AA (HA ac (AA (C3 ho aw (AE ?_))))
   show wpAny _ _ (holding [ku,U] (dictSet p ku U)) _ _ _
   refine CJ (aNG (A:=A.in1) (by show A.units+1+9 < cLine;ext) D I2 rk ai aq λT s2 I3=>?_)
   obtain⟨o,e1,e2,e3⟩:=St.1
   have L:s2.heap.IsListIter it l (i+1):=⟨o,(I3.pin (it,o) (BI _ (BI _ (jV (AM.mpr rfl) e1)))).1,e2,e3⟩
   refine AE ⟨GX Zp.n4 _,?_⟩
   have m':=m.put dk dv
   have af:aC F (upd H p (bB X.w p (jZ es kv.1 x1 y1) T)):=λa o z=>by rw[aE (a6 z hf)];exact O a o z
   have am:SqL X.K (upd H p (bB X.w p (jZ es kv.1 x1 y1) T)) l ys:=by
    rcases hl with (h|⟨o,h⟩)|h
    .exact .inl (.inl (by rw[aE C];exact h))
    .exact .inl (.inr ⟨o,by rw[aE C];exact h⟩)
    .exact .inr h
   refine ih (i+1) _ res _ _ _ s2 I3.unpinned af hf aL m' (by rw[Q];exact d2) am ⟨by rw[aE (BF aj)];exact f0,f1,f2,f3,f4,f5⟩ L (by ext) e λes' ep' au N ad=>?_
   rw[sJ]at N
   exact q es' ep' au N ad
  .cases e
def aKK(X:Cx):L9 V->Hp->VK->Prop:=λxs H Q=>∃ l ys F a0 res,xs=[.ref l]/\SqL X.K H l ys/\aC F H/\DatVs X.K F ys (a0.map p8)/\cI [] a0=.ok res/\∀ p es' ep',H p=none->MapRel X.K F es' res->Q (.ref p) (upd H p (bB X.w p es' ep'))
theorem aHF(hc:X.calm=true)(hu:X.A.units+64 < cLine):jW X (.type "dict") (aKK X):=by
 intro ap s Z H xs us Q I r h
 obtain⟨l,ys,F,S,C,rfl,W,Y,d,e,q⟩:=h
 obtain⟨u,rfl,ru⟩:=kZ r
 cases(show u=Value.ref l from ru)
 have j:H s.heap.objs.size=none:=I.hok.fresh (AK _)
 have hA:X.A.handled=none:=I.ok.hd hc
 obtain⟨ac,rv,pl,hz⟩:=I.list W
 have i:l < s.heap.objs.size:=by obtain⟨o,e,_⟩:=pl.isList;exact AS e
 refine callType_codes (Q₁:=λobj f=>obj=.ref s.heap.objs.size/\f={s with heap:=s.heap.push {cls:=.type "dict",data:=.dict #[]}}) PySem.F.kt_called_dict (PySem.F.kt_typeCall_dict_1 _) PySem.F.entry_dict_init (kt_code_dict_new _ ⟨rfl,rfl⟩) λobj f g=>?_
 obtain⟨rfl,rfl⟩:=g
 have J:(s.heap.push {cls:=.type "dict",data:=.dict #[]}).get? s.heap.objs.size=some {cls:=.type "dict",data:=.dict #[]}:=AV _ rfl
 have k:({s with heap:=s.heap.push {cls:=.type "dict",data:=.dict #[]}}:S9).TypeIs (.ref s.heap.objs.size) "dict":=⟨_,J,rfl⟩
 have I1:=I.laid (a:=s.heap.objs.size) (o:=bB X.w s.heap.objs.size [] 0) (t':=s.toks) (λ_ _ q=>AD {cls:=.type "dict",data:=.dict #[]} q) (AK _)
  (f7 (EQ.mpr (BF (A3 I.big))) ⟨_,#[],J,⟨rfl,rfl,rfl⟩,rfl,.nil⟩)
 refine⟨k,PySem.F.args_dict_init_2 _ _,?_⟩
 have n:SqL X.K (upd H s.heap.objs.size (bB X.w s.heap.objs.size [] 0)) l ys:=by
  rcases W with (h|⟨o,h⟩)|h
  · exact .inl (.inl (by rw [aE (A3 i)]; exact h))
  · exact .inl (.inr ⟨o, by rw [aE (A3 i)]; exact h⟩)
  · exact .inr h
 generalize R:s.heap.objs.size=p at *
 have ae:(s.heap.push {cls:=.type "dict",data:=.dict #[]}).objs.size=p+1:=by rw[BM,R]
 generalize s.heap.push {cls:=.type "dict",data:=.dict #[]}=hh at *
 obtain⟨m,ad,D,af⟩:=I1.list n
 unfold Builtin.«dict.__init__» Builtin.Dict.selfAndRest
 refine AA (AA (FN k (AA (AE (AE ?_)))))
 show wpAny _ _ (Builtin.Dict.updateFrom "dict.__init__" p (.ref l) [] .none) _ _ _
 unfold Builtin.Dict.updateFrom
 obtain⟨⟨oc,od,aa,ag⟩,nl,c,M,L,T⟩:=D
 cases M
 cases L
 cases T
 have N:({s with heap:=hh}:S9).TypeIs (.ref l) "list":=⟨_,c,rfl⟩
 refine AA (HA N ?_)
 show wpAny _ _ (getAttr? (.ref l) "keys" >>= _) _ _ _
 refine AA (Zp.y9 (A:=X.A.in1.in1) c hA λh' v x=>?_)
 have B:Inv X ap Z (upd H p (bB X.w p [] 0)) ({s with heap:=h',toks:=v}:S9):=I1.kept (t':=v) x
 have P:h'.IsList l m.toArray:=⟨_,x _ _ c,rfl,_,rfl⟩
 refine AA (EL (AA (E7 P ?_)))
 have fz:(upd H p (bB X.w p [] 0)) h'.objs.size=none:=B.hok.fresh (AK _)
 have G:p < h'.objs.size:=by
  have:=x _ _ J
  exact AS this
 have y:l < h'.objs.size:=AS (x _ _ c)
 have fp:=B.fpOk (H':=upd H p (bB X.w p [] 0)) (AK h'.objs.size) fz
 have I3:Inv X ap Z (upd H p (bB X.w p [] 0)) ({s with heap:=h'.push {cls:=.type "list_iterator",data:=.fields #[.ref l,.int 0 0]},toks:=v}:S9):=B.kept (t':=v) λb o e=>AD _ e
 have t:F p=none:=aP Y j
 have E:aC F (upd H p (bB X.w p [] 0)):=λa o z=>by rw[aE (a6 z t)];exact Y a o z
 refine AE ⟨GX Zp.n4 _,?_⟩
 refine aNH (A:=X.A.in1) (p:=p) (it:=h'.objs.size) (l:=l) (F:=F) (ys:=ys) hA (by show X.A.units+1+11 < cLine;ext) (A3 G) (A3 y) (A3 i) S 0 [] C [] 0 _ _ I3 E t aL ⟨rfl,.nil,.nil,D0⟩ (by rw[List.drop_zero];exact d) n fp ⟨_,AV _ rfl,rfl,rfl⟩ (B8 _) e λU O s' V m'=>?_
 rw[sJ]at V
 exact⟨rfl,.ref p,_,V,rfl,q p U O j m'⟩
end
def kX:L9 Dz->O9 (L9 (Dz×Dz))
 | []=>some []
 | .tuple [k,v]::t=>(kX t).map λr=>(k,v)::r
 | _=>none
theorem uJ:∀ {ds:L9 Dz} {a0:L9 (Dz×Dz)},kX ds=some a0->ds=a0.map p8
 | [],a0,h=>by cases h;rfl
 | d::t,a0,h=>by
  unfold kX at h
  split at h
  .rename_i h0;cases h0
  .rename_i k v t' h0
   cases h0
   obtain⟨r,hr,rfl⟩:=HZ.mp h
   rw[AU,uJ hr];rfl
  .cases h
def aDO(i:Nat)(f:Sg->R (L9 Dz)):Sg->R Fw:=λY=>(f Y).bind λds=>match kX ds with
 | some a0=>(cI [] a0).bind λres=>.ok (.nx (Y.set i (some (.m res))))
 | none=>.bad
section
variable{X:Cx}{c:Ct}{E:XK}{st:Stmt}
theorem aNI{f:Sg->R (L9 Dz)}(t:X.K=c.K)(hW:X.w=c.w)(h:PS X st (kD (tCB (aKK X) (b9 (tV (uW c) c E f) eJ)) (i6 i))):PSf X c E st (aDO i f):=PS.imp h λD Z H ⟨Y,F,ab,k⟩=>by
 refine⟨Y,F,ab,(Rk.bind k).imp λds _ q v b H1 s1 r1=>?_⟩
 obtain⟨l,vs,rfl,y,o,A,u⟩:=r1
 split at q
 .rename_i a d
  rw[uJ d]at u
  cases e:cI [] a with
  | bad=>rw[e]at q;exact q.elim
  | ex x=>exact absurd e (nM _ _ _)
  | ok res=>
   rw[e]at q
   refine⟨l,vs,b,a,res,rfl,SqL.of o,s1.fh,by rw[t];exact u,e,λp r n g m=>?_⟩
   have z:b p=none:=aP s1.fh g
   have j:H p=none:=aP s1.hh g
   have s:Ext F H b (upd H1 p (bB X.w p r n)):=s1.trans (Ext.own s1.fh g)
   rw[hW]at s ⊢
   rw[t]at m
   exact Rk.ok q _ b _ s1.ff (ab.setM s j aL z m)
 .exact q.elim
end
end Fl
namespace Zp
end Zp
namespace Fl
def BxK(c:Ct)(E':XK)(Z:L2.St)(D:j8)(F H:Hp):R Unit->Prop
 | .bad=>False
 | .ok _=>∀ F' H',Ext F H F' H'->D.nx Z H'
 | .ex e=>∀ a C F' H',Ext F H F' H'->kG c.K c.mg F' e a C->E' (.ref C) (some a) H'
theorem BxK.ext{c:Ct}{E':XK}{Z:L2.St}{D:j8}{F H F1 H1:Hp}(s:Ext F H F1 H1):∀ {r:R Unit},BxK c E' Z D F H r->BxK c E' Z D F1 H1 r
 | .bad,h=>h
 | .ok _,h=>λb H' e=>h b H' (s.trans e)
 | .ex _,h=>λa C b H' e=>h a C b H' (s.trans e)
def aK8:Sg->R Unit:=λ_=>.ok ()
def dIsB:Dz->Dz->R Dz
 | .bool a,.bool b=>.ok (.bool (a == b))
 | _,_=>.bad
theorem aKL:b7 dIsB:=by intro a b e h;unfold dIsB at h;split at h<;>cases h
theorem aRZ{X:Cx}{c:Ct}:OpR X (compareOp .Is) (r2D (aU c) (aU c) (bC c) dIsB):=by
 intro ap s Z H v u x y Q I f j h
 obtain⟨l,H1,F,a,b,d,i,g,k,e,q⟩:=h
 unfold dIsB at e
 split at e
 .cases e
  obtain rfl:=aM.bl_of g
  obtain rfl:=aM.bl_of k
  cases f
  cases j
  exact is_bool ⟨.bl _,H,I.tok _,rfl,q _ F H (Ext.refl i) (.bl _)⟩
 .cases e
section
variable{X:Cx}{c:Ct}{E:XK}{e:E2}{pos p2:Pos}{lo hi:O9 E2}
def dSlS:Dz->O9 Int->O9 Int->R Dz
 | .str z,lo,hi=>if z.length<=16777216 then .ok (.str (Txt.slice z lo hi))else .bad
 | _,_,_=>.bad
theorem aW9:SlR X (aLZ c (bC c) dSlS):=by
 intro ap s Z H v x f l lo hi sl Q I b k m j h
 obtain⟨F,d,w,i,g,a,q⟩:=h
 unfold dSlS at a
 split at a
 .split at a
  .rename_i e
   cases a
   obtain rfl:=aM.str_of g
   exact aH6 ap s Z H _ x f l lo hi sl Q I b k m j ⟨_,rfl,by rw[bX];exact e,q _ F H (Ext.refl i) (.str _)⟩
  .cases a
 .cases a
theorem aKM:∀ x l h e,dSlS x l h≠.ex e:=by intro x l h e q;unfold dSlS at q;split at q<;>(try split at q)<;>cases q
theorem aKN{z:Str}{a fh:Sg->R (O9 Int)}(f:PR X c E e (eC (.str z)))(d:PO X lo (tPf c E a))(b:PO X hi (tPf c E fh)):PD X c E (.Subscript e (.Slice lo hi none p2) pos) (eSl dSl (eC (.str z)) a fh):=
 (show PD X c E (.Subscript e (.Slice lo hi none p2) pos) (eSl dSlS (eC (.str z)) a fh)from PE.imp (aA5 aW9 f d b) λZ H Q h=>aEN aKM (j2 c) h)
def xD:Dz->R (L9 Dz)
 | .str z=>if z.cps.toList.length<=16777216 then .ok (kJ 0 (z.cps.toList.map λu=>.str ⟨#[u]⟩))else .bad
 | _=>.bad
theorem aR0{f:Sg->R Dz}(h':PI X tg e (aH8 (b9 (tV (bC c) c E f) eJ))):PI0 X c E tg e (e1 xD f):=PI.imp h' λZ H Q ⟨Y,F,ab,k⟩=>by
 have a:=Rk.bind k
 cases b:f Y with
 | bad=>rw[b]at a;exact a.elim
 | ex x=>rw[b]at a;exact⟨Y,F,ab,by rw[b];exact a⟩
 | ok d=>
  rw[b]at a
  have k2:=Rk.ok a
  unfold xD at k2
  split at k2
  .rename_i z
   split at k2
   .rename_i g
    refine⟨Y,F,ab,?_⟩
    rw[b]
    intro v h H' s r
    obtain rfl:=DatV.str_of r
    exact⟨z,rfl,Rk.ok k2 _ h H' s (aI6 g)⟩
   .exact k2.elim
  .exact k2.elim
end
def aKO(Y:Sg)(Z:L2.St)(p:Az):Prop:=∀ (j:Nat) (a:A),Y[j]? = some (some a)->a.own=true->Z[j]? ≠ some (some (.ref p))
structure Own9(c:Ct)(F H:Hp)(Y:Sg)(Z:L2.St)(i:Nat)(p b:Az)(u:V)(ws:List V):Prop where
 s:Z[i]? = some (some (.ref p))
 ne:p≠b
 hp:H p=some (.lst [u,.ref b])
 hb:H b=some (.lst ws)
 fp:F p=none
 fb:F b=none
 p0:c.H0 p=none
 b0:c.H0 b=none
 np:aKO Y Z p
 nb:aKO Y Z b
theorem Own9.ext{c:Ct}{F H a H':Hp}{Y:Sg}{Z:L2.St}{b:Az}{u:V}{ws:L9 V}(h:Own9 c F H Y Z i p b u ws)(e:Ext F H a H'):Own9 c a H' Y Z i p b u ws:=
 ⟨h.s,h.ne,e.hh _ _ h.hp,e.hh _ _ h.hb,e.stay h.fp h.hp (λ_ z=>nomatch z),e.stay h.fb h.hb (λ_ z=>nomatch z),h.p0,h.b0,h.np,h.nb⟩
end Fl
namespace L2
section
variable{X:Cx}
end
end L2
namespace PySem
open PySem.Sem (wp)
end PySem
namespace Fl
section
variable{X:Cx}{c:Ct}{E:XK}{e:E2}
def xE(p:Sg->R (L9 (Dz×Dz)))(f g:Sg->R Dz):Sg->R Dz:=λY=>(p Y).bind λa0=>(cI [] a0).bind λres=>(f Y).bind λk=>(g Y).bind λy=>if bH k (res.map (·.1))=true then .ok ((cM res k).getD y)else .bad
theorem aR1{p:Sg->R (L9 (Dz×Dz))}{f g:Sg->R Dz}(G:X.K=c.K)(hW:X.w=c.w)(h:PE X e (aGU X "dict" (aJE X) (aGT X (aL6 c E p)) (b9 (tV (bC c) c E f) (b9 (tV (bC c) c E g) eJ)))):PD X c E e (xE p f g):=PE.imp h λZ H Q ⟨Y,F,ab,k⟩=>λp L=>by
 have e1:=Ext.own (F:=F) (o:=bB X.w p [] 0) ab.fh L
 refine⟨Y,F,ab.ext e1,((Rk.bind k).ext e1).imp λA _ q ps B H2 l r2=>?_⟩
 have O:B p=none:=l.stay (aP ab.fh L) aL (λ_ z=>uV z)
 have h2:H2 p=some (bB X.w p [] 0):=l.hh _ _ aL
 cases e:cI [] A with
 | bad=>rw[e]at q;exact q.elim
 | ex x=>exact absurd e (nM _ _ _)
 | ok res=>
  rw[e,R.bind_ok]at q
  refine⟨B,A,res,l.fh,O,h2,by rw[G];exact r2,e,λi j m=>?_⟩
  have t:Ext F H B (upd H2 p (bB X.w p i j)):=by
   refine⟨λa o z=>?_,l.ff,λa o z=>?_,λa z n=>?_⟩
   .have N:a≠p:=a6 z L
    rw[aE N]
    exact l.hh a o (by rw[aE N];exact z)
   .rw[aE (a6 z O)];exact l.fh a o z
   .have:=l.nw a z n
    by_cases w:a=p
    · ext
    · unfold lV at this; rw [aE w]at this; exact this
  refine⟨λap s v I r=>?_,Y,B,ab.ext t,((Rk.bind q).ext t).imp λd _ q v F3 H3 J r3=>?_⟩
  .cases (show v=Value.ref p from r)
   obtain⟨⟨_,o,ar,h1,h2,_⟩,_,_⟩:=(show bS X.prog X.w _ s.heap p (bB X.w p i j)from I.hok p _ aL)
   exact⟨⟨o,h1,h2.1⟩,λa z=>by cases z;exact⟨o,h1,h2.2.1⟩⟩
  .refine ⟨Y,F3,ab.ext (t.trans J),((Rk.bind q).ext (t.trans J)).imp λy _ q u M H4 S U=>?_⟩
   split at q
   .rename_i W
    have b:=J.trans S
    have C:MapRel X.K M i res:=⟨m.k1,m.k2.same b.ff,m.vs.same b.ff,m.nd⟩
    have D:DicAt X H4 p i d v:=⟨⟨j,b.hh _ _ aL⟩,λe he=>(jN C.k1 C.k2 e he).same b.fh,by rw[m.k1];exact m.nd,by rw[G];exact(DatV.same S.ff r3).same b.fh,by rw[m.k1];exact W⟩
    refine⟨p,i,d,v,u,rfl,rfl,D,?_⟩
    rcases C.get d with ⟨V,T⟩|⟨v',d',h1,h2,P⟩
    · rw [T]at q; rw [V]; exact Rk.ok q u M H4 (t.trans b) U
    · rw [h2]at q; rw [h1]; rw [G]at P; exact Rk.ok q v' M H4 (t.trans b) P
   .exact q.elim
end
def rLI(K:Frag):V->L9 V->Hp->VK->Prop:=λx vs H Q=>∃ xs d u j,vs=[u]/\DatV K H x (.list xs)/\DatV K H u d/\shaped d=true/\shaped (.list xs)=true/\xs.length<=16777216/\(xs.findIdx? λy=>PyData.eqv y d)=some j/\Q (.int j) H
theorem aKP{X:Cx}(P:X.A.units+64 < cLine):MtR X "list.index" (rLI X.K):=by
 intro ap s Z H x vs v us Q I C N h
 obtain⟨xs,d,u,j,rfl,G,D,s1,w,T,t,q⟩:=h
 obtain⟨E,rfl,J⟩:=N.one
 obtain⟨O,r1⟩:=DatV.reads I G (l6 w) C
 obtain⟨bs,r2⟩:=DatV.reads I D (l6 s1) J
 have k:=wL w
 have f:=uZ (b:=d.depth) k.2
 cases r1 with
 | list h1 h2 h3 h4=>
  rename_i a o c n B
  have e:=SeqAt.readsAll_map _ _ _ k.1 h4
  obtain⟨S,od,R,sl⟩:=o
  dsimp only at h2 h3
  subst h2 h3
  have g:c.toList.length=xs.length:=by rw[<-e,AB]
  have M:c.size=xs.length:=by rw[<-g,CA]
  rw[List.findIdx?_eq_some_iff_getElem]at t
  obtain⟨L,p,l⟩:=t
  have r:∀ m (f:m < c.size),PyData.eqv (readOf s.heap c[m]) d=PyData.eqv (xs[m]'(by ext)) d:=λm f=>by
   have:readOf s.heap c[m]=xs[m]'(by ext):=by
    have z:(c.toList.map (readOf s.heap))[m]'(by rw[AB];simpa using f)=xs[m]'(by ext):=by simp only[e]
    rw[FM]at z
    simpa using z
   rw[this]
  refine E4 HM ⟨_,h1,rfl⟩ PySem.F.entry_list_index (PySem.F.args_list_index_2 _ _) (SeqAt.list_indexAt a c n od sl E (λy=>PyData.eqv (readOf s.heap y) d) j (by ext) (by ext) (by rw[r j (by ext)];exact p) (λm f i=>by rw[r m f];exact Bool.eq_false_iff.mpr (l m i))) ⟨h1,SeqAt.items_eqAt h4 r2 k.1 (gK s1) (by ext),.int j,H,I.tok _,⟨_,rfl⟩,q⟩
def zA:Dz->Dz->R Dz
 | .list xs,x=>if shaped x=true/\shaped (.list xs)=true/\xs.length<=16777216 then(match xs.findIdx? λy=>PyData.eqv y x with|some j=>.ok (.int j)|none=>.bad)else .bad
 | _,_=>.bad
def isL:Dz->Bool
 | .list _=>true
 | _=>false
def rY(f g:Sg->R Dz):Sg->R Dz:=λY=>(f Y).bind λx=>if isL x=true then(g Y).bind λy=>zA x y else .bad
theorem aKQ{X:Cx}{c:Ct}{E:XK}{f g:Sg->R Dz}(b:X.K=c.K)(h:PE X e (tBM X.K "list" (rLI X.K) (tV (aU c) c E f) (b9 (tV (aU c) c E g) eJ))):PD X c E e (rY f g):=PE.imp h λZ H Q ⟨Y,F,ab,k⟩=>by
 refine⟨Y,F,ab,(Rk.bind k).imp λx ex q v m H1 s1 r1=>?_⟩
 cases x with
 | list xs=>
  have i:Rk c E F H (g Y) _:=Rk.bind (f:=λy=>zA (.list xs) y) q
  obtain⟨p,vs,rfl,h1,h2⟩:=aM.lst_of s1.fh r1
  refine⟨.inl ⟨rfl,vs,by rw[b];exact h1⟩,Y,m,ab.ext s1,(i.ext s1).imp λy _ q u l H2 a r2=>?_⟩
  unfold zA at q
  dsimp only at q
  split at q
  .rename_i d
   split at q
   .rename_i j n
    exact⟨xs,y,u,j,rfl,by rw[b];exact(aM.ext a r1).heap a.fh,by rw[b];exact r2.heap a.fh,d.1,d.2.1,d.2.2,n,Rk.ok q _ l H2 (s1.trans a) (.int _)⟩
   .exact q.elim
  .exact q.elim
 | _=>exact q.elim
end Fl
namespace L2
theorem aR2{w:W9}{A:U9}{items:Array V9}{x:Int}{u:Tok}
  (a:s.heap.get? l=some {cls:=.type "list",dict:=none,data:=.seq items k,slots:=#[]})
  (hlo : -(2 ^ 63:Int)<=x) (hhi:x < 2 ^ 63) (hsz:items.size * x.toNat<=2 ^ 24)
  (h:Q (.ref s.heap.objs.size) {s with heap:=s.heap.push {cls:=.type "list",data:=.seq (foldl (λx1 x2=>x1++x2) #[] (replicate (if items.isEmpty=true then 0 else x.toNat) items))}}) :
  wpAny (model prog w) A (binaryOp .Mult (.ref l) (.int x u)) Q E s:=
 wpAny_binaryOp_repeat_ref (T:="list") (U:="int") (by decide) ⟨_,a,rfl⟩ (λs'=>typeIs_int s' x u) noFill_list_mul F.fills_int_mul F.slot_int_rmul repeat_list F.slot_int_index.lookup
  (E4 F.slot_int_rmul (typeIs_int s x u) F.entry_int_rmul (F.args_int_rmul_2 _ _) (int___rmul___int_list x u l items k)
   ⟨a,rfl,⟨_,a,rfl⟩,E4 F.slot_list_mul ⟨_,a,rfl⟩ F.entry_list_mul (F.args_list_mul_2 _ _)
    (AutoListH.list___mul___list_int_3 l items k x u (by simp[Builtin.List.listFitsIndex];ext) (by ext) (by simp[Builtin.List.listTooLong,sizeLine];ext))
    ⟨a,h⟩⟩)
def aXA:R2:=λx y H Q=>∃ p vs i,x=.ref p/\y=.int i/\H p=some (.lst vs)/\vs≠[] /\ -(2 ^ 63:Int)<=i/\i < 2 ^ 63/\vs.length * i.toNat<=16777216/\∀ r,H r=none->Q (.ref r) (upd H r (.lst (replicate i.toNat vs).flatten))
theorem aR3{X:Cx}:OpR X (binaryOp .Mult) aXA:=by
 intro ap s Z H v u x y Q I k g h
 obtain⟨p,vs,i,rfl,rfl,j,c,h1,h2,e,q⟩:=h
 cases k
 obtain⟨t,rfl⟩:=g
 obtain⟨z,a,n,r,l⟩:=(show bS X.prog X.w H s.heap p (.lst vs)from I.hok p _ j)
 have b:a.length=vs.length:=r.length.symm
 refine aR2 (items:=a.toArray) l h1 h2 (by rw[A6,b];exact e) ?_
 have d:a.toArray.isEmpty=false:=by
  cases a with
  | nil=>cases vs with
   | nil=>exact absurd rfl c
   | cons _ _=>cases b
  | cons _ _=>rfl
 have f:=aER a i.toNat []
 rw[CC]at f
 rw[d,AL (by decide),show(#[]:Array V9)=([]:L9 V9).toArray from rfl,f]
 exact⟨.ref _,_,I.lnew (t':=s.toks) (Fl.aB6 r _) (by rw[aO5];have:sizeLine=16777216:=rfl;rw[Nat.mul_comm]at e;ext),rfl,q _ I.fresh⟩
end L2
namespace Fl
def xF(xs:L9 Dz):Dz->R (L9 Dz)
 | .int i=>if xs≠[] /\ -(2 ^ 63:Int)<=i/\i < 2 ^ 63/\xs.length * i.toNat<=16777216 then .ok (replicate i.toNat xs).flatten else .bad
 | _=>.bad
def xG(f:Sg->R (L9 Dz))(g:Sg->R Dz):Sg->R (L9 Dz):=λY=>(f Y).bind λxs=>(g Y).bind λy=>xF xs y
section
variable{X:Cx}{c:Ct}{E:XK}{a b:E2}{pos:Pos}
theorem zB{g:Sg->R (L9 Dz)}{fb:Sg->R Dz}(j:PN X c E a g)(hb:PR X c E b fb):PN X c E (.BinOp a .Mult b pos) (xG g fb):=PE.imp (aF0 aR3 j hb) λZ H Q ⟨Y,F,ab,k⟩=>by
 refine⟨Y,F,ab,(Rk.bind k).imp λxs _ q v l H1 s1 r1=>?_⟩
 obtain⟨p,vs,rfl,e1,e2,m,f⟩:=r1
 refine⟨Y,l,ab.ext s1,((Rk.bind q).ext s1).imp λy _ q u h H2 d r2=>?_⟩
 cases y with
 | int i=>
  unfold xF at q
  dsimp only at q
  split at q
  .rename_i e
   obtain rfl:=aM.int_of r2
   refine⟨p,vs,i,rfl,rfl,d.hh _ _ e2,λz=>e.1 ?_,e.2.1,e.2.2.1,by rw[f.length];exact e.2.2.2,λr hr=>?_⟩
   .have:=f.length
    rw[z]at this
    exact D8.mp this.symm
   .exact Rk.ok q (.ref r) h _ ((s1.trans d).trans (Ext.own d.fh hr)) ⟨r,_,rfl,aP (s1.trans d).hh hr,aL,aP d.fh hr,zV (f.same d.ff) _⟩
  .exact q.elim
 | _=>exact q.elim
end
theorem aNJ{X:Cx}{c:Ct}(m:X.K=c.K){T:String}(k:Kit X.K T):jW X (.builtin "isinstance") (aL2 c T):=by
 intro ap s Z H xs us Q I r h
 obtain⟨F,x,v,d,rfl,j,g,f,q⟩:=h
 obtain⟨u,w,rfl,i,e⟩:=aNZ r
 cases(show w=Value.type T from e)
 have a:∀ {b:Bool},d=.bool b->∀ tk,EP X ap Z Q (.bool b) {s with toks:=tk}:=λ{b} e tk=>by subst e;exact⟨.bl b,H,I.tok _,rfl,q _ F H (Ext.refl j) (.bl _)⟩
 cases x with
 | dict _=>cases f
 | none=>
  cases f
  cases aM.non_of g
  cases(show u=Value.none from i);exact ED PySem.W.kitx_none I.kIn True.intro k.non (λz=>nomatch z) (a rfl)
 | bool b=>
  cases f
  cases aM.bl_of g
  cases(show u=Value.bool b from i);exact ED PySem.W.kitx_bool I.kIn True.intro k.bl (λz=>nomatch z) (a rfl)
 | int b=>
  cases f
  cases aM.int_of g
  obtain⟨t,rfl⟩:=(show ∃ t,u=Value.int b t from i);exact ED PySem.W.kitx_int I.kIn True.intro k.int (λz=>nomatch z) (a rfl)
 | str b=>
  cases f
  cases aM.str_of g
  obtain⟨t,rfl⟩:=(show ∃ t,u=Value.str b t from i);exact ED PySem.W.kitx_str I.kIn True.intro k.str (λz=>nomatch z) (a rfl)
 | tuple xs=>
  cases f
  obtain⟨p,vs,rfl,_,h1,h2⟩:=aM.tup_of j g
  rw[<-m]at h1
  cases(show u=Value.ref p from i)
  obtain⟨l,_,⟨o,h1,h2,_⟩,_⟩:=I.tuple h1
  exact ED PySem.W.kitx_tuple I.kIn ⟨o,h1,h2⟩ k.tup (λz=>nomatch z) (a rfl)
 | list xs=>
  cases f
  obtain⟨p,vs,rfl,h1,h2⟩:=aM.lst_of j g
  rw[<-m]at h1
  cases(show u=Value.ref p from i)
  obtain⟨l,_,n,_⟩:=I.list h1
  obtain⟨o,h1,h2,_⟩:=n.isList
  exact ED PySem.W.kitx_list I.kIn ⟨o,h1,h2⟩ k.lst (λz=>nomatch z) (a rfl)
end Fl
namespace L2
end L2
namespace Fl
section
variable{X:Cx}{c:Ct}{E:XK}{e o:E2}{es:L9 E2}{pos apos:Pos}
theorem qP{V W:Type}{g:Str}:∀ {fvs:L9 (Str×V)} {fs:L9 (Str×W)},fvs.map (·.1)=fs.map (·.1)->fs.lookup g=none->fvs.lookup g=none
 | [],[],_,_=>rfl
 | [],_::_,h,_=>by simp at h
 | _::_,[],h,_=>by simp at h
 | (a,v)::fvs,(b,x)::fs,h,e=>by
  rw[AU,AU]at h
  injection h with h1 h2
  simp only at h1
  subst h1
  rw[CI]at e ⊢
  cases q:(g == a)with
  | true=>rw[q]at e;cases e
  | false=>rw[q]at e;exact qP h2 e
end
structure OwnL(c:Ct)(F H:Hp)(Z:L2.St)(i:Nat)(p:Az)(qs:List Az)(vss:List (List V)):Prop where
 s:Z[i]? = some (some (.ref p))
 hp:H p=some (.lst (qs.map V.ref))
 fp:F p=none
 p0:c.H0 p=none
 np:p∉qs
 nd:qs.Nodup
 len:vss.length=qs.length
 q:∀ (j:Nat) (q:Az) (vs:List V),qs[j]? = some q->vss[j]? = some vs->H q=some (.lst vs)/\F q=none/\c.H0 q=none
theorem OwnL.ext{c:Ct}{F H g H':Hp}{Z:L2.St}{qs:L9 Az}{f:L9 (L9 V)}(h:OwnL c F H Z i p qs f)(e:Ext F H g H'):OwnL c g H' Z i p qs f:=
 ⟨h.s,e.hh _ _ h.hp,e.stay h.fp h.hp (λ_ z=>nomatch z),h.p0,h.np,h.nd,h.len,λj q vs h1 h2=>by
  obtain⟨a,b,d⟩:=h.q j q vs h1 h2
  exact⟨e.hh _ _ a,e.stay b a (λ_ z=>nomatch z),d⟩⟩
end Fl
namespace L2
end L2
namespace Mc
open Fl
def oY:Sg->R Fw:=(aF (a8 2 (vD (eSl dSl (eC (.str "abc")) oNo (oSo (rV 0)))))
 (aF (fI (e1 xD (eV 1)) (stT [(stN 3),(stN 4)]) (sIf (e1 asB (e2 dNin (rV 4) (rV 2))) yH sNx))
 (aN (vV 1))))
def iU:L9 A->R A:=fnF 5 oY
def fA:Sg->R Fw:=(aN (vD (eL (cA [none,some 0] (e1 aH (rV 1)) (stN 0) dC (eA (aG 2 fJ (aA (vV 1) (aA (vV 0) aB))))))))
def iY:Sg->R Fw:=(aN (vD (e2 dGt (e1 dLen (rV 0)) (eC (.int 200)))))
def oC:Sg->R Fw:=(aF (cO 1 (cA [none,some 0] (eH (eA (aG 1 eE (aA (vV 0) aB)))) (stN 0) dC (eA (aG 2 iR (aA (vV 1) (aA (vV 0) aB))))))
 (aF (nN 2 "one_way.<locals>.after")
 (aF (sFz 1 (a8 3 (iI [1] 3 cW (aA (aG 1 eX (aA (vV 0) aB)) (aA (lX "one_way.<locals>.after" [1] 4 1 (cB 2 fA) 2) (aA (pN [] 1 2 (cB 2 iY)) aB))))))
 (aF (a8 4 (vD (e2 dIx (rV 3) (eC (.int 0)))))
 (aF (sIf (e1 asB (e2 dGt (e1 dLen (rV 4)) (eC (.int 200)))) yH sNx)
 (aN (vD (bM (aA (e1 dTup (e2 dIx (rV 3) (eC (.int 1)))) (aA (e1 dTup (eL (cA [none,some 0] (e1 aH (rV 4)) (stN 0) dC (eA (aG 2 dB (aA (vV 1) (aA (vV 0) aB))))))) aB))))))))))
def dR:L9 A->R A:=fnF 5 oC
def uK:Sg->R Fw:=(aN (aG 3 gZ (aA (vV 0) (aA (vD (eC (.int 0))) (aA (aG 2 iU (aA (aG 1 eY (aA (vV 0) aB)) (aA (vV 1) aB))) aB)))))
def lA:L9 A->R A:=fnF 2 uK
def uL:Sg->R Fw:=(aN (vD (e2 dIx (e2 dIx (rV 0) (eC (.int 1))) (eA (aG 2 lA (aA (vV 0) (aA (vV 1) aB)))))))
def i5:L9 A->R A:=fnF 2 uL
def rZ:Sg->R Fw:=(aN (aG 1 oO (aA (aG 1 dR (aA (vV 0) aB)) aB)))
def bK:L9 A->R A:=fnF 1 rZ
def vN:Sg->R Fw:=(aF (sIf (e1 asB (e2 dNe (eA (aG 1 eY (aA (vV 0) aB))) (eA (aG 1 eY (aA (vV 1) aB))))) yH sNx)
 (aF (a8 2 (aG 3 kM (aA (vV 0) (aA (vV 1) (aA (vD (bM (aA (eC (.int 0)) (aA (eC (.int 0)) aB)))) aB)))))
 (aF (sIf (e1 asB (e2 dIs (e2 dIx (rV 2) (eC (.int 1))) (eC .none))) (aN (vD (bM (aA (eC (.str "alike")) (aA (e2 dIx (rV 2) (eC (.int 0))) aB))))) sNx)
 (aN (vD (bM (aA (eC (.str "unlike")) (aA (e2 dIx (rV 2) (eC (.int 1))) aB))))))))
def jG:L9 A->R A:=fnF 3 vN
def r0:Sg->R Fw:=(aF (sIf (e1 asB (e2 dNe (eA (aG 1 eE (aA (vV 0) aB))) (eA (aG 1 eE (aA (vV 1) aB))))) yH sNx)
 (aN (aG 2 jG (aA (aG 1 dR (aA (vV 0) aB)) (aA (aG 1 dR (aA (vV 1) aB)) aB)))))
def eQ:L9 A->R A:=fnF 2 r0
def saB:Sg->R Fw:=(aF (sIf (bOr (lK (e1 asB (eA (aG 3 k9 (aA (vV 0) (aA (vV 1) (aA (vV 4) aB))))))) (lK (e1 asB (eA (aG 3 fK (aA (vV 0) (aA (vV 1) (aA (vV 4) aB)))))))) (aN (vD (eC (.bool false)))) sNx)
 (sIf (lK (e1 asB (e1 dAll (eL (cA [none,some 3] (e1 aH (eA (aG 3 eM (aA (vV 0) (aA (vV 1) (aA (vV 4) aB)))))) (stN 0) dC (jB false 1 (eV 0))))))) (aN (vD (eC (.bool false)))) sNx))
def qG:Sg->R Fw:=(aF (sIf (e1 asB (e2 dNe (eA (aG 1 eY (aA (vV 0) aB))) (eA (aG 1 eY (aA (vV 1) aB))))) (aN (vD (eC (.bool false)))) sNx)
 (aF (aDO 3 (cA [none] (e1 aH (rV 2)) (stN 0) dC (bM (aA (eV 0) (aA (eC (.bool true)) aB)))))
 (aF (sIf (e1 asB (jB true 3 (bM (aA (eC (.int 0)) (aA (eC (.int 0)) aB))))) (aN (vD (eC (.bool false)))) sNx)
 (aF (aMI 3 (fI (aAU 3) (stN 4) saB))
 (aN (vD (eC (.bool true))))))))
def i9:L9 A->R A:=fnF 5 qG
def lO:Sg->R Fw:=(aF (sIf (e1 asB (e1 (g9 "str") (rV 0))) (aN (vV 0)) sNx)
 (aN (vD (e2 bV (rV 0) (rV 1)))))
def eU:L9 A->R A:=fnF 2 lO
def raF:Sg->R Fw:=(fG 2 (bM (aA (eA (aG 2 eU (aA (vV 3) (aA (vV 1) aB)))) (aA (e1 dTup (eL (cA [none,none,some 1] (e1 aH (rV 4)) (stT [(stN 0),(stN 1)]) dC (bM (aA (e2 bV (rV 0) (rV 2)) (aA (eV 1) aB)))))) (aA (eA (aG 2 eU (aA (vV 5) (aA (vV 1) aB)))) aB)))))
def lP:Sg->R Fw:=(aF (cO 2 (cQ aB)) (aF (fI (e1 aH (eV 0)) (stT [(stN 3),(stN 4),(stN 5)]) raF) (sFz 2 (aN (vV 2)))))
def dA:L9 A->R A:=fnF 6 lP
def jnF:Sg->R Fw:=(fG 5 (bM (aA (e2 dIx (eL (cQ (aA (eV 6) (aA (e2 dIx (e2 dIx (rV 4) (eC (.int 0))) (eC (.int 0))) aB)))) (e1 dInt (e2 dEq (rV 6) (rV 2)))) (aA (eV 7) (aA (e2 dIx (eL (cQ (aA (eV 8) (aA (eV 3) aB)))) (e1 dInt (e2 dEq (rV 8) (rV 2)))) aB)))))
def lQ:Sg->R Fw:=(aF (a8 3 (vD (e1 dLen (rV 0))))
 (aF (a8 4 (aG 2 dA (aA (vV 1) (aA (vD (e2 bV (rV 3) (eC (.int 1)))) aB))))
 (aF (cO 5 (cQ aB))
 (aF (fI (e1 aH (eV 0)) (stT [(stN 6),(stN 7),(stN 8)]) jnF)
 (aF (fG 5 (bM (aA (e2 dIx (e2 dIx (rV 4) (eC (.int 0))) (eC (.int 0))) (aA (e1 dTup (eL (xG (cQ (aA (bM (aA (eV 3) (aA (e1 dNeg (eC (.int 1))) aB))) aB)) (e1 dLen (e2 dIx (e2 dIx (rV 0) (eC (.int 0))) (eC (.int 1))))))) (aA (eC (.str "out")) aB)))))
 (aN (vD (e1 dTup (eL (e2 lN (rV 5) (rV 4)))))))))))
def eB:L9 A->R A:=fnF 9 lQ
def abF:Sg->R Fw:=(fG 2 (bM (aA (eV 5) (aA (e1 dTup (eL (cA [none,none] (e1 aH (rV 4)) (stT [(stN 0),(stN 1)]) dC (bM (aA (eV 0) (aA (e1 dNeg (rV 1)) aB)))))) (aA (eV 3) aB)))))
def m8:Sg->R Fw:=(aF (a8 1 (aG 2 dA (aA (vV 0) (aA (vD (eC (.int 1))) aB))))
 (aF (cO 2 (cQ (aA (bM (aA (eC (.int 0)) (aA (e1 dTup (eL (xG (cQ (aA (bM (aA (eC (.int 0)) (aA (eC (.int 1)) aB))) aB)) (e1 dLen (e2 dIx (e2 dIx (rV 0) (eC (.int 0))) (eC (.int 1))))))) (aA (e2 dIx (e2 dIx (rV 1) (eC (.int 0))) (eC (.int 0))) aB)))) aB)))
 (aF (fI (e1 aH (eV 1)) (stT [(stN 3),(stN 4),(stN 5)]) abF)
 (aN (vD (e1 dTup (rV 2)))))))
def eR:L9 A->R A:=fnF 6 m8
def pdF:Sg->R Fw:=(aF (a8 5 (vD (e2 dMod (e2 dDiv (rV 1) (eC (.int 4))) (e2 bV (e1 dLen (rV 0)) (rV 3)))))
 (aF (a8 6 (vD (e1 dTup (eL (xG (cQ (aA (bM (aA (eV 5) (aA (eC (.int 1)) aB))) aB)) (e1 dLen (e2 dIx (e2 dIx (rV 0) (eC (.int 0))) (eC (.int 1)))))))))
 (fG 2 (bM (aA (e2 dIx (eL (cQ (aA (eC (.str "by")) (aA (eC (.str "out")) (aA (eV 5) aB))))) (e2 dMod (e2 dDiv (rV 1) (eC (.int 64))) (eC (.int 3)))) (aA (eV 6) (aA (e2 dIx (eL (cQ (aA (eC (.str "out")) (aA (eV 5) aB)))) (e2 dMod (rV 4) (eC (.int 2)))) aB)))))))
def lR:Sg->R Fw:=(aF (cO 2 (e1 dLst (rV 0)))
 (aF (a8 3 (vD (e2 dMod (rV 1) (eC (.int 4)))))
 (aF (fI (eH (rV 3)) (stN 4) pdF)
 (aN (vD (e1 dTup (rV 2)))))))
def fP:L9 A->R A:=fnF 7 lR
def rnF:Sg->R Fw:=(aF (rA (stT [(stN 6),(stN 7),(stN 8)]) (e2 dIx (rV 0) (rV 5)))
 (aF (cO 9 (cA [none,some 2] (e1 aH (bM (aA (eV 6) (aA (eV 8) aB)))) (stN 0) dC (eIf (e1 asB (e1 (g9 "str") (rV 0))) (eV 0) (rY (rV 1) (rV 0)))))
 (fG 4 (bM (aA (e2 dIx (rV 9) (eC (.int 0))) (aA (e1 dTup (eL (cA [none,none,some 2] (e1 aH (rV 7)) (stT [(stN 0),(stN 1)]) dC (bM (aA (rY (rV 2) (rV 0)) (aA (eV 1) aB)))))) (aA (e2 dIx (rV 9) (eC (.int 1))) aB)))))))
def jS:Sg->R Fw:=(aF (cO 2 (e2 aCM (eC (.int 1)) (e1 dLen (rV 0))))
 (aF (a8 3 (vD (e2 dMod (rV 1) (e1 dLen (rV 0)))))
 (aF (cO 2 (e2 lN (eL (e2 lN (eL (cQ (aA (eC (.int 0)) aB))) (eSl dSl (rV 2) (oSo (rV 3)) oNo))) (eSl dSl (rV 2) oNo (oSo (rV 3)))))
 (aF (cO 4 (cQ aB))
 (aF (sFz 2 (fI (e1 aH (eV 2)) (stN 5) rnF))
 (aN (vD (e1 dTup (rV 4)))))))))
def dW:L9 A->R A:=fnF 10 jS
def kB:Sg->R Fw:=(aN (vD (bM (aA (e2 dIx (rV 0) (eC (.int 0))) (aA (e1 dTup (eL (cA [none] (e1 aH (e2 dIx (rV 0) (eC (.int 1)))) (stN 0) dC (xE (pJ (eC (.str "by")) (eC (.str "out")) (pJ (eC (.str "out")) (eC (.str "by")) aB7)) (eV 0) (eV 0))))) aB)))))
def eG:L9 A->R A:=fnF 1 kB
def kC:Sg->R Fw:=(aF (a8 3 (aG 2 eQ (aA (vV 0) (aA (vV 1) aB))))
 (aF (sIf (e1 asB (e2 dEq (rV 2) (eA (aG 1 bK (aA (vV 1) aB))))) (aN (vD (aGO (e2 dEq (e2 dIx (rV 3) (eC (.int 0))) (eC (.str "alike"))) (e2 dIsB (eA (aG 3 i9 (aA (aG 1 dR (aA (vV 0) aB)) (aA (aG 1 dR (aA (vV 1) aB)) (aA (vD (e2 dIx (rV 3) (eC (.int 1)))) aB))))) (eC (.bool true)))))) sNx)
 (aF (sIf (bOr (e1 asB (e2 dNe (e2 dIx (rV 3) (eC (.int 0))) (eC (.str "unlike")))) (lK (e1 asB (e1 (g9 "str") (e2 dIx (rV 3) (eC (.int 1))))))) (aN (vD (eC (.bool false)))) sNx)
 (aN (vD (e2 dNe (eA (aG 2 g8 (aA (vV 0) (aA (vD (e2 dIx (rV 3) (eC (.int 1)))) aB)))) (eA (aG 2 g8 (aA (vV 1) (aA (vD (e2 dIx (rV 3) (eC (.int 1)))) aB))))))))))
def cJ:L9 A->R A:=fnF 4 kC
def lwF:Sg->R Fw:=(sIf (bOr (e1 asB (e2 dNe (eA (aG 1 bK (aA (vV 6) aB))) (rV 4))) (lK (e1 asB (eA (aG 3 cJ (aA (vV 2) (aA (vV 6) (aA (vV 4) aB)))))))) (aN (vD (eC (.bool false)))) sNx)
def lwG:Sg->R Fw:=(aF (a8 8 (aG 4 gA (aA (vV 0) (aA (vD (e2 bV (eC (.int 8)) (rV 7))) (aA (vD (e2 dMod (eA (aG 2 bG (aA (vV 0) (aA (vD (e2 bV (eC (.int 8)) (rV 7))) aB)))) (eC (.int 20)))) (aA (vV 1) aB))))))
 (sIf (e1 asB (e2 dNe (eA (aG 2 i5 (aA (vV 4) (aA (vV 8) aB)))) (eA (aG 2 g8 (aA (vV 2) (aA (vV 8) aB)))))) (aN (vD (eC (.bool false)))) sNx))
def aHG:Sg->R Fw:=(aF (a8 1 (vD (e2 bV (eC (.int 1)) (e2 dMod (eA (aG 2 bG (aA (vV 0) (aA (vD (eC (.int 0))) aB)))) (eC (.int 2))))))
 (aF (a8 2 (aG 4 f9 (aA (vV 0) (aA (vD (eC (.int 4))) (aA (vD (e2 bV (eC (.int 1)) (e2 dMod (eA (aG 2 bG (aA (vV 0) (aA (vD (eC (.int 1))) aB)))) (eC (.int 2))))) (aA (vV 1) aB))))))
 (aF (a8 3 (aG 4 f9 (aA (vV 0) (aA (vD (eC (.int 6))) (aA (vD (e2 bV (eC (.int 1)) (e2 dMod (eA (aG 2 bG (aA (vV 0) (aA (vD (eC (.int 2))) aB)))) (eC (.int 2))))) (aA (vV 1) aB))))))
 (aF (a8 4 (aG 1 bK (aA (vV 2) aB)))
 (aF (cO 5 (cQ (aA (eA (aG 3 eB (aA (vV 2) (aA (vV 2) (aA (vD (eC (.str "out"))) aB))))) (aA (eA (aG 3 eB (aA (vV 2) (aA (vV 2) (aA (vD (eC (.str "by"))) aB))))) (aA (eA (aG 1 eR (aA (aG 1 eR (aA (vV 2) aB)) aB))) aB)))))
 (aF (fG 5 (eA (aG 2 dW (aA (aG 2 fP (aA (vV 2) (aA (aG 2 bG (aA (vV 0) (aA (vD (eC (.int 18))) aB))) aB))) (aA (aG 2 bG (aA (vV 0) (aA (vD (eC (.int 3))) aB))) aB)))))
 (aF (sFz 5 (fI (e1 aH (eV 5)) (stN 6) lwF))
 (aF (sIf (bOr (e1 asB (e2 dNe (eA (aG 1 bK (aA (aG 1 nR (aA (vV 2) aB)) aB))) (eA (aG 1 eG (aA (vV 4) aB))))) (lK (e1 asB (eA (aG 3 cJ (aA (vV 2) (aA (vV 3) (aA (vV 4) aB)))))))) (aN (vD (eC (.bool false)))) sNx)
 (aF (fI (eH (eC (.int 10))) (stN 7) lwG)
 (aN (aG 3 cJ (aA (vV 3) (aA (vV 2) (aA (aG 1 bK (aA (vV 3) aB)) aB))))))))))))))
def aHH:L9 A->R A:=fnF 9 aHG
end Mc
namespace Fl
variable{X:Cx}{c:Ct}{E:XK}{e:E2}{st:Stmt}{i:Nat}{N:L9 Str}{js:L9 (O9 Nat)}{scope:Scope}{tg elt:E2}{ifs:L9 E2}{fi:Sg->R (L9 Dz)}{fs:Dz->Sg->O9 Sg}{ft:Sg->R Bool}{fe:Sg->R Dz}{is:L9 Nat}
def aOP(X:Cx)(c:Ct)(N:L9 Str)(scope:Scope)(tg elt:E2)(ifs:L9 E2)(fs:Dz->Sg->O9 Sg)(ft:Sg->R Bool)(fe:Sg->R Dz)(is:L9 Nat):Prop:=∀ (cl:L9 (Str×Az)) (C:Az) (s:S9) (H0:Hp) (fp:L9 Az),∃ g,Tg c g fs is/\PG (dZ X N scope cl C s H0 fp) tg g/\L2.PIf (dZ X N scope cl C s H0 fp) ifs (tTf c E0 ft)/\PD (dZ X N scope cl C s H0 fp) c E0 elt fe
def nm1:E2->L9 Str
 | .Name x _=>[x]
 | _=>[]
def nm2:E2->L9 Str
 | .Name x _=>[x]
 | .Tuple es _ _=>es.flatMap nm1
 | _=>[]
def n5(tg:E2)(XN:L9 Str)(js:L9 (O9 Nat)):L9 Str:=(match tg with
 | .Name x _=>[x]
 | .Tuple es _ _=>es.flatMap nm2
 | _=>[])++js.filterMap λo=>o.map λj=>XN.getD j ""
theorem aXB{f:E2}{pos:Pos}(h:Caps X scope (n5 tg X.N js) js)(hi:PI X tg f (tI c E fi))(hb:(n5 tg X.N js).Nodup->aOP X c (n5 tg X.N js) scope tg elt ifs fs ft fe is)(hN:decide (n5 tg X.N js).Nodup=true)(l:js.Pairwise λa b=>a=none\/a≠b)(j:∀ i∈is,js[i]? = some none)
 (k:X.calm=true:=by rfl) (hok:cZ scope.names X.env.kindOf=true:=by rfl) (hkind:scope.kind=.function:=by rfl) (hs:∀ x,foldedSetIterable f X.env x=pure x:=by intro _;rfl) :
 PN X c E (.ListComp elt [⟨tg,f,ifs,0⟩] scope pos) (cA js fi fs ft fe):=aPW (aO6 k h hok hi hkind hs) l j λa b c d e=>let ⟨g,q1,q2,q3⟩:=hb (A5 hN) a b c d e;⟨g,q2,q1,q3⟩
theorem aXC{f:E2}{pos h j:Pos}(k:Caps X scope (n5 tg X.N js) js)(hi:PI X tg f (tI c E fi))(hb:(n5 tg X.N js).Nodup->aOP X c (n5 tg X.N js) scope tg elt ifs fs ft fe is)(hN:decide (n5 tg X.N js).Nodup=true)(n:js.Pairwise λa b=>a=none\/a≠b)(m:∀ i∈is,js[i]? = some none)
 (nd:X.N.Nodup) (hx:Loc X.env.scope x) (l:X.N[i]? = some x:=by rfl) (hsw:swapsWith (.ListComp elt [⟨tg,f,ifs,0⟩] scope pos) (some (.Name x h)) j.line X.env=pure true:=by rfl)
 (hc:X.calm=true:=by rfl) (hok:cZ scope.names X.env.kindOf=true:=by rfl) (hkind:scope.kind=.function:=by rfl) (hf:X.fn x=true\/X.env.scope.names.lookup x=some .local:=by first|exact .inl rfl|exact .inr rfl|assumption) (hs:∀ x,foldedSetIterable f X.env x=pure x:=by intro _;rfl) :
 PSf X c E (.Assign [.Name x h] (.ListComp elt [⟨tg,f,ifs,0⟩] scope pos) j) (cO i (cA js fi fs ft fe)):=aPX (L2.aF9 nd l hx hsw hc k hok hi hkind hf hs) n m λa b c d e=>let ⟨g,q1,q2,q3⟩:=hb (A5 hN) a b c d e;⟨g,q2,q1,q3⟩
section
variable{P:P9}{w:W9}{K:Frag}{mg:Str->O9 V9}{base:Hz}{TH:Hp}{x:Str}{st:Stmt}{ps:L9 Str}{k:Nat}{fb:Sg->R Fw}
def HBd(P:P9)(w:W9)(K:Frag)(mg:Str->O9 V9)(base:Hz)(TH:Hp)(k:Nat)(x:Str)(st:Stmt)(N:L9 Str)(fb:Sg->R Fw):Prop:=∀ (f:Az) (cdv:V9) (A:U9) (outer:L9 Env) (s:S9) (H F:Hp) (E:XK),Room k (A.deeper (envOfC x (aI st) s.heap.objs.size f cdv))->N.Nodup->
 lL ((iX (CXe P w) P w K mg base N x (aI st) f cdv A outer s H E).fly E) ⟨K,mg,w,F,H,gOf P w K mg base TH,(envOfC x (aI st) s.heap.objs.size f cdv).cells,λ_=>none⟩ E (bF st) fb
theorem aR4(N:L9 Str)(D:DefAt K mg x st ps)(S:FnScope N ps (aI st))(a:HBd P w K mg base TH k x st N fb):bI P w K mg base TH (k+1) x ps (fnF N.length fb):=aTW D S λf b A outer s H F E hr=>a f b A outer s H F E hr S.nd
theorem aR5{fd:FuncData}(N:L9 Str)(c:Fun K x x st f fd)(S:FnScope N ps (aI st))(a:HBd P w K mg base TH k x st N fb):FnOk P w K mg base (CXe P w) (k+1) f fd ps (spF (gOf P w K mg base TH) K mg ps.length (fnF N.length fb)):=aTY c S λb A outer s H F E hr=>a f b A outer s H F E hr S.nd
end
theorem aVF{X:Cx}{c:Ct}{E:XK}{G:L9 A->R A}{w:W9}{base:Hz}{T:Hp}{ps:L9 Str}{e:E2}{p pos:Pos}{f:Sg->R (L9 A)}(C:bI P w K mg base T k x ps G)(hr:Room k X.A)(hx:lC (CXe P w) X E)(b:PAv X c E (e::es) f)
  (a:ps.length=n:=by rfl) (hg:Gl X x:=by rfl) (h1:X.prog=P:=by rfl) (h2:X.w=w:=by rfl) (h3:X.K=K:=by rfl) (h4:X.mg=mg:=by rfl) (h5:X.base=base:=by rfl) (hG:gOf P w K mg base T=c.g:=by rfl) (hK:K=c.K:=by rfl) (hM:mg=c.mg:=by rfl) (hdb:(x == ("__debug__":Str))=false:=by decide)
  (he:starEach (e::es) X.env=(false,eval e X.env)::starEach es X.env:=by rfl) (hpl:(backTo pos (starEach es X.env)).any (·.1)=false:=by rfl):PV X c E (.Call (.Name x p) (e::es) [] pos) (aG n G f):=by
 subst h1 h2 h3 h4 h5 a
 exact aWK hG hK hM (aWC C hr hg hx b hdb he hpl)
end Fl
set_option hygiene false
local macro_rules
| `(tactic| exists $t:term)=>`(tactic| (with_reducible show $t))
local macro_rules
| `(tactic| ac_rfl)=>`(tactic| first
 | exists PD _ _ _ _ (eV _);exact aTJ (pv _)
 | exists PD _ _ _ _ (eC _);first
  | exists PD _ _ _ _ (eC (.int _));apply aIN
  | exists PD _ _ _ _ (eC (.str _));apply aTM
  | exact(kH (oD (v:=.str "abc") rfl T.g_SIGNS.choose_spec ⟨_,rfl⟩) λ_=>.str _)
  | exact(kH (oD (v:=.int 200) rfl T.g_MOST_BEGINNINGS.choose_spec ⟨_,rfl⟩) λ_=>.int _)
  | exists PD _ _ _ _ (eC (.bool _));exact aN7
  | exact aTN
 | exists PD _ _ _ _ (e2 _ _ _);first
  | exists PD _ _ _ _ (e2 dIx _ _);refine aGL (aGN rfl) uY ?_ ?_<;>symm
  | exists PD _ _ _ _ (e2 bV _ _);refine qV (aPL rfl) aIO ?_ ?_<;>symm
  | exists PD _ _ _ _ (e2 dMod _ _);refine qV aPP aIT ?_ ?_<;>symm
  | exists PD _ _ _ _ (e2 dSub _ _);refine qV aPM aIQ ?_ ?_<;>symm
  | exists PD _ _ _ _ (e2 dMul _ _);refine qV aPN aIR ?_ ?_<;>symm
  | exists PD _ _ _ _ (e2 dDiv _ _);refine qV aPO aIS ?_ ?_<;>symm
  | exists PD _ _ _ _ (e2 dEq _ _);refine oI (aIV rfl hr.units) aBT ?_ ?_ (fW _)<;>symm
  | exists PD _ _ _ _ (e2 dNe _ _);refine oI (aIW rfl hr.units) aBU ?_ ?_ (fW _)<;>symm
  | exists PD _ _ _ _ (e2 dGt _ _);refine oI aIP aBS ?_ ?_ (fW _)<;>symm
  | exists PD _ _ _ _ (e2 dLt _ _);refine oI wK pC ?_ ?_ (fW _)<;>symm
  | exists PD _ _ _ _ (e2 dNin _ _);refine oI (aEJ rfl hr.units) zT ?_ ?_ (by with_unfolding_all rfl)<;>symm
 | exists PD _ _ _ _ (e1 dLen _);refine aTS rfl (uO aLE rfl T.b_len PySem.boot_len (aX ?_ bE))<;>symm
 | exists PD _ _ _ _ (e1 dTup _);refine pE rfl (eW i7 rfl T.b_tuple D9 (aX ?_ bE))<;>symm
 | exists PD _ _ _ _ (e1 dInt _);refine aPT (eW aHW rfl T.b_int boot_int (aX ?_ bE))<;>symm
 | exists PD _ _ _ _ (e1 (g9 "str") _);refine aTX (uO (aNJ rfl (aPY _)) rfl T.b_isinstance PyProof.Rows.boot_isinstance (aX ?_ (aX (aOS (v:=.ty "str") rfl T.b_str boot_str rfl) bE)))<;>symm
 | exists PD _ _ _ _ (e1 dNeg _);refine aWH aPQ aIU ?_<;>symm
 | exists PD _ _ _ _ (eA _);refine aWG ?_;symm
 | exists PD _ _ _ _ (eL _);refine qU ?_;symm
 | exists PD _ _ _ _ (bM _);refine wM ?_;symm
 | exists PD _ _ _ _ (lW _ _);refine aP2 rfl rfl (aP1 hr.units (pv _) ?_ (λ_ _=>rfl))<;>symm
 | exists PD _ _ _ _ (jB false _ _);refine aI9 (op:=.In) rfl rfl (xQ (aEQ hr.units) ?_ (pv _) (by with_unfolding_all rfl));symm
 | exists PD _ _ _ _ (jB true _ _);refine aI9 (op:=.In) rfl rfl (xQ (aB3 hr.units) ?_ (pv _) (by with_unfolding_all rfl));symm
 | exists PD _ _ _ _ (aGP _);refine aTQ ?_;symm
 | exists PD _ _ _ _ (eIf _ _ _);refine aWI ?_ ?_ ?_<;>symm
 | exists PD _ _ _ _ (rY _ _);refine aKQ rfl (o4 EA HM PySem.F.type_list_index (aKP hr.units) ?_ (aX ?_ bE))<;>symm
 | exists PD _ _ _ _ (xE _ _ _);refine aR1 rfl rfl (rB DG C4 FR (aL8 hr.units) (aES hr.units ?_) (aX ?_ (aX ?_ bE)))<;>symm
 | exists PD _ _ _ _ (eSl dSl _ _ _);refine aL1 rfl ?_ ?_ ?_<;>symm)
local macro_rules
| `(tactic| and_intros)=>`(tactic| first
 | exists PTf _ _ _ _ (lK _);refine Fl.qI ?_;and_intros
 | exists PTf _ _ _ _ (pD _ _);refine PW.pt ?_;symm
 | exists PTf _ _ _ _ (bOr _ _);refine PW.pt ?_;symm
 | exists PTf _ _ _ _ (e1 asB (jB true _ _));refine aJA rfl rfl (xR (aB3 hr.units) ?_ (pv _) (by with_unfolding_all rfl))<;>symm
 | exists PTf _ _ _ _ (e1 asB (jB false _ _));refine aJA rfl rfl (xR (aEQ hr.units) ?_ (pv _) (by with_unfolding_all rfl))<;>symm
 | exists PTf _ _ _ _ (e1 asB (e2 dEq _ _));refine Fl.iZ (aIV rfl hr.units) aBT ?_ ?_ (fW _)<;>symm
 | exists PTf _ _ _ _ (e1 asB (e2 dNe _ _));refine Fl.iZ (aIW rfl hr.units) aBU ?_ ?_ (fW _)<;>symm
 | exists PTf _ _ _ _ (e1 asB (e2 dLt _ _));refine Fl.iZ wK pC ?_ ?_ (fW _)<;>symm
 | exists PTf _ _ _ _ (e1 asB (e2 dLe _ _));refine Fl.iZ aBR uX ?_ ?_ (fW _)<;>symm
 | exists PTf _ _ _ _ (e1 asB (e2 dGt _ _));refine Fl.iZ aIP aBS ?_ ?_ (fW _)<;>symm
 | exists PTf _ _ _ _ (e1 asB (e2 dGe _ _));refine Fl.iZ aTO aLT ?_ ?_ (fW _)<;>symm
 | exists PTf _ _ _ _ (e1 asB (e2 dIs _ _));refine Fl.iZ aTP aLU ?_ ?_ (fW _)<;>symm
 | exists PTf _ _ _ _ (e1 asB (e2 dIsnt _ _));refine Fl.iZ aLV aGM ?_ ?_ (fW _)<;>symm
 | exists PTf _ _ _ _ (e1 asB (e2 dNin _ _));refine Fl.iZ (aEJ rfl hr.units) zT ?_ ?_ (by with_unfolding_all rfl)<;>symm
 | refine Fl.qH ?_;ac_rfl)
local macro_rules
| `(tactic| symm)=>`(tactic| first
 | exists HBd _ _ _ _ _ _ _ _ _ _ _;intro _ _ _ _ _ _ _ _ hr nd;symm
 | exists FnScope _ _ _;constructor<;>first|rfl|decide +kernel
 | exists PD _ _ _ _ _;ac_rfl
 | exists PR _ _ _ _ _;first|exists PR _ _ _ _ (rV _);exact aTK (pv _)|refine pB ?_;ac_rfl
 | exists PV _ _ _ _ _;first
  | exists PV _ _ _ _ (vV _);exact aTL (pv _)
  | exists PV _ _ _ _ (vD _);refine k6 ?_;ac_rfl
  | refine aVF (by with_reducible assumption) (hr.mono (by decide)) (by first|exact aWE|exact nE λ_ _ _ h=>h) ?_;symm
 | exists PTf _ _ _ _ _;and_intros
 | exists lL _ _ _ _ _;first
  | apply Fl.iP
  | apply Fl.cK;symm
  | apply Fl.aJ<;>symm
 | exists PSf _ _ _ _ _;first
  | exists PSf _ _ _ _ (a8 _ _);refine Fl.cP (L2.cP nd rfl (by first|exact .inl rfl|exact .inr rfl) ?_);symm
  | exists PSf _ _ _ _ (cO _ (cA _ _ _ _ _));first|exact aXC (by symm) (by symm) (λnd _ _ _ _ _=>⟨_,by symm,by symm,by symm,by symm⟩) (by kernel_rfl) (by decide) (by decide) nd (by first|exact .inl rfl|exact .inr rfl)
  | exists PSf _ _ _ _ (cO _ _);refine sP (L2.cP nd rfl (by first|exact .inl rfl|exact .inr rfl) ?_);symm
  | exists PSf _ _ _ _ (aN _);apply Fl.iF;symm
  | exists PSf _ _ _ _ (sIf _ _ _);apply Fl.lS<;>symm
  | exists PSf _ _ _ _ (fG _ _);refine aI4 rfl (L2.jI (o4 EA HG HH zM (pv _) (aX ?_ bE)));symm
  | exists PSf _ _ _ _ (fI _ _ _);exact Fl.cY (by symm) (L2.cY (fZ ⟨rfl,rfl⟩) rfl (by symm) (by symm) (by symm))
  | exists PSf _ _ _ _ (bD _ _);refine Fl.mE (L2.mE (fZ ⟨rfl,rfl⟩) ?_ ?_)<;>symm
  | exists PSf _ _ _ _ (rA _ _);exact aJB (by symm) (aA1 (by symm) (by symm))
  | exists PSf _ _ _ _ (sFz _ _);refine aN8 _ ?_;symm
  | exists PSf _ _ _ _ (pI _ _ _);exact Fl.aP3 rfl rfl (aA1 (by symm) (aST (pv _) (by symm) (aL3 hr.units)))
  | exists PSf _ _ _ _ (nL _);exact aP0 rfl (L2.cP nd rfl (by first|exact .inl rfl|exact .inr rfl) aPZ)
  | exists PSf _ _ _ _ (aGQ _);refine Fl.jI (L2.jI ?_);symm
  | exists PSf _ _ _ _ (aAS _ _);exact aQA rfl rfl (L2.cP nd rfl (by first|exact .inl rfl|exact .inr rfl) (aES hr.units (by symm)))
  | apply Fl.iF;symm
 | exists PAv _ _ _ _ _;first
  | exists PAv _ _ _ _ aB;exact aPR
  | refine aLW ?_ ?_<;>symm
 | exists PAd _ _ _ _ _;first
  | exists PAd _ _ _ _ aB;exact yB
  | refine gL ?_ ?_<;>symm
 | exists PN _ _ _ _ _;first
  | exists PN _ _ _ _ (cQ _);refine aIZ ?_;symm
  | exists PN _ _ _ _ (e2 lN _ _);refine aT0 rfl ?_ ?_<;>symm
  | exists PN _ _ _ _ (e2 aCM _ _);refine aJU (eW (yK rfl) rfl T.b_list FG (aX (eW aCL rfl T.b_range PyProof.Rows.boot_range (aX ?_ (aX ?_ bE))) bE))<;>symm
  | exists PN _ _ _ _ (cA _ _ _ _ _);first|exact aXB (by symm) (by symm) (λnd _ _ _ _ _=>⟨_,by symm,by symm,by symm,by symm⟩) (by kernel_rfl) (by decide) (by decide)
 | exists PPf _ _ _ _ _ _;first
  | apply aP9
  | apply aL7<;>symm
 | exists Caps _ _ _ _;constructor<;>first|rfl|exact .inl rfl|exact .inr rfl|symm
 | exists L2.PIf _ _ _;first
  | apply Fl.xV
 | exists Tg _ _ _ _;first
  | exists Tg _ _ (stN _) _;exact oJ _
  | exact aTU rfl (by symm) rfl
 | exists Tgs _ _ _ _;first
  | exists Tgs _ _ [] _;exact aPU
  | exact aLX (by symm) (by symm)
 | exists PG _ _ _;first
  | exists PG _ (.Name _ _) _;exact aOT (by first|exact nd|decide +kernel) rfl (by first|exact .inl rfl|exact .inr rfl)
  | exact aSR rfl (by symm)
 | exists PGs _ _ _;first
  | exists PGs _ [] _;exact aOU
  | exact aK9 (by symm) (by symm)
 | exists PWf _ _ _ _ _;first
  | apply Fl.sK;and_intros
  | apply Fl.aA0;and_intros
  | apply Fl.v3<;>symm
  | apply Fl.aFW<;>symm
 | exists PO _ _ _;first
  | apply aN9
  | apply aWL;symm
 | exists PI0 _ _ _ _ _ _;first
  | exists PI0 _ _ _ _ _ (e1 aH _);refine aTV rfl ?_;symm
  | exists PI0 _ _ _ _ _ (e1 pQ _);exact aQP rfl (L2.aQN rfl T.b_enumerate (aX (by symm) bE))
  | exists PI0 _ _ _ _ _ (e2 iJ _ _);exact aQK rfl (L2.aJP rfl T.b_zip (aX (by symm) (aX (by symm) bE)))
  | exists PI0 _ _ _ _ _ (eH _);refine aPV (aHU rfl T.b_range (aX ?_ bE));symm
 | exists Fl.PIf _ _ _ _ _ _;first
  | exists Fl.PIf _ _ _ _ _ (e1 aH _);refine aYC rfl ?_;symm
  | exists Fl.PIf _ _ _ _ _ (e2 iJ _ _);exact aQL rfl (L2.aJP rfl T.b_zip (aX (by symm) (aX (by symm) bE)))
  | refine aWJ ?_;symm
 )
set_option hygiene true
namespace Mc
open Fl
def top(i:Nat):Stmt:=PySem.Challenge.pw_striproam_k44_whole_same_least.main.body.getD i (.Pass ⟨0,0,0,0⟩)
inductive AllD(K:Frag)(mg:Str->Option V9):List (Str×Nat×List Str)->Prop
 | nil:AllD K mg []
 | cons {x:Str} {i:Nat} {ps:List Str} {r:List (Str×Nat×List Str)}:DefAt K mg x (top i) ps->AllD K mg r->AllD K mg ((x,i,ps)::r)
theorem stA{w:W9}{base:Hz}{TH:Hp}{ps e:L9 Str}{r:L9 (Str×Nat×L9 Str)}{fb:Sg->R Fw}{c:Az}{a:FuncData}(G:L9 A->R A)(k:Nat)(N:L9 Str)(D:AllD K mg ((x,i,ps)::r))(h:bI P w K mg base TH (k+1) x ps G->AllD K mg r->FnOk P w K mg base (CXe P w) b c a e (wO K TH))
  (S:FnScope N ps (aI (top i)):=by symm) (hG:G=fnF N.length fb:=by rfl) (hb:HBd P w K mg base TH k x (top i) N fb:=by symm):FnOk P w K mg base (CXe P w) b c a e (wO K TH):=by
 cases D with
 | cons d r=>exact h (hG▸aR4 N d S hb) r
def eS:ClSt:=clE "first_to.<locals>.<lambda>" (aGZ (aGY ((bF (top 14)).getD 0 (.Pass ⟨0,0,0,0⟩))) 2)
def fB:Pos:=aT6 (aGZ (aGY ((bF (top 14)).getD 0 (.Pass ⟨0,0,0,0⟩))) 2)
def cT:ClSt:=clS "one_way.<locals>.after" ((bF (top 22)).getD 1 (.Pass ⟨0,0,0,0⟩))
def fC:Pos:=aG0 ((bF (top 22)).getD 1 (.Pass ⟨0,0,0,0⟩))
def fD:ClSt:=clE "one_way.<locals>.<lambda>" (aGZ (aGY ((bF (top 22)).getD 2 (.Pass ⟨0,0,0,0⟩))) 2)
def fQ:Pos:=aT6 (aGZ (aGY ((bF (top 22)).getD 2 (.Pass ⟨0,0,0,0⟩))) 2)
def c7:ClSt:=clS "parted.<locals>.after" ((bF (top 30)).getD 0 (.Pass ⟨0,0,0,0⟩))
def fR:Pos:=aG0 ((bF (top 30)).getD 0 (.Pass ⟨0,0,0,0⟩))
def cU:ClSt:=clS "parted.<locals>.unlike" ((bF (top 30)).getD 1 (.Pass ⟨0,0,0,0⟩))
def fE:Pos:=aG0 ((bF (top 30)).getD 1 (.Pass ⟨0,0,0,0⟩))
def dO:ClSt:=clS "least.<locals>.after" ((bF (top 36)).getD 1 (.Pass ⟨0,0,0,0⟩))
def gT:Pos:=aG0 ((bF (top 36)).getD 1 (.Pass ⟨0,0,0,0⟩))
def qsT:L9 (Pos×Str):=[(fB,("first_to.<locals>.<lambda>":Str)),(fC,("one_way.<locals>.after":Str)),(fQ,("one_way.<locals>.<lambda>":Str)),(fR,("parted.<locals>.after":Str)),(fE,("parted.<locals>.unlike":Str)),(gT,("least.<locals>.after":Str))]
structure Txt(w:World)(K:Frag)(mg:Str->Option V9):Prop where
 b_all:mg "all"=none
 b_dict:mg "dict"=none
 b_enumerate:mg "enumerate"=none
 b_int:mg "int"=none
 b_isinstance:mg "isinstance"=none
 b_len:mg "len"=none
 b_list:mg "list"=none
 b_range:mg "range"=none
 b_str:mg "str"=none
 b_tuple:mg "tuple"=none
 b_zip:mg "zip"=none
 g_MOST_BEGINNINGS:∃ t,mg "MOST_BEGINNINGS"=some (.int 200 t)
 g_OTHER_WORD:∃ a,mg "OTHER_WORD"=some (.ref a)/\aB8 K w a (pK "by" "out" "out" "by")
 g_SIGNS:∃ t,mg "SIGNS"=some (.str "abc" t)
section
variable{P:P9}{w:W9}{K:Frag}{mg:Str->O9 V9}{base:Hz}{TH:Hp}
end
section
variable{P:P9}{w:W9}{K:Frag}{mg:Str->O9 V9}{base:Hz}{TH:Hp}
theorem fS:CloScope ["found","at","wanted"] ["found","at"] ["wanted"] eS.scope:=⟨rfl,rfl,rfl,by decide +kernel,rfl,by decide +kernel,by decide +kernel,by decide +kernel,by decide +kernel⟩
theorem tW:∀ y∈eS.scope.names,y.2=.free->(aI (top 14)).names.lookup y.1=some .cell\/(aI (top 14)).names.lookup y.1=some .free:=by decide +kernel
theorem r6:(fB,("first_to.<locals>.<lambda>":Str))∈qsT:=(.head _)
theorem tX:∀ p∈qsT,p.1.line=fB.line->p.1.col=fB.col->p.2=("first_to.<locals>.<lambda>":Str):=by decide +kernel
theorem r9(T:Txt w K mg):CloOk P w K mg base TH eS ["wanted"] 12 2 (cB 3 dH):=
 @aJH P w K mg base TH eS ["found","at","wanted"] ["found","at"] ["wanted"] 11 _ (yI 11 2 (aA (e2 dIx (rV 0) (rV 1)) aB)) rfl fS (λ_ _ _ _ _=>Mc.bn2 λ_ _=>rfl) (λf b cl A outer s H F E a hr=>by
  have nd:=fS.nd
  exact(aJG (m:=11) rfl rfl rfl (hr.mono (by decide)) (u0 (pv 2) (nE λ_ _ _ h=>h) (by symm))))
theorem uM:FnScope ["begin","after","wanted","search","found","rows"] ["begin","after","wanted"] (aI (top 14)):=by constructor<;>first|rfl|decide +kernel
theorem aD5(T:Txt w K mg)(D:DefAtT K mg base TH qsT "first_to" (top 14) ["begin","after","wanted"])(a:bI P w K mg base TH 13 "reached" ["begin","after","done"] cW)(b:bI P w K mg base TH 1 "strip_to" ["rows","number"] j4):bI P w K mg base TH 14 "first_to" ["begin","after","wanted"] dQ:=
 @sY P w K mg base TH "first_to" (top 14) ["begin","after","wanted","search","found","rows"] ["begin","after","wanted"] 13 qsT (λq=>(λ_=>none) q) lZ D uM (λf c0 P0 A outer s H F E e d hr=>by
  have nd:=uM.nd
  exact(Fl.aJ (Fl.cP (L2.cP (i:=3) nd rfl (Or.inl rfl) (wS (js:=[2]) rfl rfl rfl rfl rfl rfl rfl (l8 ⟨_,rfl,rfl,rfl⟩ wU) (L2.wG a (hr.mono (by decide)) rfl (nE λ_ _ _ h=>h) (dX (sV (by symm)) (dX (sV (by symm)) (dX (aJI (S:=eS) rfl d (r9 T ) (λy c=>fS.only (y,.free) c rfl) (λy c=>A8 (fS.cap y c)) rfl (by decide) (L2.aIH rfl e rfl r6 tX tW rfl)) sX))))))) (by symm)))
end
section
variable{P:P9}{w:W9}{K:Frag}{mg:Str->O9 V9}{base:Hz}{TH:Hp}
theorem fU:CloScope ["begun","columns"] ["begun"] ["columns"] cT.scope:=⟨rfl,rfl,rfl,by decide +kernel,rfl,by decide +kernel,by decide +kernel,by decide +kernel,by decide +kernel⟩
theorem tY:∀ y∈cT.scope.names,y.2=.free->(aI (top 22)).names.lookup y.1=some .cell\/(aI (top 22)).names.lookup y.1=some .free:=by decide +kernel
theorem sA:(fC,("one_way.<locals>.after":Str))∈qsT:=(.tail _ (.head _))
theorem tZ:∀ p∈qsT,p.1.line=fC.line->p.1.col=fC.col->p.2=("one_way.<locals>.after":Str):=by decide +kernel
theorem sB(T:Txt w K mg)(a:bI P w K mg base TH 3 "longer" ["begun","cells"] fJ):CloOk P w K mg base TH cT ["columns"] 4 1 (cB 2 fA):=
 @wQ P w K mg base TH cT ["begun","columns"] ["begun"] ["columns"] 3 _ fA rfl fU (λ_ _ _ _ _=>Mc.bn1 λ_=>rfl) (λf c cl A outer s H F E b hr=>by
  have nd:=fU.nd
  symm)
theorem gU:CloScope ["found","at"] ["found","at"] [] fD.scope:=⟨rfl,rfl,rfl,by decide +kernel,rfl,by decide +kernel,by decide +kernel,by decide +kernel,by decide +kernel⟩
theorem vO:∀ y∈fD.scope.names,y.2=.free->(aI (top 22)).names.lookup y.1=some .cell\/(aI (top 22)).names.lookup y.1=some .free:=by decide +kernel
theorem t5:(fQ,("one_way.<locals>.<lambda>":Str))∈qsT:=(.tail _ (.tail _ (.head _)))
theorem vP:∀ p∈qsT,p.1.line=fQ.line->p.1.col=fQ.col->p.2=("one_way.<locals>.<lambda>":Str):=by decide +kernel
theorem t6(T:Txt w K mg):CloOk P w K mg base TH fD [] 1 2 (cB 2 iY):=
 @aJH P w K mg base TH fD ["found","at"] ["found","at"] [] 0 _ (e2 dGt (e1 dLen (rV 0)) (eC (.int 200))) rfl gU (λ_ _ _ _ _=>Mc.bn2 λ_ _=>rfl) (λf b cl A outer s H F E a hr=>by
  have nd:=gU.nd
  symm)
theorem xH:FnScope ["machine","columns","after","search","found"] ["machine"] (aI (top 22)):=by constructor<;>first|rfl|decide +kernel
theorem aHI(T:Txt w K mg)(D:DefAtT K mg base TH qsT "one_way" (top 22) ["machine"])(g:bI P w K mg base TH 1 "signs_of" ["machine"] eE)(e:bI P w K mg base TH 1 "cells_of" ["machine","number"] iR)(c:bI P w K mg base TH 3 "longer" ["begun","cells"] fJ)(a:bI P w K mg base TH 13 "reached" ["begin","after","done"] cW)(b:bI P w K mg base TH 1 "without_signs" ["machine"] eX)(d:bI P w K mg base TH 2 "word_behind" ["machine","begun"] dB):bI P w K mg base TH 14 "one_way" ["machine"] dR:=
 @sY P w K mg base TH "one_way" (top 22) ["machine","columns","after","search","found"] ["machine"] 13 qsT (λq=>[(("one_way.<locals>.after":Str),cT)].lookup q) oC D xH (λf c0 P0 A outer s H F E l k hr=>by
  have nd:=xH.nd
  exact(Fl.aJ (by symm) (Fl.aJ (sU (S:=cT) rfl rfl k (L2.wF rfl l rfl sA tZ tY rfl rfl rfl nd rfl (Or.inl rfl))) (Fl.aJ (aN8 1 (Fl.cP (L2.cP (i:=3) nd rfl (Or.inl rfl) (wS (js:=[1]) rfl rfl rfl rfl rfl rfl rfl (l8 ⟨_,rfl,rfl,rfl⟩ wU) (L2.wG a (hr.mono (by decide)) rfl (nE λ_ _ _ h=>h) (dX (sV (by symm)) (dX (sW (S:=cT) rfl (sB T c) (λy j=>fU.only (y,.free) j rfl) (λy j=>A8 (fU.cap y j)) rfl (by decide) (pv 2)) (dX (aJI (S:=fD) rfl k (t6 T ) (λy j=>gU.only (y,.free) j rfl) (λy j=>A8 (gU.cap y j)) rfl (by decide) (L2.aIH rfl l rfl t5 vP vO rfl)) sX)))))))) (Fl.aJ (by symm) (Fl.aJ (Fl.lS (by symm) (Fl.cK Fl.wP) Fl.iP) (by symm)))))))
end
section
variable{P:P9}{w:W9}{K:Frag}{mg:Str->O9 V9}{base:Hz}{TH:Hp}
theorem gV:CloScope ["pair","one","other"] ["pair"] ["one","other"] c7.scope:=⟨rfl,rfl,rfl,by decide +kernel,rfl,by decide +kernel,by decide +kernel,by decide +kernel,by decide +kernel⟩
theorem vQ:∀ y∈c7.scope.names,y.2=.free->(aI (top 30)).names.lookup y.1=some .cell\/(aI (top 30)).names.lookup y.1=some .free:=by decide +kernel
theorem t7:(fR,("parted.<locals>.after":Str))∈qsT:=(.tail _ (.tail _ (.tail _ (.head _))))
theorem vR:∀ p∈qsT,p.1.line=fR.line->p.1.col=fR.col->p.2=("parted.<locals>.after":Str):=by decide +kernel
theorem t8(T:Txt w K mg)(a:bI P w K mg base TH 1 "after_pair" ["one","other","pair"] eM):CloOk P w K mg base TH c7 ["one","other"] 2 1 (cB 3 dU):=
 @wQ P w K mg base TH c7 ["pair","one","other"] ["pair"] ["one","other"] 1 _ dU rfl gV (λ_ _ _ _ _=>Mc.bn1 λ_=>rfl) (λf c cl A outer s H F E b hr=>by
  have nd:=gV.nd
  symm)
theorem fV:CloScope ["pair","one","other"] ["pair"] ["one","other"] cU.scope:=⟨rfl,rfl,rfl,by decide +kernel,rfl,by decide +kernel,by decide +kernel,by decide +kernel,by decide +kernel⟩
theorem t9:∀ y∈cU.scope.names,y.2=.free->(aI (top 30)).names.lookup y.1=some .cell\/(aI (top 30)).names.lookup y.1=some .free:=by decide +kernel
theorem sC:(fE,("parted.<locals>.unlike":Str))∈qsT:=(.tail _ (.tail _ (.tail _ (.tail _ (.head _)))))
theorem uA:∀ p∈qsT,p.1.line=fE.line->p.1.col=fE.col->p.2=("parted.<locals>.unlike":Str):=by decide +kernel
theorem sD(T:Txt w K mg)(a:bI P w K mg base TH 1 "same_word" ["one","other","pair"] fK):CloOk P w K mg base TH cU ["one","other"] 2 1 (cB 3 dI):=
 @wQ P w K mg base TH cU ["pair","one","other"] ["pair"] ["one","other"] 1 _ dI rfl fV (λ_ _ _ _ _=>Mc.bn1 λ_=>rfl) (λf c cl A outer s H F E b hr=>by
  have nd:=fV.nd
  symm)
theorem aAL:FnScope ["one","other","begin","after","unlike"] ["one","other","begin"] (aI (top 30)):=by constructor<;>first|rfl|decide +kernel
theorem aKR(T:Txt w K mg)(D:DefAtT K mg base TH qsT "parted" (top 30) ["one","other","begin"])(a:bI P w K mg base TH 1 "after_pair" ["one","other","pair"] eM)(b:bI P w K mg base TH 1 "same_word" ["one","other","pair"] fK)(c:bI P w K mg base TH 14 "first_to" ["begin","after","wanted"] dQ):bI P w K mg base TH 15 "parted" ["one","other","begin"] kM:=
 @sY P w K mg base TH "parted" (top 30) ["one","other","begin","after","unlike"] ["one","other","begin"] 14 qsT (λq=>[(("parted.<locals>.after":Str),c7),(("parted.<locals>.unlike":Str),cU)].lookup q) vF D aAL (λf c0 P0 A outer s H F E g e hr=>by
  have nd:=aAL.nd
  exact(Fl.aJ (sU (S:=c7) rfl rfl e (L2.wF rfl g rfl t7 vR vQ rfl rfl rfl nd rfl (Or.inl rfl))) (Fl.aJ (sU (S:=cU) rfl rfl e (L2.wF rfl g rfl sC uA t9 rfl rfl rfl nd rfl (Or.inl rfl))) (Fl.cK (Fl.iF (wS (js:=[0,1]) rfl rfl rfl rfl rfl rfl rfl (l8 ⟨_,rfl,rfl,rfl⟩ (l8 ⟨_,rfl,rfl,rfl⟩ wU)) (L2.wG c (hr.mono (by decide)) rfl (nE λ_ _ _ h=>h) (dX (sV (by symm)) (dX (sW (S:=c7) rfl (t8 T a) (λy d=>gV.only (y,.free) d rfl) (λy d=>A8 (gV.cap y d)) rfl (by decide) (pv 3)) (dX (sW (S:=cU) rfl (sD T b) (λy d=>fV.only (y,.free) d rfl) (λy d=>A8 (fV.cap y d)) rfl (by decide) (pv 4)) sX))))))))))
end
section
variable{P:P9}{w:W9}{K:Frag}{mg:Str->O9 V9}{base:Hz}{TH:Hp}
theorem iC:CloScope ["room","likes","reader"] ["room"] ["likes","reader"] dO.scope:=⟨rfl,rfl,rfl,by decide +kernel,rfl,by decide +kernel,by decide +kernel,by decide +kernel,by decide +kernel⟩
theorem xI:∀ y∈dO.scope.names,y.2=.free->(aI (top 36)).names.lookup y.1=some .cell\/(aI (top 36)).names.lookup y.1=some .free:=by decide +kernel
theorem vS:(gT,("least.<locals>.after":Str))∈qsT:=(.tail _ (.tail _ (.tail _ (.tail _ (.tail _ (.head _))))))
theorem xJ:∀ p∈qsT,p.1.line=gT.line->p.1.col=gT.col->p.2=("least.<locals>.after":Str):=by decide +kernel
theorem vT(T:Txt w K mg)(a:bI P w K mg base TH 1 "behind_signs" ["likes","row"] cE):CloOk P w K mg base TH dO ["likes","reader"] 2 1 (cB 3 dJ):=
 @wQ P w K mg base TH dO ["room","likes","reader"] ["room"] ["likes","reader"] 1 _ dJ rfl iC (λ_ _ _ _ _=>Mc.bn1 λ_=>rfl) (λf c cl A outer s H F E b hr=>by
  have nd:=iC.nd
  symm)
theorem aDP:FnScope ["reader","likes","after","search"] ["reader"] (aI (top 36)):=by constructor<;>first|rfl|decide +kernel
theorem aNK(T:Txt w K mg)(D:DefAtT K mg base TH qsT "least" (top 36) ["reader"])(d:bI P w K mg base TH 3 "alike_rooms" ["reader"] dY)(a:bI P w K mg base TH 1 "behind_signs" ["likes","row"] cE)(b:bI P w K mg base TH 13 "reached" ["begin","after","done"] cW)(c:bI P w K mg base TH 1 "never" ["found","at"] jP):bI P w K mg base TH 14 "least" ["reader"] oO:=
 @sY P w K mg base TH "least" (top 36) ["reader","likes","after","search"] ["reader"] 13 qsT (λq=>[(("least.<locals>.after":Str),dO)].lookup q) yL D aDP (λf c0 P0 A outer s H F E j g hr=>by
  have nd:=aDP.nd
  exact(Fl.aJ (by symm) (Fl.aJ (sU (S:=dO) rfl rfl g (L2.wF rfl j rfl vS xJ xI rfl rfl rfl nd rfl (Or.inl rfl))) (Fl.aJ (Fl.cP (L2.cP (i:=3) nd rfl (Or.inl rfl) (wS (js:=[1,0]) rfl rfl rfl rfl rfl rfl rfl (l8 ⟨_,rfl,rfl,rfl⟩ (l8 ⟨_,rfl,rfl,rfl⟩ wU)) (L2.wG b (hr.mono (by decide)) rfl (nE λ_ _ _ h=>h) (dX (sV (by symm)) (dX (sW (S:=dO) rfl (vT T a) (λy e=>iC.only (y,.free) e rfl) (λy e=>A8 (iC.cap y e)) rfl (by decide) (pv 2)) (dX (sV (aQH (k:=1) (x:="never") (ps:=["found","at"]) (G:=jP) rfl c rfl)) sX))))))) (by symm)))))
end
section
variable{P:P9}{w:W9}{K:Frag}{mg:Str->O9 V9}{base:Hz}{TH:Hp}
end
section
variable{P:P9}{w:W9}{K:Frag}{mg:Str->O9 V9}{base:Hz}{TH:Hp}
end
section
variable{P:P9}{w:W9}{K:Frag}{mg:Str->O9 V9}{base:Hz}{TH:Hp}
end
section
variable{P:P9}{w:W9}{K:Frag}{mg:Str->O9 V9}{base:Hz}{TH:Hp}
end
def prT(π:Int->Int):Tn->Tn
 | .n i=>.n (π i)
 | .w x=>.w x
structure Emb(rs xs:List Rw)(sg:Nat)(e:Int->Int):Prop where
 v:∀ q,aQ rs q->aQ xs (e q)
 c:∀ q,aQ rs q->∀ k,k < sg->ck k (rowAt xs (e q))=(e (ck k (rowAt rs q)).1,(ck k (rowAt rs q)).2)
 r:∀ q,aQ rs q->(rowAt xs (e q)).r=prT e (rowAt rs q).r
 l:∀ q,aQ rs q->(rowAt xs (e q)).l=prT e (rowAt rs q).l
section
variable{rs xs:L9 Rw}{sg:Nat}{e:Int->Int}{bk bx:Int->Tn}{c:Nat}{z:L9 Nat}{t:Tn}{q:Int}
theorem aVG(M:Mach rs sg)(d:aY sg c=true)(a:aQ rs q):aQ rs (ck (c - 97) (rowAt rs q)).1:=by
 have hr:=AH (bL a.1 a.2)
 obtain⟨_,e,b,_⟩:=l9 M hr (show c - 97 < sg by have:=A5 d;ext)
 exact⟨e,b⟩
theorem lJ(M:Mach rs sg)(S:aK sg z)(a:aQ rs q):tnV rs.length (aW rs z q):=c6 M S ⟨by show(0:Int)<=z.length;ext,BV _,a.1,a.2⟩
theorem aDQ(M:Mach rs sg)(J:Emb rs xs sg e)(g:aY sg c=true)(hb:∀ q,aQ rs q->bx (e q)=prT e (bk q))(j:∀ q,aQ rs q->tnV rs.length (bk q))(i:tnV rs.length t):onR xs bx c (prT e t)=prT e (onR rs bk c t):=by
 have d:c - 97 < sg:=by have:=A5 g;ext
 cases t with
 | w x=>rfl
 | n q=>
  show(aS (cN xs bx c) (e q)).getD (.w bW)=prT e ((aS (cN rs bk c) q).getD (.w bW))
  rw[kR (st:=cN rs bk c) (e:=e) (k:=prT e) (Dom:=aQ rs) (λq b=>?_) i]
  .cases aS (cN rs bk c) q<;>rfl
  .have f:=aVG M g b
   have h2:=j _ f
   by_cases h:(ck (c - 97) (rowAt rs q)).2=1
   .refine .inr ⟨_,by rw[c9,AN h],?_⟩
    rw[cG (o:=.n (e (ck (c - 97) (rowAt rs q)).1)) (by rw[c9,J.c q b _ d,AN h])];rfl
   .cases a:bk (ck (c - 97) (rowAt rs q)).1 with
    | n r=>
     rw[a]at h2
     exact .inl ⟨r,by rw[c9,AL h,a],by rw[c9,J.c q b _ d,AL h];simp only;rw[hb _ f,a];rfl,h2⟩
    | w x=>
     refine .inr ⟨.w x,by rw[c9,AL h,a],?_⟩
     rw[cG (o:=.w x) (by rw[c9,J.c q b _ d,AL h];simp only;rw[hb _ f,a];rfl)];rfl
theorem aDR(M:Mach rs sg)(J:Emb rs xs sg e)(hb:∀ q,aQ rs q->bx (e q)=prT e (bk q))(h:∀ q,aQ rs q->tnV rs.length (bk q))(g:tnV rs.length t):wbR xs bx (prT e t)=wbR rs bk t:=by
 cases t with
 | w x=>rfl
 | n q=>
  show(aS (bN xs bx) (e q)).getD bW=(aS (bN rs bk) q).getD bW
  rw[kR (st:=bN rs bk) (e:=e) (k:=id) (Dom:=aQ rs) (λq f=>?_) g]
  .cases aS (bN rs bk) q<;>rfl
  .have h1:=J.r q f
   cases a:(rowAt rs q).r with
   | w x=>
    rw[a]at h1
    refine .inr ⟨x,by unfold bN;rw[a],?_⟩
    rw[cG (o:=x) (by unfold bN;rw[h1];rfl)];rfl
   | n q'=>
    have c:aQ rs q':=j9 M f a
    have h2:=h _ c
    rw[a]at h1
    have d:bN xs bx (e q)=match bx (e q')with | .n r=>some (.inl r) | .w x=>some (.inr x):=by unfold bN;rw[h1];rfl
    cases b:bk q' with
    | n r=>
     rw[b]at h2
     exact .inl ⟨r,by unfold bN;rw[a];simp only;rw[b],by rw[d,hb _ c,b];rfl,h2⟩
    | w x=>
     refine .inr ⟨x,by unfold bN;rw[a];simp only;rw[b],?_⟩
     rw[cG (o:=x) (by rw[d,hb _ c,b];rfl)];rfl
theorem jH:aW rs [] q=(rowAt rs q).l:=beg_nil
theorem gE(M:Mach rs sg)(f:Mach xs sg)(J:Emb rs xs sg e)(z:L9 Nat):aK sg z->∀ q,aQ rs q->aW xs z (e q)=prT e (aW rs z q):=by
 refine m7 (P:=λz=>aK sg z->∀ q,aQ rs q->aW xs z (e q)=prT e (aW rs z q)) (λS q a=>?_) (λz c d S q a=>?_) z
 .rw[jH,jH,J.l q a]
 .obtain ⟨Sz,b⟩:=kA S
  rw[eZ M Sz b a,eZ f Sz b (J.v q a)]
  exact aDQ M J b (d Sz) (λq a=>lJ M Sz a) (t:=.n q) a
theorem emb_fore(M:Mach rs sg)(g:Mach xs sg)(J:Emb rs xs sg e){f:L9 Nat->Tn}(h0:f []=prT e (rowAt rs 0).l)(d:∀ z c,aK sg z->aY sg c=true->f z=prT e (bA rs z (0,0))->f (z++[c])=onR xs (aW xs z) c (f z))(z:L9 Nat):aK sg z->f z=prT e (bA rs z (0,0)):=by
 refine m7 (P:=λz=>aK sg z->f z=prT e (bA rs z (0,0))) (λS=>?_) (λz c b S=>?_) z
 .rw[beg_nil,h0]
 .obtain ⟨Sz,a⟩:=kA S
  rw[d z c Sz a (b Sz),b Sz,iN M Sz a]
  exact aDQ M J a (gE M g J z Sz) (λq h=>lJ M Sz h) (c6 M Sz (jF M z))
theorem kY(M:Mach rs sg)(S:aK sg z):bO rs z=wbR rs (aW rs z) (bA rs z (0,0)):=aC2 M S
theorem tri{a c d f:Nat}(h1:b < 5)(h2:c < 5)(i:d < 5)(h:f < 5)(e:a * 25+b * 5+c=g * 25+d * 5+f):a=g/\b=d/\c=f:=by ext
theorem aVH{a c:Nat}(h1:a < 5)(h2:b < 5)(d:c < 5):a * 25+b * 5+c < 125:=by ext
theorem room2{q:Int}(h1:1<=n)(h2:n<=2)(b:0<=q)(a:q < n):q=((0:Nat):Int)\/q=((n - 1:Nat):Int):=by ext
theorem aYS{i:Int}(h2:n<=2)(h:i < n):i < ((2:Nat):Int):=by ext
theorem aYT(h1:1<=n):n - 1 < n:=by ext
theorem p9(M:Mach rs sg)(h2:rs.length<=2)(l:∀ z z',aK sg z->aK sg z'->(z=[]↔z'=[])->bA rs z (0,0)=bA rs z' (0,0)->(∀ q,aQ rs q->aW rs z q=aW rs z' q)->aV xs z=aV xs z'):pX xs sg:=by
 have h1:=M.len
 have up:∀ t,tnB rs.length t->tnB 2 t:=λt h=>by
  cases t with
  | n i=>exact⟨h.1,aYS h2 h.2⟩
  | w x=>exact h
 have g:∀ z,aK sg z->tnB 2 (bA rs z (0,0)):=λz S=>up _ (yZ M S (jF M z))
 have d:∀ z,aK sg z->tnB 2 (aW rs z ((0:Nat):Int)):=λz S=>up _ (yZ M S (xA h1))
 have c:∀ z,aK sg z->tnB 2 (aW rs z ((rs.length - 1:Nat):Int)):=λz S=>up _ (yZ M S (xA (aYT h1)))
 have lt:=λz S=>aVH (pY (g z S)) (pY (d z S)) (pY (c z S))
 refine aU2 (λz=>if z=[]then 125 else tc 2 (bA rs z (0,0)) * 25+tc 2 (aW rs z ((0:Nat):Int)) * 5+tc 2 (aW rs z ((rs.length - 1:Nat):Int))) (λz S=>?_) (λz z' S b e=>?_)
 .show (if z=[]then _ else _) < 200
  split
  .decide
  .exact CV (lt z S) (by decide)
 .by_cases f:z=[]
  .rw[AN f]at e
   by_cases a:z'=[]
   .rw[f,a]
   .rw[AL a]at e;exact absurd e (BY (lt z' b))
  .rw[AL f]at e
   by_cases a:z'=[]
   .rw[AN a]at e;exact absurd e (A3 (lt z S))
   .rw[AL a]at e
    obtain⟨k,e1,e2⟩:=tri (pY (d z S)) (pY (c z S)) (pY (d z' b)) (pY (c z' b)) e
    refine l z z' S b ⟨λh=>absurd h f,λh=>absurd h a⟩ (aDE (g z S) (g z' b) k) λq j=>?_
    rcases room2 h1 h2 j.1 j.2 with rfl|rfl
    · exact aDE (d z S) (d z' b) e1
    · exact aDE (c z S) (c z' b) e2
theorem vU(M:Mach rs sg)(h2:rs.length<=2):pX rs sg:=p9 M h2 λz b S c _ h1 h=>pZ h1 λq a=>h q ⟨by ext,by ext⟩
end
section
variable{rs xs:L9 Rw}{sg:Nat}{e:Int->Int}{bk bx:Int->Tn}{c:Nat}{z:L9 Nat}{t:Tn}{q:Int}{W:Str}
theorem zC(h:(ck (c - 97) (rowAt xs q)).2≠1):onR xs bx c (.n q)=onR xs bx c (bx (ck (c - 97) (rowAt xs q)).1):=by
 show(aS (cN xs bx c) q).getD (.w bW)=_
 cases a:bx (ck (c - 97) (rowAt xs q)).1 with
 | n r=>rw[o6 (s':=r) (by rw[c9,AL h,a])];rfl
 | w x=>rw[cG (o:=.w x) (by rw[c9,AL h,a])];rfl
theorem vW{q':Int}(h:(rowAt xs q).r=.n q'):wbR xs bx (.n q)=wbR xs bx (bx q'):=by
 show(aS (bN xs bx) q).getD bW=_
 cases a:bx q' with
 | n r=>rw[o6 (s':=r) (by unfold bN;rw[h];simp only;rw[a])];rfl
 | w x=>rw[cG (o:=x) (by unfold bN;rw[h];simp only;rw[a])];rfl
theorem aFR{a b:L9 Rw}(h0:0<=q)(h:q < a.length):rowAt (a++b) q=rowAt a q:=by
 unfold rowAt
 rw[AG,AG,BN (by ext)]
theorem tS{a b:L9 Rw}(h0:0<=q):rowAt (a++b) (q+a.length)=rowAt b q:=by
 unfold rowAt
 rw[AG,AG,BX (by ext),show(q+(a.length:Int)).toNat - a.length=q.toNat by ext]
theorem zD{r:Rw}{b:L9 Rw}(h0:0<=q):rowAt (r::b) (q+1)=rowAt b q:=tS (a:=[r]) h0
theorem sE{f:Rw->Rw}(a:aQ rs q):rowAt (rs.map f) q=f (rowAt rs q):=by
 have h:=bL a.1 a.2
 unfold rowAt at h ⊢
 rw[AG,AC,h];rfl
def mpR(e:Int->Int)(r:Rw):Rw:=⟨prT e r.l,r.c.map λc=>(e c.1,c.2),prT e r.r⟩
theorem aXD(M:Mach rs sg)(a:aQ rs q)(c:k < sg):ck k (mpR e (rowAt rs q))=(e (ck k (rowAt rs q)).1,(ck k (rowAt rs q)).2):=by
 have b:=(M.row _ (AH (bL a.1 a.2))).2
 unfold ck mpR
 simp only
 rw[AG,AC,AG,AI (by ext)];rfl
theorem m9{l r:Tn}{p:Int×Int}(a:k < sg):ck k ⟨l,replicate sg p,r⟩=p:=by
 unfold ck
 simp only
 rw[AG,E5,AN a];rfl
theorem aDS(M:Mach rs sg)(h:∀ q,aQ rs q->aQ xs (e q)/\rowAt xs (e q)=mpR e (rowAt rs q)):Emb rs xs sg e:=
 ⟨λq a=>(h q a).1,λq a k b=>by rw[(h q a).2];exact aXD M a b,λq a=>by rw[(h q a).2];rfl,λq a=>by rw[(h q a).2];rfl⟩
theorem qA{n m:Int}(a:∀ q,0<=q->q < n->0<=e q/\e q < m)(h:t.good n):(prT e t).good m:=by
 cases t with
 | n q=>exact a q h.1 h.2
 | w x=>exact h
theorem vX{n m:Int}{r:Rw}(f:∀ q,0<=q->q < n->0<=e q/\e q < m)(h:r.good n):(mpR e r).good m:=⟨qA f h.1,qA f h.2.1,λc j=>by
 obtain⟨i,d,rfl⟩:=AT.mp j
 obtain⟨k,g,l⟩:=h.2.2 i d
 obtain⟨a,b⟩:=f _ k g
 exact⟨a,b,l⟩⟩
theorem aVI(M:Mach rs sg):(rowAt rs 0).good rs.length:=(M.row _ (AH (bL (BV 0) (by have:=M.len;ext)))).1
theorem xK{b:Tn}(h:x=W):fM W b (.w x)=b:=AN h
theorem sG{b:Tn}(h:¬ x=W):fM W b (.w x)=.w x:=AL h
def upJ(rs:L9 Rw)(q:Int):Int:=q+((rs.length:Int)+1)
def jn(sg:Nat)(W:Str)(rs:L9 Rw):L9 Rw:=rs.map (oA W (prT (upJ rs) (rowAt rs 0).l) (.n rs.length))++(⟨prT (upJ rs) (rowAt rs 0).l,replicate sg ((rs.length:Int),-1),.w "out"⟩::rs.map (mpR (upJ rs)))
theorem nA:(jn sg W rs).length=rs.length+(rs.length+1):=by simp[jn]
theorem jn_1(a:aQ rs q):rowAt (jn sg W rs) q=oA W (prT (upJ rs) (rowAt rs 0).l) (.n rs.length) (rowAt rs q):=by
 unfold jn
 rw[aFR a.1 (by rw[AB];exact a.2),sE a]
theorem aNL:rowAt (jn sg W rs) rs.length=⟨prT (upJ rs) (rowAt rs 0).l,replicate sg ((rs.length:Int),-1),.w "out"⟩:=by
 have:=tS (a:=rs.map (oA W (prT (upJ rs) (rowAt rs 0).l) (.n rs.length))) (b:=⟨prT (upJ rs) (rowAt rs 0).l,replicate sg ((rs.length:Int),-1),.w "out"⟩::rs.map (mpR (upJ rs))) (BV 0)
 rw[AB,Int.zero_add]at this
 exact this
theorem aYU(c:aQ rs q):rowAt (jn sg W rs) (upJ rs q)=mpR (upJ rs) (rowAt rs q):=by
 have:=tS (a:=rs.map (oA W (prT (upJ rs) (rowAt rs 0).l) (.n rs.length))) (b:=⟨prT (upJ rs) (rowAt rs 0).l,replicate sg ((rs.length:Int),-1),.w "out"⟩::rs.map (mpR (upJ rs))) (show 0<=q+1 by have:=c.1;ext)
 rw[AB,zD c.1,sE c,show q+1+(rs.length:Int)=upJ rs q by unfold upJ;ext]at this
 exact this
theorem gG(M:Mach rs sg)(h2:rs.length<=2):Mach (jn sg W rs) sg where
 len:=by rw[nA];ext
 len2:=by rw[nA];ext
 sg1:=M.sg1
 sg3:=M.sg3
 row:=λr hr=>by
  rw[nA]
  have i:∀ q:Int,0<=q->q < rs.length->0<=upJ rs q/\upJ rs q < ((rs.length+(rs.length+1):Nat):Int):=λq m h1=>by unfold upJ;ext
  have j:=qA i (aVI M).1
  have k:∀ {t b:Tn},t.good rs.length->b.good ((rs.length+(rs.length+1):Nat):Int)->(fM W b t).good ((rs.length+(rs.length+1):Nat):Int):=λ{t b} ht hb=>by
   cases t with
   | n q=>exact⟨ht.1,by have:=ht.2;show q < _;ext⟩
   | w x=>
    by_cases h:x=W
    · rw [xK h]; exact hb
    · rw [sG h]; exact ht
  have g:(0:Int)<=rs.length/\(rs.length:Int) < ((rs.length+(rs.length+1):Nat):Int):=by ext
  unfold jn at hr
  rcases BD.mp hr with hr|hr
  .obtain ⟨f,d,rfl⟩:=AT.mp hr
   obtain⟨⟨a,b,c⟩,l⟩:=M.row f d
   exact⟨⟨k a j,k b g,λx e=>⟨(c x e).1,by have:=(c x e).2.1;ext,(c x e).2.2⟩⟩,l⟩
  .rcases AW.mp hr with rfl|hr
   .exact ⟨⟨j,.inr rfl,λx e=>by rw[(GP.mp e).2];exact⟨g.1,g.2,.inr rfl⟩⟩,by simp⟩
   .obtain ⟨f,d,rfl⟩:=AT.mp hr
    obtain⟨a,l⟩:=M.row f d
    exact⟨vX i a,by simp[mpR,l]⟩
theorem aYV(a:aQ rs q):aQ (jn sg W rs) q:=⟨a.1,by have:=a.2;rw[nA];ext⟩
theorem nB(M:Mach rs sg):Emb rs (jn sg W rs) sg (upJ rs):=aDS M λq a=>⟨⟨by have:=a.1;unfold upJ;ext,by have:=a.2;rw[nA];unfold upJ;ext⟩,aYU a⟩
theorem zE(M:Mach rs sg)(h2:rs.length<=2)(z:L9 Nat):aK sg z->aW (jn sg W rs) z rs.length=prT (upJ rs) (bA rs z (0,0)):=
 emb_fore M (gG M h2) (nB M) (f:=λz=>aW (jn sg W rs) z rs.length) (by show aW _ [] _=_;rw[jH,aNL]) (λz c Sz a _=>by
  show aW _ (z++[c]) _=onR _ _ c (aW _ z _)
  have b:c - 97 < sg:=by have:=A5 a;ext
  rw[eZ (gG M h2) Sz a ⟨by ext,by rw[nA];ext⟩,zC (by rw[aNL,m9 b];exact(by decide:(-1:Int)≠1)),aNL,m9 b]) z
theorem aXE(M:Mach rs sg)(h2:rs.length<=2)(hW:W≠"ever")(S:aK sg z)(d:aY sg c=true)(i:∀ q,aQ rs q->aW (jn sg W rs) z q=fM W (prT (upJ rs) (bA rs z (0,0))) (aW rs z q))(m:tnV rs.length t) :
  onR (jn sg W rs) (aW (jn sg W rs) z) c (fM W (prT (upJ rs) (bA rs z (0,0))) t)=fM W (prT (upJ rs) (bA rs (z++[c]) (0,0))) (onR rs (aW rs z) c t):=by
 have p:c - 97 < sg:=by have:=A5 d;ext
 have up:onR (jn sg W rs) (aW (jn sg W rs) z) c (prT (upJ rs) (bA rs z (0,0)))=prT (upJ rs) (bA rs (z++[c]) (0,0)):=by
  rw[iN M S d]
  exact aDQ M (nB M) d (gE M (gG M h2) (nB M) z S) (λq f=>lJ M S f) (c6 M S (jF M z))
 have j:∀ x,onR (jn sg W rs) (aW (jn sg W rs) z) c (fM W (prT (upJ rs) (bA rs z (0,0))) (.w x))=fM W (prT (upJ rs) (bA rs (z++[c]) (0,0))) (.w x):=λx=>by
  by_cases h:x=W
  .rw[xK h,xK h];exact up
  .rw[sG h,sG h];rfl
 cases t with
 | w x=>exact j x
 | n q=>
  show(aS (cN (jn sg W rs) (aW (jn sg W rs) z) c) (id q)).getD (.w bW)=fM W _ ((aS (cN rs (aW rs z) c) q).getD (.w bW))
  rw[kR (st:=cN rs (aW rs z) c) (e:=id) (k:=fM W (prT (upJ rs) (bA rs (z++[c]) (0,0)))) (Dom:=aQ rs) (λq f=>?_) m]
  .cases aS (cN rs (aW rs z) c) q with
   | none=>exact(sG (BF hW)).symm
   | some x=>rfl
  .have g:=aVG M d f
   have l:=lJ M S g
   have b:ck (c - 97) (rowAt (jn sg W rs) q)=ck (c - 97) (rowAt rs q):=by rw[jn_1 f];rfl
   by_cases h:(ck (c - 97) (rowAt rs q)).2=1
   .refine .inr ⟨_,by rw[c9,AN h],?_⟩
    rw[cG (s:=id q) (o:=.n (ck (c - 97) (rowAt rs q)).1) (by show cN _ _ _ q=_;rw[c9,b,AN h])];rfl
   .cases a:aW rs z (ck (c - 97) (rowAt rs q)).1 with
    | n r=>
     rw[a]at l
     exact .inl ⟨r,by rw[c9,AL h,a],by show cN _ _ _ q=_;rw[c9,b,AL h,i _ g,a];rfl,l⟩
    | w x=>
     refine .inr ⟨.w x,by rw[c9,AL h,a],?_⟩
     have:=zC (xs:=jn sg W rs) (bx:=aW (jn sg W rs) z) (q:=q) (c:=c) (by rw[b];exact h)
     rw[b,i _ g,a,j x]at this
     exact this
theorem aDT(M:Mach rs sg)(h2:rs.length<=2)(hW:W≠"ever")(z:L9 Nat):aK sg z->bA (jn sg W rs) z (0,0)=fM W (prT (upJ rs) (bA rs z (0,0))) (bA rs z (0,0))/\∀ q,aQ rs q->aW (jn sg W rs) z q=fM W (prT (upJ rs) (bA rs z (0,0))) (aW rs z q):=by
 refine m7 (P:=λz=>aK sg z->bA (jn sg W rs) z (0,0)=fM W (prT (upJ rs) (bA rs z (0,0))) (bA rs z (0,0))/\∀ q,aQ rs q->aW (jn sg W rs) z q=fM W (prT (upJ rs) (bA rs z (0,0))) (aW rs z q)) (λS=>⟨?_,λq b=>?_⟩) (λz c d S=>?_) z
 .rw[beg_nil,beg_nil,jn_1 ⟨BV 0,by have:=M.len;ext⟩];rfl
 .rw[jH,jH,beg_nil,jn_1 b];rfl
 .obtain ⟨Sz,a⟩:=kA S
  obtain⟨i1,i2⟩:=d Sz
  have on:=λt e=>aXE (t:=t) M h2 hW Sz a i2 e
  refine⟨?_,λq b=>?_⟩
  .rw[iN (gG M h2) Sz a,i1,on _ (c6 M Sz (jF M z)),<-iN M Sz a]
  .rw[eZ (gG M h2) Sz a (aYV b),eZ M Sz a b]
   exact on (.n q) b
theorem aFS(M:Mach rs sg)(h2:rs.length<=2)(hW:W≠"ever")(S:aK sg z):bO (jn sg W rs) z=bO rs z:=by
 obtain⟨i1,i2⟩:=aDT M h2 hW z S
 have up:wbR (jn sg W rs) (aW (jn sg W rs) z) (prT (upJ rs) (bA rs z (0,0)))=bO rs z:=by
  rw[kY M S]
  exact aDR M (nB M) (gE M (gG M h2) (nB M) z S) (λq d=>lJ M S d) (c6 M S (jF M z))
 have j:∀ x,wbR (jn sg W rs) (aW (jn sg W rs) z) (fM W (prT (upJ rs) (bA rs z (0,0))) (.w x))=if x=W then bO rs z else x:=λx=>by
  by_cases h:x=W
  .rw[xK h,AN h];exact up
  .rw[sG h,AL h];rfl
 have g:∀ t,tnV rs.length t->wbR (jn sg W rs) (aW (jn sg W rs) z) (fM W (prT (upJ rs) (bA rs z (0,0))) t)=if wbR rs (aW rs z) t=W then bO rs z else wbR rs (aW rs z) t:=λt l=>by
  cases t with
  | w x=>exact j x
  | n q=>
   show(aS (bN (jn sg W rs) (aW (jn sg W rs) z)) (id q)).getD bW=if (aS (bN rs (aW rs z)) q).getD bW=W then _ else(aS (bN rs (aW rs z)) q).getD bW
   rw[kR (st:=bN rs (aW rs z)) (e:=id) (k:=λx=>if x=W then bO rs z else x) (Dom:=aQ rs) (λq d=>?_) l]
   .cases aS (bN rs (aW rs z)) q with
    | none=>exact(AL (BF hW)).symm
    | some x=>rfl
   .have hr:(rowAt (jn sg W rs) q).r=fM W (.n rs.length) (rowAt rs q).r:=by rw[jn_1 d];rfl
    cases a:(rowAt rs q).r with
    | w x=>
     refine .inr ⟨x,by unfold bN;rw[a],?_⟩
     rw[a]at hr
     show wbR (jn sg W rs) (aW (jn sg W rs) z) (.n q)=_
     by_cases c:x=W
     .rw[vW (hr.trans (AN c)),zE M h2 z S,up,AN c]
     .show (aS (bN (jn sg W rs) (aW (jn sg W rs) z)) q).getD bW=_
      rw[cG (o:=x) (by unfold bN;rw[hr.trans (AL c)]),AL c];rfl
    | n q'=>
     have f:aQ rs q':=j9 M d a
     have i:=lJ M S f
     rw[a]at hr
     have hr:(rowAt (jn sg W rs) q).r=.n q':=hr
     cases b:aW rs z q' with
     | n r=>
      rw[b]at i
      exact .inl ⟨r,by unfold bN;rw[a];simp only;rw[b],by show bN _ _ q=_;unfold bN;rw[hr];simp only;rw[i2 _ f,b];rfl,i⟩
     | w x=>
      refine .inr ⟨x,by unfold bN;rw[a];simp only;rw[b],?_⟩
      have:=vW (bx:=aW (jn sg W rs) z) hr
      rw[i2 _ f,b,j x]at this
      exact this
 rw[kY (gG M h2) S,i1,g _ (c6 M S (jF M z)),<-kY M S]
 split<;>simp_all
theorem aKS(M:Mach rs sg)(h2:rs.length<=2)(hW:W≠"ever"):pX (jn sg W rs) sg:=p9 M h2 λz b S c _ d f=>by
 obtain⟨g,l⟩:=aDT M h2 hW z S
 obtain⟨k,j⟩:=aDT M h2 hW b c
 refine pZ (by rw[g,k,d]) λq i=>?_
 rw[nA]at i
 by_cases h:q < rs.length
 .have a:aQ rs q:=⟨by ext,by ext⟩
  rw[l _ a,j _ a,d,f _ a]
 .by_cases h':q=rs.length
  .subst h';rw[zE M h2 z S,zE M h2 b c,d]
  .have a:aQ rs (q - ((rs.length:Int)+1)):=⟨by ext,by ext⟩
   have e:(q:Int)=upJ rs (q - ((rs.length:Int)+1)):=by unfold upJ;ext
   rw[e,gE M (gG M h2) (nB M) z S _ a,gE M (gG M h2) (nB M) b c _ a,f _ a]
end
section
variable{rs xs:L9 Rw}{sg:Nat}{e:Int->Int}{bk bx:Int->Tn}{c:Nat}{z:L9 Nat}{t:Tn}{q:Int}{W:Str}
def u1(q:Int):Int:=q+1
def u2(q:Int):Int:=q+2
def ab(sg:Nat)(rs:L9 Rw):L9 Rw:=⟨.n 0,replicate sg (0,1),prT u1 (rowAt rs 0).l⟩::rs.map λr=>jD (mpR u1 r)
theorem nC:(ab sg rs).length=rs.length+1:=by simp[ab]
theorem aNM{n:Int}{r:Rw}(h:r.good n):(jD r).good n:=⟨h.2.1,h.1,λc e=>by
 obtain⟨b,a,rfl⟩:=AT.mp e
 obtain⟨f,d,g⟩:=h.2.2 b a
 refine⟨f,d,?_⟩
 show -b.2=1 \/ -b.2 = -1
 ext⟩
theorem zF(M:Mach rs sg)(h2:rs.length<=3):Mach (ab sg rs) sg where
 len:=by rw[nC];ext
 len2:=by rw[nC];ext
 sg1:=M.sg1
 sg3:=M.sg3
 row:=λr hr=>by
  rw[nC]
  have c:∀ q:Int,0<=q->q < rs.length->0<=u1 q/\u1 q < ((rs.length+1:Nat):Int):=λq f h1=>by unfold u1;ext
  rcases AW.mp hr with rfl|hr
  .exact ⟨⟨⟨BV 0,by ext⟩,qA c (aVI M).1,λx d=>by rw[(GP.mp d).2];exact⟨BV 0,by show(0:Int) < _;ext,.inl rfl⟩⟩,by simp⟩
  .obtain ⟨e,b,rfl⟩:=AT.mp hr
   obtain⟨a,l⟩:=M.row e b
   exact⟨aNM (vX c a),by simp[mpR,jD,l]⟩
theorem aDU:ab sg (ab sg rs)=⟨.n 0,replicate sg (0,1),.n 1⟩::⟨prT u2 (rowAt rs 0).l,replicate sg (1,-1),.n 1⟩::rs.map (mpR u2):=by
 have h1:∀ t,prT u1 (prT u1 t)=prT u2 t:=λt=>by cases t<;>simp[prT,u1,u2];ext
 show _::(jD (mpR u1 _)::(rs.map λr=>jD (mpR u1 r)).map λr=>jD (mpR u1 r))=_
 congr 1
 congr 1
 .simp only[jD,mpR,h1,GQ];rfl
 .rw[AZ]
  refine A9 λr _=>?_
  show jD (mpR u1 (jD (mpR u1 r)))=mpR u2 r
  simp[jD,mpR,h1,yO,u1,u2]
  intros;ext
theorem xL:(ab sg (ab sg rs)).length=rs.length+2:=by rw[nC,nC]
theorem iV(M:Mach rs sg)(h2:rs.length<=2):Mach (ab sg (ab sg rs)) sg:=zF (zF M (by ext)) (by rw[nC];ext)
theorem aHJ:rowAt (ab sg (ab sg rs)) 0=⟨.n 0,replicate sg (0,1),.n 1⟩:=by rw[aDU];rfl
theorem aNN:rowAt (ab sg (ab sg rs)) 1=⟨prT u2 (rowAt rs 0).l,replicate sg (1,-1),.n 1⟩:=by rw[aDU];rfl
theorem sH(M:Mach rs sg):Emb rs (ab sg (ab sg rs)) sg u2:=aDS M λq a=>⟨⟨by have:=a.1;unfold u2;ext,by have:=a.2;rw[xL];unfold u2;ext⟩,by
 rw[aDU,show u2 q=q+1+1 by unfold u2;ext,zD (by have:=a.1;ext),zD a.1,sE a]⟩
theorem aDV(M:Mach rs sg)(h2:rs.length<=2)(z:L9 Nat):aK sg z->aW (ab sg (ab sg rs)) z 0=.n 0/\bA (ab sg (ab sg rs)) z (0,0)=.n 0:=by
 refine m7 (P:=λz=>aK sg z->aW (ab sg (ab sg rs)) z 0=.n 0/\bA (ab sg (ab sg rs)) z (0,0)=.n 0) (λS=>by rw[jH,beg_nil,aHJ];exact⟨rfl,rfl⟩) (λz c d S=>?_) z
 obtain⟨Sz,a⟩:=kA S
 have b:c - 97 < sg:=by have:=A5 a;ext
 have h:onR (ab sg (ab sg rs)) (aW (ab sg (ab sg rs)) z) c (.n 0)=.n 0:=by rw[aDF (by rw[aHJ,m9 b]),aHJ,m9 b]
 rw[eZ (iV M h2) Sz a ⟨BV 0,by rw[xL];ext⟩,iN (iV M h2) Sz a,(d Sz).2,h]
 exact⟨rfl,rfl⟩
theorem zG(M:Mach rs sg)(h2:rs.length<=2)(z:L9 Nat):aK sg z->aW (ab sg (ab sg rs)) z 1=prT u2 (bA rs z (0,0)):=
 emb_fore M (iV M h2) (sH M) (f:=λz=>aW (ab sg (ab sg rs)) z 1) (by show aW _ [] _=_;rw[jH,aNN]) (λz c Sz a _=>by
  show aW _ (z++[c]) _=onR _ _ c (aW _ z _)
  have b:c - 97 < sg:=by have:=A5 a;ext
  rw[eZ (iV M h2) Sz a ⟨by ext,by rw[xL];ext⟩,zC (by rw[aNN,m9 b];exact(by decide:(-1:Int)≠1)),aNN,m9 b]) z
theorem aR6(M:Mach rs sg)(h2:rs.length<=2)(S:aK sg z):bO (ab sg (ab sg rs)) z=bO rs z:=by
 rw[kY (iV M h2) S,(aDV M h2 z S).2,vW (q':=1) (by rw[aHJ]),zG M h2 z S,kY M S]
 exact aDR M (sH M) (gE M (iV M h2) (sH M) z S) (λq a=>lJ M S a) (c6 M S (jF M z))
theorem aVJ(M:Mach rs sg)(h2:rs.length<=2):pX (ab sg (ab sg rs)) sg:=p9 M h2 λz b S c _ g h=>by
 obtain⟨e,j⟩:=aDV M h2 z S
 obtain⟨i,f⟩:=aDV M h2 b c
 refine pZ (by rw[j,f]) λq a=>?_
 rw[xL]at a
 match q,a with
 | 0,_=>exact e.trans i.symm
 | 1,_=>exact(zG M h2 z S).trans (g▸(zG M h2 b c).symm)
 | q+2,a=>
  have d:aQ rs q:=⟨by ext,by ext⟩
  rw[show((q+2:Nat):Int)=u2 q from rfl,gE M (iV M h2) (sH M) z S _ d,gE M (iV M h2) (sH M) b c _ d,h _ d]
def ps(od:L9 Nat)(q:Int):Int:=(od.idxOf q.toNat:Nat)
def pr(od:L9 Nat)(p:L9 Rw):L9 Rw:=od.map λq:Nat=>mpR (ps od) (rowAt p q)
structure Od(od:List Nat)(n:Nat):Prop where
 len:od.length=n
 mem:∀ q,q < n->q∈od
 lt:∀ q∈od,q < n
 z:od.idxOf 0=0
 nd:od.Nodup
variable{od:L9 Nat}{ex:L9 Rw}
theorem Od.ps(O:Od od rs.length)(a:aQ rs q):0<=ps od q/\ps od q < rs.length/\od[(ps od q).toNat]? = some q.toNat:=by
 have h:=O.mem q.toNat (by have:=a.1;have:=a.2;ext)
 have h1:=DO h
 refine⟨by unfold Mc.ps;ext,by have:=O.len;unfold Mc.ps;ext,?_⟩
 show od[od.idxOf q.toNat]? = _
 rw[AI h1,List.getElem_idxOf h1]
theorem aXF(O:Od od rs.length)(a:aQ rs q):rowAt (pr od rs) (ps od q)=mpR (ps od) (rowAt rs q):=by
 unfold rowAt
 rw[AG]
 unfold pr
 rw[AC,(O.ps a).2.2]
 show mpR (ps od) (rowAt rs ((q.toNat:Nat):Int))=_
 rw[show((q.toNat:Nat):Int)=q by have:=a.1;ext];rfl
theorem oZ(O:Od od rs.length):(pr od rs).length=rs.length:=by unfold pr;rw[AB,O.len]
theorem jT(M:Mach rs sg)(O:Od od rs.length):Mach (pr od rs) sg where
 len:=by rw[oZ O];exact M.len
 len2:=by rw[oZ O];exact M.len2
 sg1:=M.sg1
 sg3:=M.sg3
 row:=λr hr=>by
  rw[oZ O]
  obtain⟨q,c,rfl⟩:=AT.mp hr
  have:=O.lt q c
  obtain⟨a,l⟩:=M.row _ (AH (bL (rs:=rs) (q:=(q:Int)) (by ext) (by ext)))
  exact⟨vX (λq b h1=>⟨(O.ps ⟨b,h1⟩).1,(O.ps ⟨b,h1⟩).2.1⟩) a,by simp[mpR,l]⟩
theorem aNO(a:aQ rs q):aQ (rs++ex) q:=⟨a.1,by have:=a.2;rw[AY];ext⟩
theorem o0(M:Mach rs sg)(O:Od od (rs++ex).length):Emb rs (pr od (rs++ex)) sg (ps od):=aDS M λq a=>⟨⟨(O.ps (aNO a)).1,by rw[oZ O];exact(O.ps (aNO a)).2.1⟩,by rw[aXF O (aNO a),aFR a.1 a.2]⟩
theorem zI(M:Mach rs sg)(a:Mach (rs++ex) sg)(O:Od od (rs++ex).length)(z:L9 Nat):aK sg z->bA (pr od (rs++ex)) z (0,0)=prT (ps od) (bA rs z (0,0)):=
 emb_fore M (jT a O) (o0 M O) (f:=λz=>bA (pr od (rs++ex)) z (0,0)) (by
  show bA _ [] _=_
  have b:ps od 0=0:=by show((od.idxOf 0:Nat):Int)=0;rw[O.z];rfl
  have:=(o0 M O).l 0 ⟨BV 0,by have:=M.len;ext⟩
  rw[b]at this
  rw[beg_nil,this]) (λz c Sz d _=>iN (jT a O) Sz d) z
theorem aR7(M:Mach rs sg)(a:Mach (rs++ex) sg)(O:Od od (rs++ex).length)(S:aK sg z):bO (pr od (rs++ex)) z=bO rs z:=by
 rw[kY (jT a O) S,zI M a O z S,kY M S]
 exact aDR M (o0 M O) (gE M (jT a O) (o0 M O) z S) (λq b=>lJ M S b) (c6 M S (jF M z))
theorem aVK(M:Mach rs sg)(d:Mach (rs++ex) sg)(O:Od od (rs++ex).length)(h2:rs.length<=2)(hx:∀ r∈ex,∃ p:Int,r.c=replicate sg (p,1)):pX (pr od (rs++ex)) sg:=p9 M h2 λz l S o s x A=>by
 refine pZ (by rw[zI M d O z S,zI M d O l o,x]) λi hi=>?_
 rw[oZ O]at hi
 have C:=O.len
 have m:=O.lt _ (D4 (show i < od.length by ext))
 by_cases h:od[i] < rs.length
 .have j:aQ rs (od[i]:Int):=⟨by ext,by ext⟩
  have e:(i:Int)=ps od od[i]:=by
   show(i:Int)=((od.idxOf od[i]:Nat):Int)
   rw[O.nd.idxOf_getElem]
  rw[e,gE M (jT d O) (o0 M O) z S _ j,gE M (jT d O) (o0 M O) l o _ j,A _ j]
 .have j:aQ (pr od (rs++ex)) (i:Int):=⟨by ext,by rw[oZ O];ext⟩
  have hr:rowAt (pr od (rs++ex)) i=mpR (ps od) (rowAt (rs++ex) od[i]):=by
   show(pr od (rs++ex)).getD i _=_
   rw[AG]
   unfold pr
   rw[AC,AI (by ext)];rfl
  have w:rowAt (rs++ex) od[i]∈ex:=by
   rw[AY]at m
   have:=tS (a:=rs) (b:=ex) (q:=((od[i] - rs.length:Nat):Int)) (by ext)
   rw[show((od[i] - rs.length:Nat):Int)+rs.length=od[i]by ext]at this
   rw[this]
   exact AH (bL (by ext) (by ext))
  obtain⟨p,v⟩:=hx _ w
  have k:∀ y c,aK sg (y++[c])->aW (pr od (rs++ex)) (y++[c]) i=.n (ps od p):=λy c Sy=>by
   obtain⟨Sz,t⟩:=kA Sy
   have u:c - 97 < sg:=by have:=A5 t;ext
   have f:ck (c - 97) (rowAt (pr od (rs++ex)) i)=(ps od p,1):=by
    rw[hr]
    unfold mpR
    rw[v,GQ]
    exact m9 u
   rw[eZ (jT d O) Sz t j,aDF (by rw[f]),f]
  rcases IG z with e|⟨y,c,e⟩
  .rw[e,s.mp e]
  .rcases IG l with g|⟨B,D,g⟩
   .rw[g,s.mpr g]
   .rw[List.concat_eq_append]at e g
    subst e g
    rw[k _ _ S,k _ _ o]
end
end Mc
namespace Fl
@[simp] theorem aZF(f g:Sg->R Dz)(Y:Sg):rY f g Y=(f Y).bind λx=>if isL x=true then(g Y).bind λy=>zA x y else .bad:=id rfl
@[simp] theorem aOQ(xs:L9 Dz):isL (.list xs)=true:=id rfl
@[simp] theorem aZ2(a b:Bool):dIsB (.bool a) (.bool b)=.ok (.bool (a == b)):=id rfl
@[simp] theorem aYW(f:Sg->R (L9 Dz))(g:Sg->R Dz)(Y:Sg):xG f g Y=(f Y).bind λxs=>(g Y).bind λy=>xF xs y:=id rfl
end Fl
namespace Mc
open Fl
variable{rs:L9 Rw}
theorem aYX(x y:Dz)(b:Bool):dIx (.list [x,y]) (.int (if b=true then 1 else 0))=.ok (if b=true then y else x):=by
 cases b
 · exact aCU ..
 · exact aJY ..
theorem aHK(x:Dz)(h:sg<=3):xF [x] (.int (sg:Int))=.ok (replicate sg x):=by
 have h1:∀ n:Nat,(replicate n [x]).flatten=replicate n x:=λn=>by
  induction n with
  | zero=>rfl
  | succ n ih=>rw[CK,DD,ih];rfl
 unfold xF
 simp only
 rw[AN ⟨List.cons_ne_nil _ _,by ext,by ext,by rw[DC,BJ];ext⟩,DC,h1]
theorem vY(sg:Nat)(c:Int×Int):(replicate sg c).map cellD=replicate sg (.tuple [.int c.1,.int c.2]):=by rw[GQ];rfl
theorem xM{Z:Type}{fs:Dz->Sg->O9 Sg}{fb:Sg->R Fw}{d g:α->Dz}{R':L9 Dz->Z->Sg}:∀ {xs:L9 α},(∀ x∈xs,∀ L s,L.length < 16777216->∃ Y1 s',fs (d x) (R' L s)=some Y1/\fb Y1=.ok (.nx (R' (L++[g x]) s')))->∀ L s,L.length+xs.length<=16777216->
  ∃ s',fH fs fb (xs.map d) (R' L s)=.ok (.nx (R' (L++xs.map g) s'))
 | [],_,L,s,_=>⟨s,by rw[BS,BS,C8];rfl⟩
 | x::t,h,L,s,hl=>by
  rw[A7]at hl
  obtain⟨Y1,s1,h1,h2⟩:=h x AX L s (by ext)
  obtain⟨s',b⟩:=xM (λy a=>h y (AQ _ a)) (L++[g x]) s1 (by rw[AY,BJ];ext)
  exact⟨s',by rw[AU,kQ h1 h2,b,AU,DW];rfl⟩
abbrev T3:=O9 A×O9 A×O9 A
section
variable{rs:L9 Rw}{sg:Nat}
theorem aVL(t:Tn)(k:Int):eU [.d t.d,.d (.int k)]=.ok (.d (prT (· + k) t).d):=by
 cases t with
 | n q=>simp[eU,lO,Tn.d,rM,prT]
 | w x=>simp[eU,lO,Tn.d,oS,prT]
theorem aKT(e:Int->Int)(r:Rw):aO (mpR e r)=.tuple [(prT e r.l).d,.tuple (r.c.map λc=>cellD (e c.1,c.2)),(prT e r.r).d]:=by
 unfold aO mpR
 simp only[AZ];rfl
theorem aNP(M:Mach rs sg){r:Rw}(hr:r∈rs):aH (.tuple (r.c.map cellD))=.ok (r.c.map cellD):=cR (by have:=(M.row r hr).2;have:=M.sg3;rw[AB];ext)
theorem aFT(M:Mach rs sg)(k:Int):dA [.d (aD rs),.d (.int k)]=.ok (.d (.list (rs.map λr=>aO (mpR (· + k) r)))):=by
 have h:=M.len2
 obtain⟨s',f1⟩:=xM (fs:=stT [(stN 3),(stN 4),(stN 5)]) (fb:=raF) (d:=aO) (g:=λr=>aO (mpR (· + k) r)) (xs:=rs) (R':=λL (s:T3)=>[some (.d (aD rs)),some (.d (.int k)),some (.l L),s.1,s.2.1,s.2.2]) (λr hr L s f=>by
  have e:=bR (fs:=stT [(stN 0),(stN 1)]) (fe:=(bM (aA (e2 bV (rV 0) (rV 2)) (aA (eV 1) aB)))) (Y0:=[none,none,some (.d (.int k))]) (d:=cellD) (g:=λc=>cellD (c.1+k,c.2)) (xs:=r.c) λc _=>⟨_,rfl,by simp[cellD]⟩
  have a:=aNP M hr
  have h1:=aVL r.l k
  have h2:=aVL r.r k
  refine⟨_,(some (.d r.l.d),some (.d (.tuple (r.c.map cellD))),some (.d r.r.d)),rfl,?_⟩
  rw[aKT]
  generalize r.c.map cellD=j at *
  generalize (r.c.map λc=>cellD (c.1+k,c.2))=i at *
  generalize aD rs=b at *
  unfold raF
  simp[h1,h2,a,e,cX,f]) [] (none,none,none) (by simp;ext)
 have a:=pT M
 unfold dA
 rw[lP]
 generalize aD rs=b at *
 generalize rs.map aO=L1 at *
 generalize (rs.map λr=>aO (mpR (· + k) r))=L2 at *
 simp[a,f1]
theorem aHL(M:Mach rs sg):∃ x,dIx (aD rs) (.int 0)=.ok x/\∃ y,dIx x (.int 1)=.ok y/\dLen y=.ok (.int (sg:Int)):=by
 obtain⟨r,t,rfl,hr⟩:=M.cons
 refine⟨_,rG _ _,_,aJX _ _ _,?_⟩
 rw[oP,AB,hr]
theorem aVM(M:Mach rs sg)(k:Int):∃ x,dIx (.list (rs.map λr=>aO (mpR (· + k) r))) (.int 0)=.ok x/\dIx x (.int 0)=.ok (prT (· + k) (rowAt rs 0).l).d:=by
 obtain⟨r,t,rfl,hr⟩:=M.cons
 exact⟨_,aCU _ _,rG _ _⟩
theorem aKU(W:Str)(b t:Tn):(if isW W t=true then b.d else t.d)=(fM W b t).d:=by
 cases t with
 | n q=>rfl
 | w x=>by_cases e:x=W<;>simp[isW,fM,e]
theorem aHM{ys:L9 Dz}(h:xs.length+ys.length<=16777216):lN (.list xs) (.list ys)=.ok (xs++ys):=AN (by rw[bX];exact h)
theorem aVN(M:Mach rs sg)(h2:rs.length<=2){W:Str}(hW:W="by"\/W="out"):eB [.d (aD rs),.d (aD rs),.d (.str W)]=.ok (.d (aD (jn sg W rs))):=by
 have hr:=aFT M ((rs.length:Int)+1)
 have b:dLen (aD rs)=.ok (.int rs.length):=by unfold aD;rw[oP,AB]
 obtain⟨x0,x1,x2⟩:=aVM M ((rs.length:Int)+1)
 obtain⟨s',f1⟩:=xM (fs:=stT [(stN 6),(stN 7),(stN 8)]) (fb:=jnF) (d:=aO) (g:=λr=>aO (oA W (prT (upJ rs) (rowAt rs 0).l) (.n rs.length) r)) (xs:=rs) (R':=λL (s:T3)=>[some (.d (aD rs)),some (.d (aD rs)),some (.d (.str W)),some (.d (.int (rs.length:Int))),some (.d (.list (rs.map λr=>aO (mpR (· + ((rs.length:Int)+1)) r)))),some (.l L),s.1,s.2.1,s.2.2]) (λr hr L s q=>by
  have g:=(M.row r hr).1
  have e1:=aJ7 hW g.1
  have e2:=aJ7 hW g.2.1
  refine⟨_,(some (.d r.l.d),some (.d (.tuple (r.c.map cellD))),some (.d r.r.d)),rfl,?_⟩
  have m:aO (oA W (prT (upJ rs) (rowAt rs 0).l) (.n rs.length) r)=.tuple [if isW W r.l=true then(prT (· + ((rs.length:Int)+1)) (rowAt rs 0).l).d else r.l.d,.tuple (r.c.map cellD),if isW W r.r=true then .int (rs.length:Int)else r.r.d]:=by
   rw[aKU,show PyData.int (rs.length:Int)=(Tn.n (rs.length:Int)).d from rfl,aKU];rfl
  rw[m]
  generalize r.c.map cellD=u at *
  generalize aD rs=i at *
  generalize (rs.map λr=>aO (mpR (· + ((rs.length:Int)+1)) r))=L2 at *
  unfold jnF
  simp[x1,x2,e1,e2,aYX,q]) [] (none,none,none) (by simp;ext)
 have o:=aHK (.tuple [.int (rs.length:Int),.int (-1)]) M.sg3
 obtain⟨t,p,v,j,k⟩:=aHL M
 have h:=pT M
 have f:aD (jn sg W rs)=.tuple (((rs.map λr=>aO (oA W (prT (upJ rs) (rowAt rs 0).l) (.n rs.length) r))++[.tuple [(prT (· + ((rs.length:Int)+1)) (rowAt rs 0).l).d,.tuple (replicate sg (.tuple [.int (rs.length:Int),.int (-1)])),.str "out"]])++(rs.map λr=>aO (mpR (· + ((rs.length:Int)+1)) r))):=by
  unfold aD jn
  rw[BE,AU,AZ,AZ,DW,List.singleton_append]
  unfold aO
  rw[vY];rfl
 have a:=aHM (xs:=((rs.map λr=>aO (oA W (prT (upJ rs) (rowAt rs 0).l) (.n rs.length) r))++[.tuple [(prT (· + ((rs.length:Int)+1)) (rowAt rs 0).l).d,.tuple (replicate sg (.tuple [.int (rs.length:Int),.int (-1)])),.str "out"]])) (ys:=(rs.map λr=>aO (mpR (· + ((rs.length:Int)+1)) r))) (by simp;ext)
 have e:(rs.map λr=>aO (oA W (prT (upJ rs) (rowAt rs 0).l) (.n rs.length) r)).length < 16777216:=by rw[AB];ext
 unfold eB
 rw[f,lQ]
 generalize (rs.map λr=>aO (oA W (prT (upJ rs) (rowAt rs 0).l) (.n rs.length) r))=L1 at *
 generalize (rs.map λr=>aO (mpR (· + ((rs.length:Int)+1)) r))=L2 at *
 generalize rs.map aO=w at *
 generalize aD rs=i at *
 generalize replicate sg (PyData.tuple [.int (rs.length:Int),.int (-1)])=RP at *
 simp at f1 a
 simp[b,hr,h,f1,x1,x2,p,j,k,o,e,a]
theorem aVO(M:Mach rs sg)(o:rs.length<=3):eR [.d (aD rs)]=.ok (.d (aD (ab sg rs))):=by
 have hr:=aFT M 1
 obtain⟨x0,x1,x2⟩:=aVM M 1
 have i:=aHK (.tuple [.int 0,.int 1]) M.sg3
 obtain⟨p,j,t,f,h⟩:=aHL M
 obtain⟨s',f1⟩:=xM (fs:=stT [(stN 3),(stN 4),(stN 5)]) (fb:=abF) (d:=λr=>aO (mpR u1 r)) (g:=λr=>aO (jD (mpR u1 r))) (xs:=rs) (R':=λL (s:T3)=>[some (.d (aD rs)),some (.d (.list (rs.map λr=>aO (mpR u1 r)))),some (.l L),s.1,s.2.1,s.2.2]) (λr hr L s m=>by
  have k:=bR (fs:=stT [(stN 0),(stN 1)]) (fe:=(bM (aA (eV 0) (aA (e1 dNeg (rV 1)) aB)))) (Y0:=[none,none]) (d:=cellD) (g:=λc=>cellD (yO c)) (xs:=(mpR u1 r).c) λc _=>⟨_,rfl,by simp[cellD,yO]⟩
  have a:aH (.tuple ((mpR u1 r).c.map cellD))=.ok ((mpR u1 r).c.map cellD):=cR (by have:=(M.row r hr).2;have:=M.sg3;simp[mpR];ext)
  have e2:aO (jD (mpR u1 r))=.tuple [(mpR u1 r).r.d,.tuple ((mpR u1 r).c.map λc=>cellD (yO c)),(mpR u1 r).l.d]:=by
   unfold aO jD
   simp only[AZ];rfl
  refine⟨_,(some (.d (mpR u1 r).l.d),some (.d (.tuple ((mpR u1 r).c.map cellD))),some (.d (mpR u1 r).r.d)),rfl,?_⟩
  rw[e2]
  generalize (mpR u1 r).c.map cellD=q at *
  generalize ((mpR u1 r).c.map λc=>cellD (yO c))=n at *
  generalize aD rs=e at *
  unfold abF
  simp[a,k,cX,m]) [.tuple [.int 0,.tuple (replicate sg (.tuple [.int 0,.int 1])),(prT (· + 1) (rowAt rs 0).l).d]] (none,none,none) (by simp;ext)
 have a:aH (.list (rs.map λr=>aO (mpR u1 r)))=.ok (rs.map λr=>aO (mpR u1 r)):=cS (by rw[AB];ext)
 have b:aD (ab sg rs)=.tuple (.tuple [.int 0,.tuple (replicate sg (.tuple [.int 0,.int 1])),(prT (· + 1) (rowAt rs 0).l).d]::(rs.map λr=>aO (jD (mpR u1 r)))):=by
  unfold aD ab
  rw[AU,AZ]
  unfold aO
  rw[vY];rfl
 change dA _=.ok (.d (.list (rs.map λr=>aO (mpR u1 r))))at hr
 change dIx (.list (rs.map λr=>aO (mpR u1 r))) _=_ at x1
 unfold eR
 rw[b,m8]
 generalize (rs.map λr=>aO (jD (mpR u1 r)))=L1 at *
 generalize (rs.map λr=>aO (mpR u1 r))=L2 at *
 generalize aD rs=e at *
 generalize replicate sg (PyData.tuple [.int 0,.int 1])=RP at *
 simp at f1
 simp[hr,a,f1,x1,x2,j,f,h,i]
end
section
variable{rs:L9 Rw}{sg:Nat}
theorem qB(c:Int)(h:0 < k):∃ m:Nat,c % (k:Int)=m/\m < k:=by
 have a:=CT c (show(k:Int)≠0 by ext)
 have h1:=CF c (show 0 < (k:Int)by ext)
 exact⟨(c % k).toNat,(Int.toNat_of_nonneg a).symm,by ext⟩
theorem aNQ(x y z:Dz)(i:Int):∃ w,dIx (.list [x,y,z]) (.int (i % 3))=.ok w/\(w=x\/w=y\/w=z):=by
 have:i % 3=0\/i % 3=1\/i % 3=2:=by ext
 rcases this with e|e|e<;>rw[e]
 · exact⟨x, aCU _ _, .inl rfl⟩
 · exact⟨y, aJY _ _ _, .inr (.inl rfl)⟩
 · exact⟨z, j6 (c8 (j := 2) rfl), .inr (.inr rfl)⟩
theorem aFU{t:Tn}(h:t.good n):t.good ((n+k:Nat):Int):=by
 cases t with
 | n q=>exact⟨h.1,Int.lt_of_lt_of_le h.2 (Int.ofNat_le.mpr (BP n k))⟩
 | w x=>exact h
theorem aXG(M:Mach rs sg)(h2:rs.length<=2)(c:Int):∃ ex,fP [.d (aD rs),.d (.int c)]=.ok (.d (aD (rs++ex)))/\Mach (rs++ex) sg/\∀ r∈ex,∃ p:Int,r.c=replicate sg (p,1):=by
 have h1:=M.len
 obtain⟨m,D,X⟩:=qB c (k:=4) (by decide)
 obtain⟨p,H,B⟩:=qB (c / 4) (A0 h1 (BP _ m))
 have o:(Tn.n (p:Int)).good ((rs.length+m:Nat):Int):=⟨GR _,HI.mpr B⟩
 obtain⟨w,P,t⟩:=aNQ (.str "by") (.str "out") (.int p) (c / 64)
 obtain⟨a,rfl,Q⟩:∃ a:Tn,w=a.d/\a.good ((rs.length+m:Nat):Int):=by
  rcases t with e|e|e
  .exact ⟨.w "by",e,.inl rfl⟩
  .exact ⟨.w "out",e,.inr rfl⟩
  .exact ⟨.n p,e,o⟩
 have g:dLen (aD rs)=.ok (.int rs.length):=by unfold aD;rw[oP,AB]
 obtain⟨Y,V,Z,F,K⟩:=aHL M
 have f:=aHK (.tuple [.int p,.int 1]) M.sg3
 have T:dMod (.int (c / 4)) (.int ((rs.length:Int)+m))=.ok (.int p):=(b8 (j:=((rs.length+m:Nat):Int)) (HI.mpr (A0 h1 (BP _ m)))).trans (CQ (λx=>R.ok (PyData.int x)) H)
 have z:dDiv (.int c) (.int 4)=.ok (.int (c / 4)):=f8 (by decide) (by decide)
 have q:dDiv (.int c) (.int 64)=.ok (.int (c / 64)):=f8 (by decide) (by decide)
 have W:dMod (.int (c / 64)) (.int 3)=.ok (.int (c / 64 % 3)):=b8 (by decide)
 have A:dMod (.int c) (.int 4)=.ok (.int m):=by rw[b8 (by decide)];exact CQ (λx=>R.ok (PyData.int x)) D
 obtain⟨s',ex,f1,i,y⟩:=aAV (fs:=stN 4) (fb:=pdF) (d:=λk:Nat=>.int (k:Int)) (e:=aO) (G:=λr=>r.good ((rs.length+m:Nat):Int)/\r.c=replicate sg ((p:Int),1)) (xs:=range m) (R':=λL (s:T3)=>[some (.d (aD rs)),some (.d (.int c)),some (.l L),some (.d (.int (m:Int))),s.1,s.2.1,s.2.2]) (λk _ L s E=>by
  obtain⟨w,t,v⟩:=aJ1 (.str "out") (.int p) k
  obtain⟨b,rfl,S⟩:∃ b:Tn,w=b.d/\b.good ((rs.length+m:Nat):Int):=v.elim (λe=>⟨.w "out",e,.inr rfl⟩) λe=>⟨.n p,e,o⟩
  refine⟨_,(some (.d (.int k)),some (.d (.int p)),some (.d (.tuple (replicate sg (.tuple [.int p,.int 1]))))),⟨a,replicate sg ((p:Int),1),b⟩,rfl,?_,⟨Q,S,λx h=>by rw[(GP.mp h).2];exact⟨o.1,o.2,.inl rfl⟩⟩,rfl⟩
  have U:aO ⟨a,replicate sg ((p:Int),1),b⟩=.tuple [a.d,.tuple (replicate sg (.tuple [.int p,.int 1])),b.d]:=by
   unfold aO
   rw[vY]
  have O:dMod (.int (k:Int)) (.int 2)=.ok (.int ((k:Int) % 2)):=b8 (by decide)
  rw[U]
  generalize aD rs=J at *
  generalize replicate sg (PyData.tuple [.int p,.int 1])=RP at *
  unfold pdF
  simp[g,V,F,K,T,z,q,W,O,f,P,t,E]) (rs.map aO) (none,none,none) (by simp;ext)
 rw[BB]at i
 have I:(rs++ex).length=rs.length+m:=by rw[AY,i]
 refine⟨ex,?_,⟨by ext,by ext,M.sg1,M.sg3,λr hr=>?_⟩,λr hr=>⟨p,(y r hr).2⟩⟩
 .have hr:=w9 (n:=m) (by ext)
  have i:dLst (aD rs)=.ok (rs.map aO):=id rfl
  unfold fP
  rw[lR,show aD (rs++ex)=.tuple (rs.map aO++ex.map aO)by unfold aD;rw[BE]]
  generalize aD rs=J at *
  generalize rs.map aO=L1 at *
  generalize ex.map aO=L2 at *
  simp[i,A,hr,f1]
 .rw[I]
  rcases BD.mp hr with hr|hr
  .obtain ⟨⟨C,N,u⟩,l⟩:=M.row r hr
   exact⟨⟨aFU C,aFU N,λx h=>⟨(u x h).1,Int.lt_of_lt_of_le (u x h).2.1 (Int.ofNat_le.mpr (BP _ m)),(u x h).2.2⟩⟩,l⟩
  .exact ⟨(y r hr).1,by rw[(y r hr).2,DQ]⟩
def vZ(n m:Nat):L9 Nat:=0::(((range (n - 1)).map (· + 1)).drop m++((range (n - 1)).map (· + 1)).take m)
theorem aVP{m:Nat}(h:1<=n):Od (vZ n m) n:=by
 have a:List.Perm (((range (n - 1)).map (· + 1)).drop m++((range (n - 1)).map (· + 1)).take m) ((range (n - 1)).map (· + 1)):=List.perm_append_comm.trans (by rw[FQ])
 have c:∀ q,q∈((range (n - 1)).map (· + 1)).drop m++((range (n - 1)).map (· + 1)).take m↔1<=q/\q < n:=λq=>by
  rw[a.mem_iff,AT]
  constructor
  · rintro ⟨j, hj, rfl⟩; rw [BC]at hj; ext
  · intro b; exact⟨q - 1, BC.mpr (by ext), by ext⟩
 unfold vZ
 refine⟨by rw[A7,a.length_eq];simp;ext,λq b=>?_,λq b=>?_,by simp,C9.mpr ⟨λh=>by have:=(c 0).mp h;ext,a.nodup_iff.mpr ?_⟩⟩
 .rw[AW,c];ext
 .rw[AW,c]at b;ext
 .exact G1.mpr (List.nodup_range.imp λh e=>h (by ext))
def iD(q:Nat):Dz:=.int (q:Int)
theorem aXH{od:L9 Nat}(O:Od od n)(c:n<=1000){q:Int}(h0:0<=q)(h1:q < n):zA (.list (od.map iD)) (.int q)=.ok (.int (ps od q)):=by
 unfold zA
 dsimp only
 rw[AN ⟨eF q,Sh.shaped (n:=1) (sh_lst λx b=>by obtain⟨i,_,rfl⟩:=AT.mp b;exact oE _ _) (by decide),by rw[AB,O.len];ext⟩]
 have h:=DO (O.mem q.toNat (by ext))
 have a:(od.map iD).findIdx? (λy=>PyData.eqv y (.int q))=some (od.idxOf q.toNat):=by
  rw[List.findIdx?_map]
  have a:((λy=>PyData.eqv y (.int q))∘iD)=λy=>y == q.toNat:=by
   funext y
   show PyData.eqv (.int (y:Int)) (.int q)=_
   rw[aEI rfl rfl]
   by_cases e:y=q.toNat
   · rw [A1 (by congr 1; ext), beq_iff_eq.mpr e]
   · rw [BA (by intro h; injection h with h; ext), DR e]
  rw[a]
  exact List.findIdx?_eq_some_iff_findIdx_eq.mpr ⟨h,rfl⟩
 rw[a];rfl
abbrev T5:=O9 A×O9 A×O9 A×O9 A×O9 A
theorem lr2(n1:1<=n)(a:n<=1000):aCM (.int 1) (.int (n:Int))=.ok (((range (n - 1)).map (· + 1)).map iD):=by
 show(if (0:Int)<=1/\(1:Int)<=n/\(n:Int)<=1000000 then R.ok _ else R.bad)=_
 rw[AN (by ext),show((n:Int) - 1).toNat=n - 1 by ext,AZ]
 congr 1
 refine A9 λi _=>?_
 show PyData.int _=PyData.int _
 congr 1
 show(1:Int)+(i:Int)=((i+1:Nat):Int)
 ext
theorem aXI(M:Mach rs sg)(z:rs.length<=1000)(c:Int):∃ od,dW [.d (aD rs),.d (.int c)]=.ok (.d (aD (pr od rs)))/\Od od rs.length:=by
 have n1:=M.len
 obtain⟨n,p⟩:∃ n,rs.length=n:=⟨_,rfl⟩
 rw[p]at n1 z
 have E:=lr2 n1 z
 have u:dLen (aD rs)=.ok (.int (n:Int)):=by unfold aD;rw[oP,AB,p]
 obtain⟨m,A,k⟩:∃ m:Nat,dMod (.int c) (.int (n:Int))=.ok (.int (m:Int))/\m<=n - 1:=by
  obtain⟨m,A,T⟩:=qB c n1
  exact⟨m,by rw[b8 (HI.mpr n1),A],Nat.le_pred_of_lt T⟩
 have Y:kI (((range (n - 1)).map (· + 1)).map iD) (some (m:Int)) none=(((range (n - 1)).map (· + 1)).drop m).map iD:=by
  unfold kI
  rw[HT.aD6,HT.aA4,AB,AB,BB,HU k,EE (by simp),List.map_drop]
 have W:kI (((range (n - 1)).map (· + 1)).map iD) none (some (m:Int))=(((range (n - 1)).map (· + 1)).take m).map iD:=by
  unfold kI
  rw[HT.aD6,HT.aA4,AB,AB,BB,HU k,List.drop_zero,Nat.sub_zero,List.map_take]
 have U:lN (.list [.int 0]) (.list ((((range (n - 1)).map (· + 1)).drop m).map iD))=.ok (.int 0::(((range (n - 1)).map (· + 1)).drop m).map iD):=aHM (by simp;ext)
 have N:lN (.list (.int 0::(((range (n - 1)).map (· + 1)).drop m).map iD)) (.list ((((range (n - 1)).map (· + 1)).take m).map iD))=.ok ((vZ n m).map iD):=by
  rw[aHM (by simp;ext)]
  unfold vZ
  rw[AU,BE];rfl
 have O:=aVP (m:=m) n1
 refine⟨vZ n m,?_,p▸O⟩
 have B:(((range (n - 1)).map (· + 1)).map iD).length<=16777216:=by simp;ext
 have v:((vZ n m).map iD).length<=16777216:=by rw[AB,O.len];exact A2 z (by decide)
 generalize ((range (n - 1)).map (· + 1)).map iD=Z at *
 generalize (((range (n - 1)).map (· + 1)).drop m).map iD=LA at *
 generalize (((range (n - 1)).map (· + 1)).take m).map iD=LB at *
 generalize vZ n m=od at *
 obtain⟨s',f1⟩:=xM (fs:=stN 5) (fb:=rnF) (d:=iD) (g:=λq:Nat=>aO (mpR (ps od) (rowAt rs q))) (xs:=od) (R':=λL (s:T5)=>[some (.d (aD rs)),some (.d (.int c)),some (.d (.list (od.map iD))),some (.d (.int (m:Int))),some (.l L),s.1,s.2.1,s.2.2.1,s.2.2.2.1,s.2.2.2.2]) (λq S L s R=>by
  have D:=O.lt q S
  have J:=GR q
  have F:(q:Int) < rs.length:=by rw[p];exact HI.mpr D
  have hr:=bL J F
  have j:=M.row _ (AH hr)
  have o:dIx (aD rs) (.int (q:Int))=.ok (aO (rowAt rs q)):=rN J F
  generalize rowAt rs (q:Int)=r at *
  obtain⟨⟨H,G,K⟩,gl⟩:=j
  rw[p]at H G K
  have a:=λ(i:Int) h0 h1=>aXH (q:=i) O z h0 h1
  have I:∀ t:Tn,t.good (n:Int)->(eIf (e1 asB (e1 (g9 "str") (rV 0))) (eV 0) (rY (rV 1) (rV 0))) [some (.d t.d),some (.d (.list (od.map iD)))]=.ok (prT (ps od) t).d:=λt e=>by
   cases t with
   | n i=>have:=a i e.1 e.2;simp[Tn.d,rM,aOQ,prT,this]
   | w x=>simp[Tn.d,oS,prT]
  have C:=bR (fs:=stT [(stN 0),(stN 1)]) (fe:=(bM (aA (rY (rV 2) (rV 0)) (aA (eV 1) aB)))) (Y0:=[none,none,some (.d (.list (od.map iD)))]) (d:=cellD) (g:=λc=>cellD (ps od c.1,c.2)) (xs:=r.c) λc C=>⟨_,rfl,by
   obtain⟨P,Q,_⟩:=K c C
   have:=a c.1 P Q
   simp[cellD,aOQ,this]⟩
  have f:=bR (fs:=stN 0) (fe:=(eIf (e1 asB (e1 (g9 "str") (rV 0))) (eV 0) (rY (rV 1) (rV 0)))) (Y0:=[none,some (.d (.list (od.map iD)))]) (d:=Tn.d) (g:=λt=>(prT (ps od) t).d) (xs:=[r.l,r.r]) λt e=>⟨_,rfl,by
   rcases AW.mp e with rfl|e
   · exact I _ H
   · rw [AM.mp e]; exact I _ G⟩
  have b:aH (.tuple (r.c.map cellD))=.ok (r.c.map cellD):=cR (by have:=M.sg3;rw[AB];ext)
  have h:aH (.tuple [r.l.d,r.r.d])=.ok [r.l.d,r.r.d]:=cR (by simp)
  refine⟨_,(some (.d (iD q)),some (.d r.l.d),some (.d (.tuple (r.c.map cellD))),some (.d r.r.d),some (.l [(prT (ps od) r.l).d,(prT (ps od) r.r).d])),rfl,?_⟩
  rw[aKT]
  simp only[AU,BS]at f
  unfold rnF
  rw[show aO r=.tuple [r.l.d,.tuple (r.c.map cellD),r.r.d]from rfl]at o
  generalize r.c.map cellD=C1 at *
  generalize (r.c.map λc=>cellD (ps od c.1,c.2))=C2 at *
  generalize aD rs=V at *
  generalize od.map iD=X at *
  simp[iD,o,h,cX,f,b,C,R]) [] (none,none,none,none,none) (by rw[O.len];simp;ext)
 have b:aH (.list (od.map iD))=.ok (od.map iD):=cS v
 have y:aD (pr od rs)=.tuple (od.map λq:Nat=>aO (mpR (ps od) (rowAt rs q))):=by
  unfold aD pr
  rw[AZ];rfl
 unfold dW
 rw[y,jS]
 generalize (od.map λq:Nat=>aO (mpR (ps od) (rowAt rs q)))=L1 at *
 generalize od.map iD=X at *
 generalize aD rs=V at *
 simp[u,E,A,aWR,Y,W,U,N,b,f1,B,v]
end
theorem aVQ(M:Mach rs sg)(E:EndW rs sg 200 N)(hN:N<=200)(h:¬ 200 < (bfW rs sg N).length):dR [.d (aD rs)]=.ok (.d (aHE rs sg N)):=by
 have O:=aRY M E hN
 have e:=aMY O
 obtain⟨r,t,i,hr⟩:=M.cons
 have k:eE [.d (aD rs)]=.ok (.d (.int sg)):=by rw[i,aFA,hr]
 have j:=iM (n:=sg) (by have:=M.sg3;ext)
 have l:=aUT M [some (.d (aD rs)),none,none,none,none] rfl
 rw[show cX [none,some 0] [some (.d (aD rs)),none,none,none,none]=[none,some (.d (aD rs))]from rfl]at l
 have s:=aWV M
 have Zq:=rW M N (by ext)
 have b:=bR (fs:=stN 0) (fe:=eA (aG 2 dB (aA (vV 1) (aA (vV 0) aB)))) (Y0:=[none,some (.d (aD rs))]) (d:=aV rs) (g:=λz=>.str (bO rs z)) (xs:=zsW rs sg N) λz p=>by
  refine⟨_,rfl,?_⟩
  have:=aU1 M (Zq.ok z p).1
  simp[this]
 rw[Zq.map]at b
 have m:=aFQ M E (by ext)
 have f:=cS (xs:=bfW rs sg N) (by ext)
 have e:cW [.d (aV rs []),.g 4 1 (cB 2 gM [.d (.list ((range sg).map (eP rs)))]),.g 1 2 (cB 2 iB [])]=.ok (.d (.tuple [.list (bfW rs sg N),.list (bT (afW rs sg) (bfW rs sg N) N)])):=e
 generalize a:bT (afW rs sg) (bfW rs sg N) N=c at e
 have u:c.length<=16777216:=by rw[<-a];unfold bT;rw[AB,B2];ext
 have q:dIx (.tuple [.list (bfW rs sg N),.list c]) (.int 0)=.ok (.list (bfW rs sg N)):=rfl
 have i1:dIx (.tuple [.list (bfW rs sg N),.list c]) (.int 1)=.ok (.list c):=rfl
 have v:(zsW rs sg N).length<=16777216:=by
  have:((zsW rs sg N).map (aV rs)).length<=16777216:=by rw[Zq.map];ext
  ext
 have o:¬ (200:Int) < ((bfW rs sg N).length:Int):=by ext
 change cW [_,.g 4 1 (cB 2 fA _),.g 1 2 (cB 2 iY _)]=_ at e
 unfold dR oC aHE
 rw[a]
 simp[k,j,l,s,nN,iI,lX,pN,eK,nO,e,dOf,q,i1,i3,o,f,cX,b]
theorem xN(W:Wy rs sg N)(E:EndW rs sg 200 N):dR [.d (aD rs)]=.ok (.d (rdW (wRows rs sg N) (wWords rs sg N))):=by
 have h:=aVQ W.m E W.n (by have:=W.len;have:=W.n;ext)
 rw[aVE W]at h
 exact h
theorem aAM(h1:1<=n)(a:n<=3){D:Dz}:∀ (cs:L9 Nat) (k:Nat) (u3 u4:O9 A),(∀ c∈cs,aY n c=true)->∃ u3' u4',
  fH (stT [stN 3,stN 4]) (sIf (e1 asB (e2 dNin (rV 4) (rV 2))) yH sNx) (kJ k (cs.map λu=>.str ⟨#[u]⟩)) [some (.d (.int n)),some (.d D),some (.d (.str (Txt.slice "abc" none (some (n:Int))))),u3,u4]=.ok (.nx [some (.d (.int n)),some (.d D),some (.d (.str (Txt.slice "abc" none (some (n:Int))))),u3',u4'])
 | [],k,u3,u4,_=>⟨u3,u4,rfl⟩
 | c::t,k,u3,u4,h=>by
  have hin:dNin (.str ⟨#[c]⟩) (.str (Txt.slice "abc" none (some (n:Int))))=.ok (.bool (!aY n c)):=by
   show R.ok (PyData.bool (!_))=_
   rw[aLK h1 a]
  rw[h c AX]at hin
  obtain⟨u3',u4',q⟩:=aAM h1 a (D:=D) t (k+1) (some (.d (.int k))) (some (.d (.str ⟨#[c]⟩))) λx b=>h x (AQ _ b)
  refine⟨u3',u4',?_⟩
  rw[AU,kJ]
  unfold fH
  simp[hin,q]
theorem aVR(s1:1<=sg)(c:sg<=3){z:Str}(S:aK sg z.cps.toList):iU [.d (.int sg),.d (.str z)]=.ok (.d (.str z)):=by
 have a:dSl (.str "abc") none (some (sg:Int))=.ok (.str (Txt.slice "abc" none (some (sg:Int)))):=aWS (by decide)
 have b:xD (.str z)=.ok (kJ 0 (z.cps.toList.map λu=>.str ⟨#[u]⟩)):=by
  show(if z.cps.toList.length<=16777216 then R.ok _ else .bad)=_
  exact AN (by have:=S.1;ext)
 obtain⟨e,f,q⟩:=aAM s1 c (D:=.str z) z.cps.toList 0 none none S.2
 simp only[iU,oY,mS,cF,yM,aG6,aUE,l5,aUF,aUG,tE,aOE,tG,w4,w5,a,b,q,aE6,R.bind_ok,AU,BS,CY,CC,A7,CS,Nat.reduceAdd,Nat.reduceSub,replicate,BH,BG,CM,B6]
def prI(p:Int×Int):Dz:=.tuple [.int p.1,.int p.2]
theorem aKV(bs:L9 Bool):pF (bs.map .bool)=some bs:=by
 induction bs with
 | nil=>rfl
 | cons b t ih=>rw[AU,pF,ih];rfl
theorem aNR(bs:L9 Bool):dAll (.list (bs.map .bool))=.ok (.bool (bs.all id)):=by
 unfold dAll;simp only;rw[aKV]
theorem aKW(a:L9 (Dz×Dz))(k v:Dz):(∀ x,x∈(putM a k v).map (·.1)↔x∈a.map (·.1)\/x=k)/\(putM a k v).length<=a.length+1:=by
 unfold putM
 split
 .rename_i h
  have b:=kK.mp h
  have c:(a.map λp=>if p.1=k then(p.1,v)else p).map (·.1)=a.map (·.1):=by
   rw[AZ]
   refine A9 λp _=>?_
   show(if p.1=k then(p.1,v)else p).1=p.1
   split<;>rfl
  refine⟨λx=>?_,by rw[AB];ext⟩
  rw[c]
  exact⟨.inl,λq=>q.elim id λe=>e▸b⟩
 .refine ⟨λx=>?_,by rw[AY];exact AK _⟩
  rw[BE,BD]
  exact⟨λq=>q.imp id λe=>AM.mp e,λq=>q.imp id λe=>AM.mpr e⟩
theorem aR8(ps:L9 (Int×Int)):∀ (cb:L9 (Dz×Dz)),(∀ x∈cb.map (·.1),fF x=true)->cb.length+ps.length<=100000->
  ∃ a0,Fl.cI cb (ps.map λp=>(prI p,PyData.bool true))=.ok a0/\a0.length<=cb.length+ps.length/\∀ x,x∈a0.map (·.1)↔x∈cb.map (·.1)\/x∈ps.map prI:=by
 induction ps with
 | nil=>intro cb _ _;exact⟨cb,rfl,AK _,λx=>⟨.inl,λq=>q.elim id λh=>by cases h⟩⟩
 | cons p t ih=>
  intro cb a b
  rw[A7]at b
  obtain⟨k1,k2⟩:=aKW cb (prI p) (.bool true)
  obtain⟨a0,e1,e2,f⟩:=ih (putM cb (prI p) (.bool true)) (λx c=>by
   rcases(k1 x).mp c with q|q
   .exact a x q
   .rw[q];rfl) (by ext)
  refine⟨a0,?_,by rw[A7];ext,λx=>?_⟩
  .have d:bH (prI p) (cb.map (·.1))=true:=by
    unfold bH
    rw[CU,A4]
    exact .inl ⟨rfl,BO.mpr a⟩
   rw[AU,Fl.cI,AN ⟨d,by ext⟩]
   exact e1
  .rw[f,k1,AU,AW]
   exact⟨λq=>q.elim (λq=>q.elim .inl λe=>.inr (.inl e)) λe=>.inr (.inr e),λq=>q.elim (λe=>.inl (.inl e)) λq=>q.elim (λe=>.inl (.inr e)) .inr⟩
theorem aNS(ps:L9 (Int×Int)):Fl.kX (ps.map λp=>PyData.tuple [prI p,.bool true])=some (ps.map λp=>(prI p,PyData.bool true)):=by
 induction ps with
 | nil=>rfl
 | cons p t ih=>rw[AU,Fl.kX,ih];rfl
@[simp] theorem aXR(i:Nat)(f:Sg->R (L9 Dz))(Y:Sg):aDO i f Y=(f Y).bind λds=>match Fl.kX ds with|some a0=>(Fl.cI [] a0).bind λres=>.ok (.nx (Y.set i (some (.m res))))|none=>.bad:=id rfl
section
variable{r1 r2:L9 (L9 Nat)}{w1 w2:L9 Str}{sg:Nat}
theorem aR9{M:Rdw r1 w1 sg}{q:Nat}(a:q < r1.length):dLen (bP (r1.getD q []))=.ok (.int (sg:Int)):=by
 unfold bP
 rw[oP,AB,(M.r.at a).2.1]
theorem xO(M1:Rdw r1 w1 sg):eY [.d (rdW r1 w1)]=.ok (.d (.int (sg:Int))):=by
 have b:dIx (rdW r1 w1) (.int 0)=.ok (.tuple (r1.map bP)):=rfl
 have i1:=tO (ws:=w1.map .str) M1.r (q:=0) M1.r.n1
 have a:=aR9 (M:=M1) (q:=0) M1.r.n1
 have i1:dIx (.tuple (r1.map bP)) (.int 0)=.ok (bP (r1.getD 0 [])):=i1
 unfold eY wY
 simp_all
def Pd(r1 r2:L9 (L9 Nat))(w1 w2:L9 Str)(a b:Nat)(z:L9 Nat):Prop:=w1.getD (runN r1 a z) ""≠w2.getD (runN r2 b z) ""
theorem aKX(M1:Rdw r1 w1 sg)(M2:Rdw r2 w2 sg){a:Nat}(F:a < r1.length)(hb:b < r2.length) :
  (p4 r1 r2 w1 w2 a b=none/\∀ z,Sgs sg z->¬ Pd r1 r2 w1 w2 a b z)\/∃ z,p4 r1 r2 w1 w2 a b=some z/\Sgs sg z/\Pd r1 r2 w1 w2 a b z/\∀ y,Sgs sg y->Pd r1 r2 w1 w2 a b y->z=y\/sl z y:=by
 have E:=tQ M1.r M2.r F hb (r1.length * r2.length)
 have e:∀ x∈bfQ (afP r1 r2) (prN a b) (r1.length * r2.length),(afP r1 r2 x).length=sg:=λx u=>by
  obtain⟨c,d,N,K,rfl⟩:=mC M1.r M2.r F hb u
  rw[tP,AB,EC,(M1.r.at N).2.1,(M2.r.at K).2.1];ext
 have f:=aRL (after:=afP r1 r2) (x0:=prN a b) E e
 have t:∀ z,Sgs sg z->(wnP w1 w2 (gC (afP r1 r2) (prN a b) z)=true↔Pd r1 r2 w1 w2 a b z):=λz v=>by
  rw[aKG M1.r M2.r z v F hb,aOK,decide_eq_true_iff];rfl
 obtain⟨h,_⟩:=aKF (after:=afP r1 r2) (x0:=prN a b) (r1.length * r2.length)
 have h:((y7 r1 r2 a b).map (·.2)).Pairwise sl:=h
 unfold p4
 cases A:(y7 r1 r2 a b).find? λp=>wnP w1 w2 p.1 with
 | none=>
  have C:=GN.mp A
  refine .inl ⟨rfl,λz v M=>?_⟩
  obtain⟨P,m,_⟩:=f z v
  exact C _ m ((t z v).mpr M)
 | some p=>
  obtain⟨x,z⟩:=p
  obtain⟨w,i,hi,u,Q⟩:=F9.mp A
  have s:(x,z)∈y7 r1 r2 a b:=G5 A
  have n:Sgs sg z:=aRO (after:=afP r1 r2) (x0:=prN a b) _ (λx u=>EZ (e x u)) _ s
  have l:gC (afP r1 r2) (prN a b) z=x:=aRM _ _ s
  have w:wnP w1 w2 x=true:=w
  rw[<-l]at w
  refine .inr ⟨z,rfl,n,(t z n).mp w,λy J L=>?_⟩
  obtain⟨B,m,o⟩:=f y J
  obtain⟨j,g⟩:=BQ m
  have g:(y7 r1 r2 a b)[j]? = some (gC (afP r1 r2) (prN a b) y,B):=g
  obtain⟨H,O⟩:=AJ.mp g
  have G:i<=j:=Nat.le_of_not_lt λI=>by
   ext
  have D:z=B\/sl z B:=by
   rcases Nat.lt_or_eq_of_le G with q|q
   .right
    have:=CL.mp h i j (by rw[AB];exact hi) (by rw[AB];exact H) q
    ext
   .grind
  rcases D with rfl|q
  .exact o
  .rcases o with rfl|k
   .grind
   .exact .inr (aHA q k)
def uR(r1 r2:L9 (L9 Nat)):L9 (L9 Nat):=r1++r2.map λr=>r.map (· + r1.length)
theorem o3:(uR r1 r2).length=r1.length+r2.length:=by unfold uR;rw[AY,AB]
theorem aYY(h:q < r1.length):(uR r1 r2).getD q []=r1.getD q []:=by
 unfold uR
 ext
theorem aYZ(h:q < r2.length):(uR r1 r2).getD (r1.length+q) []=(r2.getD q []).map (· + r1.length):=by
 unfold uR
 rw[AG,BX (by ext),HN,AC,AG,AI h];rfl
theorem aXJ(M1:Rdr r1 sg)(M2:Rdr r2 sg)(h:r1.length+r2.length<=1000):Rdr (uR r1 r2) sg:=by
 refine⟨by rw[o3];have:=M1.n1;ext,by rw[o3];exact h,M1.s1,M1.s3,λr hr=>?_⟩
 rw[o3]
 rcases BD.mp hr with q|q
 .exact ⟨(M1.row r q).1,λj b=>by have:=(M1.row r q).2 j b;ext⟩
 .obtain ⟨c,a,rfl⟩:=AT.mp q
  refine⟨by rw[AB];exact(M2.row c a).1,λj b=>?_⟩
  obtain⟨k,d,rfl⟩:=AT.mp b
  have:=(M2.row c a).2 k d
  ext
theorem aKY(M1:Rdr r1 sg):∀ (z:L9 Nat) {q:Nat},Sgs sg z->q < r1.length->runN (uR r1 r2) q z=runN r1 q z
 | [],_,_,_=>rfl
 | c::t,q,hs,h=>by
  have hc:=hs c AX
  have e:stN1 (uR r1 r2) q c=stN1 r1 q c:=by unfold stN1;rw[aYY h]
  show runN (uR r1 r2) (stN1 (uR r1 r2) q c) t=runN r1 (stN1 r1 q c) t
  rw[e]
  exact aKY M1 t (λc hc=>hs c (AQ _ hc)) (dN M1 h hc).2
theorem aKZ(M2:Rdr r2 sg):∀ (z:L9 Nat) {q:Nat},Sgs sg z->q < r2.length->runN (uR r1 r2) (r1.length+q) z=r1.length+runN r2 q z
 | [],_,_,_=>rfl
 | c::t,q,hs,h=>by
  have hc:=hs c AX
  have a:=(dN M2 h hc)
  have e:stN1 (uR r1 r2) (r1.length+q) c=r1.length+stN1 r2 q c:=by
   unfold stN1
   rw[aYZ h,AG,AC,a.1,DA,Option.getD_some]
   show stN1 r2 q c+r1.length=_
   unfold stN1
   rw[EY]
  show runN (uR r1 r2) (stN1 (uR r1 r2) (r1.length+q) c) t=r1.length+runN r2 (stN1 r2 q c) t
  rw[e]
  exact aKZ M2 t (λc hc=>hs c (AQ _ hc)) a.2
theorem aK0(M1:Rdw r1 w1 sg)(M2:Rdw r2 w2 sg)(h:r1.length+r2.length<=1000){a:Nat}(g:a < r1.length)(hb:b < r2.length)(hz:Sgs sg z)(k:Pd r1 r2 w1 w2 a b z) :
  ∃ w,Sgs sg w/\w.length+1<=r1.length+r2.length/\Pd r1 r2 w1 w2 a b w:=by
 have f:=M1.wl
 have d:∀ y,Sgs sg y->(w1++w2).getD (runN (uR r1 r2) a y) ""=w1.getD (runN r1 a y) "":=λy c=>by
  rw[aKY M1.r y c g,AG,BN (by rw[f];exact mD M1.r y c g),AG]
 have e:∀ y,Sgs sg y->(w1++w2).getD (runN (uR r1 r2) (r1.length+b) y) ""=w2.getD (runN r2 b y) "":=λy c=>by
  rw[aKZ M2.r y c hb,AG,BX (by ext),f,HN,AG]
 obtain⟨w,s1,j,i⟩:=aW2 (ws:=w1++w2) (aXJ M1.r M2.r h) (a:=a) (b:=r1.length+b) (by rw[o3];ext) (by rw[o3];ext) hz (by rw[d z hz,e z hz];exact k)
 rw[o3]at j
 rw[d w s1,e w s1]at i
 exact⟨w,s1,j,i⟩
def alP(r1 r2:L9 (L9 Nat)):L9 Dz:=bfQ (afP r1 r2) (prN 0 0) (r1.length * r2.length)
theorem F_prt9(M1:Rdw r1 w1 sg)(M2:Rdw r2 w2 sg)(hN:r1.length * r2.length<=100000) :
  (p4 r1 r2 w1 w2 0 0=none/\(∀ x∈alP r1 r2,wnP w1 w2 x=false)/\kM [.d (rdW r1 w1),.d (rdW r2 w2),.d (prN 0 0)]=.ok (.d (.tuple [.list (alP r1 r2),.none])))\/∃ fs z,p4 r1 r2 w1 w2 0 0=some z/\kM [.d (rdW r1 w1),.d (rdW r2 w2),.d (prN 0 0)]=.ok (.d (.tuple [.list fs,stD z])):=by
 have b:=M1.r.n1
 have f:=M2.r.n1
 have b:0 < r1.length:=b
 have f:0 < r2.length:=f
 have m:=tQ M1.r M2.r b f (r1.length * r2.length)
 have s3:=M1.r.s3
 have O:FtoC (afP r1 r2) (prN 0 0) (wnP w1 w2) 2 2 (cB 3 dU [.d (rdW r1 w1),.d (rdW r2 w2)]) (cB 3 dI [.d (rdW r1 w1),.d (rdW r2 w2)]) (r1.length * r2.length):={
  cl:=m
  hM:=hN
  key:=.inl λx a=>by obtain⟨c,d,_,_,rfl⟩:=mC M1.r M2.r b f a;rfl
  hk1:=by decide
  hk2:=by decide
  hG:=λx a=>by
   obtain⟨c,d,k,n,rfl⟩:=mC M1.r M2.r b f a
   have q:(afP r1 r2 (prN c d)).length<=3:=by
    rw[tP,AB,EC,(M1.r.at k).2.1];ext
   refine⟨⟨.list (afP r1 r2 (prN c d)),?_,cS (by ext)⟩,q⟩
   have e:=aOL M1 M2 k n
   unfold cB dU
   simp[e,dOf]
  hW:=λx a=>by
   obtain⟨c,d,k,n,rfl⟩:=mC M1.r M2.r b f a
   have e:=aOM M1 M2 k n
   unfold cB dI
   simp[e,dOf]}
 have run:∀ r fs,dQ [.d (prN 0 0),.g 2 1 (cB 3 dU [.d (rdW r1 w1),.d (rdW r2 w2)]),.g 2 1 (cB 3 dI [.d (rdW r1 w1),.d (rdW r2 w2)])]=.ok (.d (.tuple [.list fs,r]))->kM [.d (rdW r1 w1),.d (rdW r2 w2),.d (prN 0 0)]=.ok (.d (.tuple [.list fs,r])):=λr fs e=>by
  unfold kM vF
  simp[nN,iI,lX,pN,eK,nO,e,dOf]
 rcases F_ftoC O with ⟨h,e⟩|⟨i,x,z,fs,h1,h2,s,e⟩
 .refine .inl ⟨?_,λx a=>?_,run _ _ e⟩
  .unfold p4
   rw[GN.mpr λp o=>by rw[h p o];exact BR];rfl
  .unfold alP at a
   rw[<-eI]at a
   obtain⟨p,o,rfl⟩:=AT.mp a
   exact h p o
 .refine .inr ⟨fs,z,?_,run _ _ e⟩
  have:(y7 r1 r2 0 0).find? (λp=>wnP w1 w2 p.1)=some (x,z):=by
   obtain⟨hi,a⟩:=AJ.mp h1
   refine F9.mpr ⟨h2,i,hi,a,λj l=>?_⟩
   have this:wnP w1 w2 ((bfP (afP r1 r2) (prN 0 0) (r1.length * r2.length))[j]'(CV l hi)).1=false:=s j _ _ l (AI (CV l hi))
   show(!wnP w1 w2 ((bfP (afP r1 r2) (prN 0 0) (r1.length * r2.length))[j]'(CV l hi)).1)=true
   rw[this];rfl
  unfold p4
  rw[this];rfl
theorem F_held9(M1:Rdw r1 w1 sg)(M2:Rdw r2 w2 sg)(hN:r1.length * r2.length<=100000) :
  (p4 r1 r2 w1 w2 0 0=none/\(∀ x∈alP r1 r2,wnP w1 w2 x=false)/\jG [.d (rdW r1 w1),.d (rdW r2 w2)]=.ok (.d (.tuple [.str "alike",.list (alP r1 r2)])))\/∃ z,p4 r1 r2 w1 w2 0 0=some z/\jG [.d (rdW r1 w1),.d (rdW r2 w2)]=.ok (.d (.tuple [.str "unlike",stD z])):=by
 have c:=xO M1
 have h:=xO M2
 have f:dNe (.int (sg:Int)) (.int (sg:Int))=.ok (.bool false):=rP (eF _)
 have k:PyData.tuple [.int 0,.int 0]=prN 0 0:=rfl
 have i:∀ a b:Dz,dIx (.tuple [a,b]) (.int 0)=.ok a:=λ_ _=>rfl
 have i1:∀ a b:Dz,dIx (.tuple [a,b]) (.int 1)=.ok b:=λ_ _=>rfl
 have j:iA .none=true:=rfl
 rcases F_prt9 M1 M2 hN with ⟨h1,h2,e⟩|⟨fs,z,h1,e⟩
 .refine .inl ⟨h1,h2,?_⟩
  unfold jG vN
  simp_all
 .refine .inr ⟨z,h1,?_⟩
  have g:iA (stD z)=false:=rfl
  unfold jG vN
  simp[c,h,f,k,e,i,i1,g]
theorem aXK(M1:Rdw r1 w1 sg)(M2:Rdw r2 w2 sg):∃ ps:L9 (Int×Int),alP r1 r2=ps.map prI/\ps.length<=r1.length * r2.length/\(∀ p∈ps,∃ c d:Nat,p=((c:Int),(d:Int))/\c < r1.length/\d < r2.length):=by
 have i:0 < r1.length:=M1.r.n1
 have j:0 < r2.length:=M2.r.n1
 have n:∀ x∈alP r1 r2,∃ c d:Nat,c < r1.length/\d < r2.length/\x=prN c d:=λx k=>mC M1.r M2.r i j k
 have m:(alP r1 r2).length<=r1.length * r2.length:=tQ M1.r M2.r i j _
 have a:∀ l:L9 Dz,(∀ x∈l,∃ c d:Nat,c < r1.length/\d < r2.length/\x=prN c d)->∃ ps:L9 (Int×Int),l=ps.map prI/\(∀ p∈ps,∃ c d:Nat,p=((c:Int),(d:Int))/\c < r1.length/\d < r2.length):=by
  intro l
  induction l with
  | nil=>exact λ_=>⟨[],rfl,λp h=>by cases h⟩
  | cons x t ih=>
   intro h
   obtain⟨ps,e,b⟩:=ih λy o=>h y (AQ _ o)
   obtain⟨c,d,s,u,rfl⟩:=h x AX
   refine⟨((c:Int),(d:Int))::ps,by rw[AU,e];rfl,λp g=>?_⟩
   rcases AW.mp g with rfl|q
   · exact⟨c, d, rfl, s, u⟩
   · exact b p q
 obtain⟨ps,e,b⟩:=a _ n
 exact⟨ps,e,by rw[<-List.length_map (f:=prI),<-e];exact m,b⟩
theorem aY0:prI (0,0)∈alP r1 r2:=AH (pW (afP r1 r2) (prN 0 0) _)
theorem aXL(M1:Rdw r1 w1 sg)(M2:Rdw r2 w2 sg){d:Nat}(a:c < r1.length)(b:d < r2.length):k9 [.d (rdW r1 w1),.d (rdW r2 w2),.d (prN c d)]=.ok (.d (.bool true)):=by
 unfold k9 uF
 simp[rdW,rdD,prN,oP,a,b]
def saρ(r1 r2:L9 (L9 Nat))(w1 w2:L9 Str)(P:Dz)(a0:L9 (Dz×Dz))(u:O9 A):Sg:=[some (.d (rdW r1 w1)),some (.d (rdW r2 w2)),some (.d P),some (.f a0),u]
theorem aVS(M1:Rdw r1 w1 sg)(M2:Rdw r2 w2 sg){P:Dz}{d:Nat}(i:c < r1.length)(k:d < r2.length)(l:∀ x∈a.map (·.1),fF x=true)(hw:wnP w1 w2 (prN c d)=false)(h:∀ y∈afP r1 r2 (prN c d),y∈a.map (·.1)) :
  saB (saρ r1 r2 w1 w2 P a (some (.d (prN c d))))=.ok (.nx (saρ r1 r2 w1 w2 P a (some (.d (prN c d))))):=by
 have q:=aXL M1 M2 i k
 have n:=aOM M1 M2 i k
 rw[hw]at n
 have o:=aOL M1 M2 i k
 have s:(afP r1 r2 (prN c d)).length<=3:=by
  have:=M1.r.s3
  rw[tP,AB,EC,(M1.r.at i).2.1];ext
 have e:=bR (fs:=stN 0) (fe:=jB false 1 (eV 0)) (Y0:=[none,some (.f a)]) (d:=λx:Dz=>x) (g:=λx:Dz=>PyData.bool true) (xs:=afP r1 r2 (prN c d)) λx m=>⟨_,rfl,by
  have p:bH x (a.map (·.1))=true:=by
   unfold bH
   rw[CU,A4]
   exact .inl ⟨l x (h x m),BO.mpr l⟩
  have t:bJ a x=true:=kK.mpr (h x m)
  rw[aE8]
  show(R.ok x).bind _=_
  rw[R.bind_ok]
  show(if bH x (a.map (·.1))=true then R.ok (PyData.bool (if false=true then _ else bJ a x))else R.bad)=_
  rw[AN p,AL BR,t]⟩
 rw[IM]at e
 have b:=aNR ((afP r1 r2 (prN c d)).map λx=>true)
 rw[AZ,List.all_map]at b
 have b:dAll (.list ((afP r1 r2 (prN c d)).map λx=>PyData.bool true))=.ok (.bool true):=b.trans (by congr 2;exact BO.mpr λ_ _=>rfl)
 have j:aH (.list (afP r1 r2 (prN c d)))=.ok (afP r1 r2 (prN c d)):=cS (by ext)
 generalize ((afP r1 r2 (prN c d)).map λx=>PyData.bool true)=L at b e
 simp[-aE8,saB,saρ,q,n,o,cX,j,e,b]
theorem aXM(M1:Rdw r1 w1 sg)(M2:Rdw r2 w2 sg)(hN:r1.length * r2.length<=100000)(h:∀ x∈alP r1 r2,wnP w1 w2 x=false):i9 [.d (rdW r1 w1),.d (rdW r2 w2),.d (.list (alP r1 r2))]=.ok (.d (.bool true)):=by
 obtain⟨ps,w,L,D⟩:=aXK M1 M2
 have C:prI (0,0)∈alP r1 r2:=aY0
 have k:∀ x∈alP r1 r2,∀ y∈afP r1 r2 x,y∈alP r1 r2:=λx b y t=>rT (tQ M1.r M2.r M1.r.n1 M2.r.n1 _) b t
 rw[w]at h C k ⊢
 obtain⟨a,e1,e2,f⟩:=aR8 ps [] (λx h=>by cases h) (by simp;ext)
 have f:∀ x,x∈a.map (·.1)↔x∈ps.map prI:=λx=>(f x).trans ⟨λq=>q.elim (λh=>by cases h) id,.inr⟩
 have e2:a.length<=100000:=by simp at e2;ext
 have B:∀ x∈a.map (·.1),fF x=true:=λx b=>by
  obtain⟨p,_,rfl⟩:=AT.mp ((f x).mp b);rfl
 have E:bH (prI (0,0)) (a.map (·.1))=true:=by
  unfold bH
  rw[CU,A4]
  exact .inl ⟨rfl,BO.mpr B⟩
 have H:bJ a (prI (0,0))=true:=kK.mpr ((f _).mpr C)
 have n:=xO M1
 have A:=xO M2
 have v:dNe (.int (sg:Int)) (.int (sg:Int))=.ok (.bool false):=rP (eF _)
 have o:aH (.list (ps.map prI))=.ok (ps.map prI):=cS (by rw[AB];ext)
 have l:=bR (fs:=stN 0) (fe:=bM (aA (eV 0) (aA (eC (.bool true)) aB))) (Y0:=[none]) (d:=prI) (g:=λp=>PyData.tuple [prI p,.bool true]) (xs:=ps) λp _=>⟨_,rfl,by simp⟩
 have j:=aNS ps
 generalize K:(ps.map λp=>PyData.tuple [prI p,.bool true])=J at l j
 obtain⟨I,m,u,rfl⟩:=gN (fs:=stN 4) (fb:=saB) (d:=λx:Dz=>x) (xs:=a.map (·.1)) (Y:=saρ r1 r2 w1 w2 (.list (ps.map prI)) a none) (λ_ Y=>∃ u,Y=saρ r1 r2 w1 w2 (.list (ps.map prI)) a u) ⟨none,rfl⟩ (λi x Y b z=>by
  obtain⟨u,e⟩:=z
  subst e
  have b:=(f x).mp (AH b)
  obtain⟨p,G,rfl⟩:=AT.mp b
  obtain⟨c,d,rfl,l,F⟩:=D p G
  exact⟨_,_,rfl,.inl (aVS M1 M2 l F B (h _ b) λy t=>(f y).mpr (k _ b y t)),_,rfl⟩)
 rw[IM]at m
 have s:PyData.tuple [.int 0,.int 0]=prI (0,0):=rfl
 unfold i9
 rw[qG]
 unfold saρ at m
 simp[n,A,v,o,cX,l,j,e1,s,E,H,fzM,e2,A2 e2 (show 100000<=16777216 by decide),m]
end
section
variable{a b:L9 Rw}{sg N1 N2:Nat}
theorem aK1(M:Mach a sg):eE [.d (aD a)]=.ok (.d (.int (sg:Int))):=by
 cases a with
 | nil=>exact absurd M.len (by simp)
 | cons r t=>rw[aFA,(M.row r AX).2]
theorem aK2(c:Wy a sg N1)(f:EndW a sg 200 N1)(e:Wy b sg N2)(g:EndW b sg 200 N2){d:Dz}(h:jG [.d (rdW (wRows a sg N1) (wWords a sg N1)),.d (rdW (wRows b sg N2) (wWords b sg N2))]=.ok (.d d)):eQ [.d (aD a),.d (aD b)]=.ok (.d d):=by
 have s1:=aK1 c.m
 have l:=aK1 e.m
 have i:dNe (.int (sg:Int)) (.int (sg:Int))=.ok (.bool false):=rP (eF _)
 have k:=xN c f
 have j:=xN e g
 unfold eQ r0
 simp_all
theorem F_cmp(c:Wy a sg N1)(r:EndW a sg 200 N1)(f:Wy b sg N2)(s:EndW b sg 200 N2) :
  (eQ [.d (aD a),.d (aD b)]=.ok (.d (.tuple [.str "alike",.list (alP (wRows a sg N1) (wRows b sg N2))]))/\(∀ x∈alP (wRows a sg N1) (wRows b sg N2),wnP (wWords a sg N1) (wWords b sg N2) x=false)/\EqX (wRows a sg N1) (wRows b sg N2) (wWords a sg N1) (wWords b sg N2) sg 0 0) \/
  ∃ z,eQ [.d (aD a),.d (aD b)]=.ok (.d (.tuple [.str "unlike",stD z]))/\aK sg z/\bO a z≠bO b z/\¬ EqX (wRows a sg N1) (wRows b sg N2) (wWords a sg N1) (wWords b sg N2) sg 0 0:=by
 have j:=c.rdw
 have R2:=f.rdw
 have k:=c.rows_len
 have l:=f.rows_len
 have p:=k▸c.pos
 have p2:=l▸f.pos
 have u:(wRows a sg N1).length * (wRows b sg N2).length<=100000:=by
  rw[k,l]
  exact A2 (IE c.n f.n) (by decide)
 have o:(wRows a sg N1).length+(wRows b sg N2).length<=1000:=by
  rw[k,l]
  exact A2 (Nat.add_le_add c.n f.n) (by decide)
 have m:=aKX j R2 (a:=0) (b:=0) p p2
 rcases F_held9 j R2 u with ⟨e1,h,e⟩|⟨z,e1,e⟩
 .refine .inl ⟨aK2 c r f s e,h,λw g=>?_⟩
  rcases m with ⟨_,q⟩|⟨z,q,_⟩
  .exact Decidable.not_not.mp (q w g)
  .rw[e1]at q;cases q
 .rcases m with ⟨q,_⟩|⟨B,q,s1,i,f1⟩
  .rw[e1]at q;cases q
  .rw[e1]at q
   cases q
   have y:z.length<=1000:=by
    obtain⟨w,v,A,t⟩:=aK0 j R2 o p p2 s1 i
    have g:w.length<=1000:=A2 (Nat.le_of_succ_le A) o
    rcases f1 w v t with e|q|q
    · exact e ▸ g
    · exact A2 (B5 q) g
    · exact q.1 ▸ g
   have S:aK sg z:=⟨y,s1⟩
   refine .inr ⟨z,aK2 c r f s e,S,λh=>i ?_,λh=>i (h z s1)⟩
   rw[c.says S,f.says S,h]
theorem aXN{r:L9 (L9 Nat)}{w:L9 Str}(M:Rdw r w sg):Cp (rdW r w):=by
 refine⟨oV λx a=>?_,Sh.shaped (n:=3) (lD λx a=>?_) (by decide)⟩
 .rcases AW.mp a with rfl|a
  .exact oV λx a=>by
    obtain⟨j,_,rfl⟩:=AT.mp a
    exact oV λx a=>by obtain⟨_,_,rfl⟩:=AT.mp a;rfl
  .rw[AM.mp a]
   exact oV λx a=>by obtain⟨_,_,rfl⟩:=AT.mp a;rfl
 .rcases AW.mp a with rfl|a
  .exact lD λx a=>by
    obtain⟨j,_,rfl⟩:=AT.mp a
    exact lD λx a=>by obtain⟨_,_,rfl⟩:=AT.mp a;exact oE _ _
  .rw[AM.mp a]
   exact lD λx a=>by
    obtain⟨u,b,rfl⟩:=AT.mp a
    exact aH9 _ (by rcases M.ww u b with rfl|rfl|rfl<;>decide +kernel)
theorem aK3{r1 r2:L9 (L9 Nat)}{w1 w2:L9 Str}:rdW r1 w1=rdW r2 w2↔r1=r2/\w1=w2:=by
 constructor
 .intro h
  unfold rdW rdD at h
  injection h with h
  injection h with h1 h2
  injection h2 with h2 _
  injection h1 with h1
  injection h2 with h2
  refine⟨(GS λx y e=>?_).mp h1,(GS λx y e=>?_).mp h2⟩
  .unfold bP at e
   injection e with e
   exact(GS λi j q=>by injection q with q;ext).mp e
  .grind
 .grind
end
end Mc
namespace Fl
def outH(F:Hp)(q:Az):Hp:=λa=>if a=q then none else F a
section
variable{X:Cx}{c:Ct}{E:XK}{st:Stmt}
end
end Fl
namespace L2
section
variable{X:Cx}
end
end L2
namespace Fl
section
variable{X:Cx}{c:Ct}{E:XK}{e:E2}{st:Stmt}{rest:L9 Stmt}{pos:Pos}
def RP(g:Gb)(K:Frag)(mg:Str->O9 V9)(H F' H':Hp)(d:A×Dz)(v:V):Prop:=∃ t u w,v=.ref t/\SqT K H' t [u,w]/\AR g K mg H F' H' d.1 u/\DatV K F' w d.2
end
section
variable{X:Cx}{c:Ct}{E:XK}{e:E2}{st:Stmt}
end
end Fl
namespace Mc
open Fl
section
variable{al:L9 (L9 Nat)}{ws:L9 Str}{sg:Nat}
theorem aXO(M:Rdr al sg){wd:L9 Dz}(l:q < al.length)(hz:Sgs sg z)(v:z.length<=1000):gZ [.d (rdD al wd),.d (.int (q:Int)),.d (stD z)]=.ok (.d (.int (runN al q z:Int))):=by
 have f:aH (stD z)=.ok (z.map λu:Nat=>PyData.str ⟨#[u]⟩):=by
  have:=aMR (z:=⟨z.toArray⟩) (by simpa using (by omega:z.length<=16777216))
  simpa[stD] using this
 obtain⟨t,f1,u,rfl⟩:=gN (fs:=stN 3) (fb:=(a8 1 (vD (e2 dIx (e2 dIx (e2 dIx (rV 0) (eC (.int 0))) (rV 1)) (e2 oK (eC (.str "abc")) (rV 3)))))) (d:=λu:Nat=>PyData.str ⟨#[u]⟩) (xs:=z) (Y:=[some (.d (rdD al wd)),some (.d (.int (q:Int))),some (.d (stD z)),none])
  (λi Y=>∃ u,Y=[some (.d (rdD al wd)),some (.d (.int (runN al q (z.take i):Int))),some (.d (stD z)),u]) ⟨none,rfl⟩ λi c Y j g=>by
  obtain⟨u,e⟩:=g
  have b:=AH j
  have h:=hz c b
  have a:runN al q (z.take i) < al.length:=mD M _ (λx m=>hz x (List.mem_of_mem_take m)) l
  obtain⟨n,w⟩:=dN M a h
  obtain⟨s,_⟩:=M.at a
  have k:z.take (i+1)=z.take i++[c]:=by rw[List.take_succ,j];rfl
  have o:runN al q (z.take (i+1))=stN1 al (runN al q (z.take i)) c:=by unfold runN;rw[k,FB];rfl
  have p:dIx (rdD al wd) (.int 0)=.ok (.tuple (al.map bP)):=rfl
  have i1:dIx (.tuple (al.map bP)) (.int (runN al q (z.take i):Int))=.ok (bP (al.getD (runN al q (z.take i)) [])):=j5 (c8 (by rw[AC,s];rfl))
  have i2:dIx (bP (al.getD (runN al q (z.take i)) [])) (.int ((c - 97:Nat):Int))=.ok (.int (stN1 al (runN al q (z.take i)) c:Int)):=j5 (c8 (by rw[AC,n];rfl))
  have id:=aFB (aCV M.s3 h)
  refine⟨[some (.d (rdD al wd)),some (.d (.int (runN al q (z.take i):Int))),some (.d (stD z)),some (.d (.str ⟨#[c]⟩))],_,by rw[e];rfl,.inl ?_,some (.d (.str ⟨#[c]⟩)),rfl⟩
  rw[o]
  generalize al.getD (runN al q (z.take i)) []=r at *
  simp[p,i1,i2,id]
 rw[List.take_length]at f1
 unfold gZ uD
 simp[f,f1]
end
section
variable{a b:L9 Rw}{sg N1 N2 N L1n L2n:Nat}{L1 L2 L:L9 Nat}{r:L9 (L9 Nat)}{w:L9 Str}
structure Lf(a:List Rw)(sg N:Nat)(L:List Nat)(n:Nat):Prop where
 w:Wy a sg N
 e:EndW a sg 200 N
 k:Lk (wRows a sg N) (wWords a sg N) sg L
 t:Lst (wRows a sg N) (wWords a sg N) L n
 f:bK [.d (aD a)]=.ok (.d (rdW (bQ (wRows a sg N) L n) (wordsL (wRows a sg N) (wWords a sg N) L n)))
def lfD(a:L9 Rw)(sg N:Nat)(L:L9 Nat)(n:Nat):Dz:=rdW (bQ (wRows a sg N) L n) (wordsL (wRows a sg N) (wWords a sg N) L n)
theorem aAY(M:Mach a sg)(B:pX a sg):∃ N L n,Lf a sg N L n:=by
 obtain⟨N,W,E⟩:=aW8 M B
 obtain⟨L,e1,K⟩:=aVA W.rdw
 obtain⟨n,T⟩:=aVC W.rdw.r K
 have f1:=aW6 W.rdw K e1 T
 have b:=xN W E
 refine⟨N,L,n,W,E,K,T,?_⟩
 unfold bK rZ
 simp_all
theorem Lf.cp(l:Lf a sg N L L1n):Cp (lfD a sg N L L1n):=aXN (aNA l.w.rdw l.k l.t)
theorem aDW(c:Lf a sg N1 L1 L1n)(d:Lf b sg N2 L2 L2n):lfD a sg N1 L1 L1n=lfD b sg N2 L2 L2n↔EqX (wRows a sg N1) (wRows b sg N2) (wWords a sg N1) (wWords b sg N2) sg 0 0:=aK3.trans (aAJ c.w.rdw d.w.rdw c.k d.k c.t d.t)
theorem Lf.wd(l:Lf a sg N L L1n)(S:aK sg z):rQ (bO a z):=by
 rw[<-l.w.says S]
 exact(l.w.rdw.w (mD l.w.rdw.r z S.2 (by rw[l.w.rows_len];exact l.w.pos))).1
theorem aSA(c:Lf a sg N1 L1 L1n)(f:Lf b sg N2 L2 L2n)(h:∀ z,aK sg z->bO a z=bO b z):lfD a sg N1 L1 L1n=lfD b sg N2 L2 L2n:=by
 rw[aDW c f]
 rcases F_cmp c.w c.e f.w f.e with ⟨_,_,q⟩|⟨z,_,S,d,_⟩
 · exact q
 · exact absurd (h z S) d
theorem aHN(i:Lf a sg N1 L1 L1n)(g:Lf b sg N2 L2 L2n):cJ [.d (aD a),.d (aD b),.d (lfD a sg N1 L1 L1n)]=.ok (.d (.bool true)):=by
 have f2:=g.f
 have j:=aUZ i.cp g.cp
 rcases F_cmp i.w i.e g.w g.e with ⟨c,h,q⟩|⟨z,c,S,d,q⟩
 .rw[A1 ((aDW i g).mpr q)]at j
  have s:=xN i.w i.e
  have o:=xN g.w g.e
  have u:(wRows a sg N1).length * (wRows b sg N2).length<=100000:=by
   rw[i.w.rows_len,g.w.rows_len]
   exact A2 (IE i.w.n g.w.n) (by decide)
  have r:=aXM i.w.rdw g.w.rdw u h
  have x:dEq (.str "alike") (.str "alike")=.ok (.bool true):=by kernel_rfl
  change bK _=.ok (.d (lfD b sg N2 L2 L2n))at f2
  generalize lfD a sg N1 L1 L1n=t at *
  generalize lfD b sg N2 L2 L2n=y at *
  generalize aD a=v at *
  generalize aD b=p at *
  generalize alP (wRows a sg N1) (wRows b sg N2)=P at *
  generalize rdW (wRows a sg N1) (wWords a sg N1)=B at *
  generalize rdW (wRows b sg N2) (wWords b sg N2)=R2 at *
  unfold cJ kC
  simp[c,f2,j,x,s,o,r]
 .rw[BA λe=>q ((aDW i g).mp e)]at j
  have A:dNe (.str "unlike") (.str "unlike")=.ok (.bool false):=by kernel_rfl
  have s1:=aCY (z:=⟨z.toArray⟩) i.w.m (by simpa using S)
  have l:=aCY (z:=⟨z.toArray⟩) g.w.m (by simpa using S)
  have k:=aU6 (i.wd S) (g.wd S)
  rw[BA d]at k
  change bK _=.ok (.d (lfD b sg N2 L2 L2n))at f2
  change eQ _=.ok (.d (.tuple [.str "unlike",.str ⟨z.toArray⟩]))at c
  simp only at s1 l
  generalize lfD a sg N1 L1 L1n=t at *
  generalize lfD b sg N2 L2 L2n=y at *
  generalize aD a=v at *
  generalize aD b=p at *
  unfold cJ kC
  simp[c,f2,j,A,oS,s1,l,k]
theorem aNT{y:Str}(h:dM x=dM y):x=y:=by
 have a:("by":Str)≠"out":=by decide +kernel
 unfold dM at h
 ext
theorem aVT(h:rQ x):rQ (dM x):=by
 rcases h with rfl|rfl|rfl
 · exact .inr (.inl (by kernel_rfl))
 · exact .inl (by kernel_rfl)
 · exact .inr (.inr (by kernel_rfl))
theorem getD_swp(w:L9 Str)(q:Nat):(w.map dM).getD q ""=dM (w.getD q ""):=by
 rw[AG,AC,AG]
 cases w[q]? with
 | none=>show("":Str)=dM "";kernel_rfl
 | some x=>rfl
theorem aSB(M:Rdw r w sg):Rdw r (w.map dM) sg:=by
 refine⟨M.r,by rw[AB];exact M.wl,λx a=>?_⟩
 obtain⟨y,b,rfl⟩:=AT.mp a
 exact aVT (M.ww y b)
theorem aFV{x:Nat}:EqA r (w.map dM) sg x y↔EqA r w sg x y:=by
 unfold EqA
 constructor
 · intro h v a; have := h v a; rw [getD_swp, getD_swp]at this; exact aNT this
 · intro h v a; rw [getD_swp, getD_swp, h v a]
theorem aVU(K:Lk r w sg L):Lk r (w.map dM) sg L:=by
 refine⟨K.len,λx d=>?_⟩
 obtain⟨h1,h2,f,c⟩:=K.at_ x d
 exact⟨h1,h2,aFV.mpr f,λb a e=>c b a (aFV.mp e)⟩
theorem aK4(M:Mach a sg)(S:aK sg z):bO (fN a) z=dM (bO a z):=by
 have d:=kR (st:=cC a z) (st2:=cC (fN a) z) (e:=id) (k:=dM) (ev:="ever") (Dom:=hX a z) (λs V=>by
  have c:a5 (fN a) z s=(pU (a5 a z s).1,(a5 a z s).2):=by
   unfold a5
   rw[aQ1 V.2.2.1 V.2.2.2]
   by_cases b:s.1=0
   .rw[AN b,AN b];rfl
   .rw[AL b,AL b]
    split<;>rfl
  cases e:(a5 a z s).1 with
  | n q=>exact .inl ⟨(s.1+(a5 a z s).2,q),by unfold cC;rw[e],by show cC _ z s=_;unfold cC;rw[c,e];rfl,o5 M S V (by unfold dP;rw[e])⟩
  | w x=>exact .inr ⟨x,by unfold cC;rw[e],by rw[cG (s:=id s) (o:=dM x) (by show cC _ z s=_;unfold cC;rw[c,e];rfl)];rfl⟩) (s:=(0,0)) ⟨BV 0,by show(0:Int)<=_;ext,BV 0,by have:=M.len;show(0:Int) < _;ext⟩
 refine d.trans ?_
 unfold bO
 cases aS (cC a z) (0,0)with
 | none=>show("ever":Str)=dM "ever";kernel_rfl
 | some x=>rfl
theorem aVV(c:Lf a sg N1 L1 L1n)(d:Lf (fN a) sg N2 L2 L2n):lfD (fN a) sg N2 L2 L2n=rdW (bQ (wRows a sg N1) L1 L1n) ((wordsL (wRows a sg N1) (wWords a sg N1) L1 L1n).map dM):=by
 have e:=aSB c.w.rdw
 have R2:=d.w.rdw
 have o:=c.w.rows_len
 have p2:=d.w.rows_len
 have n1:=c.w.n
 have n2:=d.w.n
 have l:=c.w.pos
 have p:=d.w.pos
 have j:wordsL (wRows a sg N1) ((wWords a sg N1).map dM) L1 L1n=(wordsL (wRows a sg N1) (wWords a sg N1) L1 L1n).map dM:=by
  unfold wordsL
  rw[AZ]
  exact A9 λq _=>getD_swp _ _
 rw[<-j]
 refine aK3.mpr ((aAJ R2 e d.k (aVU c.k) d.t ⟨c.t.len,c.t.on,c.t.le⟩).mpr λv f=>Decidable.byContradiction λi=>?_)
 obtain⟨y,h,r,g⟩:=aK0 R2 e (by ext) (a:=0) (b:=0) (by ext) (by ext) f i
 have S:aK sg y:=⟨by ext,h⟩
 refine g ?_
 rw[getD_swp,c.w.says S,d.w.says S,aK4 c.w.m S]
theorem aVW:Fl.cI [] [(.str "by",.str "out"),(.str "out",.str "by")]=.ok owD:=by
 have e1:(PyData.str "by"=PyData.str "out")=False:=by simp;decide
 simp[Fl.cI,bH,fF,jY,putM,bJ,cM,owD,e1]
@[simp] theorem aNU(p:Sg->R (L9 (Dz×Dz)))(f g:Sg->R Dz)(Y:Sg):xE p f g Y=(p Y).bind λa0=>(Fl.cI [] a0).bind λres=>(f Y).bind λk=>(g Y).bind λy=>if bH k (res.map (·.1))=true then .ok ((cM res k).getD y)else .bad:=id rfl
theorem aVX(h:rQ x):(cM owD (.str x)).getD (.str x)=.str (dM x):=by
 rcases h with h|h|rfl
 .exact aC7 (n:=0) (t:=.w x) (.inl h)
 .exact aC7 (n:=0) (t:=.w x) (.inr h)
 .have e1:(PyData.str "by"=PyData.str "ever")=False:=by simp;decide
  have e2:(PyData.str "out"=PyData.str "ever")=False:=by simp;decide
  have a:dM "ever"="ever":=by kernel_rfl
  simp[cM,owD,e1,e2,a]
theorem aXP(b:Lf a sg N1 L1 L1n):eG [.d (lfD a sg N1 L1 L1n)]=.ok (.d (rdW (bQ (wRows a sg N1) L1 L1n) ((wordsL (wRows a sg N1) (wWords a sg N1) L1 L1n).map dM))):=by
 have R:=aNA b.w.rdw b.k b.t
 have h:=bR (fs:=stN 0) (fe:=(xE (pJ (eC (.str "by")) (eC (.str "out")) (pJ (eC (.str "out")) (eC (.str "by")) aB7)) (eV 0) (eV 0))) (Y0:=[none]) (d:=PyData.str) (g:=λx=>PyData.str (dM x)) (xs:=wordsL (wRows a sg N1) (wWords a sg N1) L1 L1n) λx f=>⟨_,rfl,by
  have h1:=aVX (R.ww x f)
  have h2:bH (.str x) (owD.map (·.1))=true:=rfl
  simp only[aNU,aMV,aQ2,l5,Fl.R.bind_ok,aVW,w5,B6,BH,h2,DJ,h1]⟩
 have c:aH (.tuple ((wordsL (wRows a sg N1) (wWords a sg N1) L1 L1n).map PyData.str))=.ok ((wordsL (wRows a sg N1) (wWords a sg N1) L1 L1n).map PyData.str):=cR (by rw[AB,R.wl];have:=R.r.n2;ext)
 have e:dIx (lfD a sg N1 L1 L1n) (.int 0)=.ok (.tuple ((bQ (wRows a sg N1) L1 L1n).map bP)):=rfl
 have i1:dIx (lfD a sg N1 L1 L1n) (.int 1)=.ok (.tuple ((wordsL (wRows a sg N1) (wWords a sg N1) L1 L1n).map PyData.str)):=rfl
 have hr:rdW (bQ (wRows a sg N1) L1 L1n) ((wordsL (wRows a sg N1) (wWords a sg N1) L1 L1n).map dM)=.tuple [.tuple ((bQ (wRows a sg N1) L1 L1n).map bP),.tuple ((wordsL (wRows a sg N1) (wWords a sg N1) L1 L1n).map λx=>PyData.str (dM x))]:=by
  unfold rdW rdD
  rw[AZ];rfl
 rw[hr]
 generalize lfD a sg N1 L1 L1n=l at *
 generalize (wordsL (wRows a sg N1) (wWords a sg N1) L1 L1n).map PyData.str=i at *
 generalize ((wordsL (wRows a sg N1) (wWords a sg N1) L1 L1n).map λx=>PyData.str (dM x))=j at *
 unfold eG kB
 simp[e,i1,c,cX,h]
theorem aXQ(R:Rdw r w sg)(s1:1<=sg){z:Str}(S:aK sg z.cps.toList):i5 [.d (rdW r w),.d (.str z)]=.ok (.d (.str (w.getD (runN r 0 z.cps.toList) ""))):=by
 have f:=xO R
 have e:=aVR s1 R.r.s3 S
 have b:=R.r.n1
 have a:gZ [.d (rdD r (w.map .str)),.d (.int 0),_]=_:=aXO R.r (wd:=w.map .str) b S.2 S.1
 have c:stD z.cps.toList=.str z:=rfl
 rw[c]at a
 have hi:=(R.w (mD R.r z.cps.toList S.2 b)).2
 have i1:dIx (rdW r w) (.int 1)=.ok (.tuple (w.map .str)):=rfl
 change gZ [.d (rdW r w),_,_]=_ at a
 have g:lA [.d (rdW r w),.d (.str z)]=.ok (.d (.int (runN r 0 z.cps.toList:Int))):=by
  generalize rdW r w=D at *
  unfold lA uK
  simp[f,e,a]
 generalize rdW r w=D at *
 generalize PyData.tuple (w.map .str)=h at *
 unfold i5 uL
 simp[-List.getD_eq_getElem?_getD,i1,g,hi]
theorem Lf.by_(b:Lf a sg N1 L1 L1n){z:Str}(S:aK sg z.cps.toList):i5 [.d (lfD a sg N1 L1 L1n),.d (.str z)]=.ok (.d (.str (bO a z.cps.toList))):=by
 rw[<-b.w.says S,<-p7 b.w.rdw b.k b.t _ S.2]
 exact aXQ (aNA b.w.rdw b.k b.t) b.w.m.sg1 S
end
theorem aHO(ns:L9 Int)(k:Int):∃ n:Nat,1<=n/\n<=2/\∃ v,bG [.d (dD ns),.d (.int k)]=.ok (.d (.int v))/\(1:Int)+v % 2=n:=by
 obtain⟨v,a⟩:=mW ns k
 exact⟨(1+v % 2).toNat,by ext,by ext,v,a,by ext⟩
theorem aNV(ns:L9 Int)(_:ns.length<=63):aHH [.d (.list (ns.map .int))]=.ok (.d (.bool true)):=by
 show aHH [.d (dD ns)]=_
 obtain⟨sg,s1,T,v0,e0,g0⟩:=aHO ns 0
 obtain⟨n1,a1,V,v1,C,g1⟩:=aHO ns 1
 obtain⟨n2,b1,U,v2,P,g2⟩:=aHO ns 2
 obtain⟨m,em,M,hm⟩:=aJ2 (ns:=ns) (at':=4) (n:=n1) (sg:=sg) (by decide) a1 (A2 V (by decide)) s1 (FD T)
 obtain⟨o,eo,O,t⟩:=aJ2 (ns:=ns) (at':=6) (n:=n2) (sg:=sg) (by decide) b1 (A2 U (by decide)) s1 (FD T)
 have a:m.length<=2:=hm▸V
 have o2:o.length<=2:=t▸U
 have m3:=FD a
 have s3:=FD T
 obtain⟨N,L,n,l⟩:=aAY M (vU M a)
 obtain⟨No,Lo,no,lo⟩:=aAY O (vU O o2)
 have Sw:=aMU M
 obtain⟨Ns,Ls,w,I⟩:=aAY Sw (vU Sw (by unfold fN;rw[AB];exact a))
 have g:∀ x,Mach x sg->pX x sg->(∀ z,aK sg z->bO x z=bO m z)->bK [.d (aD x)]=.ok (.d (lfD m sg N L n))/\cJ [.d (aD m),.d (aD x),.d (lfD m sg N L n)]=.ok (.d (.bool true)):=λx X B h=>by
  obtain⟨Nx,Lx,nx,J⟩:=aAY X B
  have:=J.f
  change bK _=.ok (.d (lfD x sg Nx Lx nx))at this
  rw[aSA J l h]at this
  exact⟨this,aHN l J⟩
 have t:("out":Str)≠"ever":=by decide +kernel
 have Z:("by":Str)≠"ever":=by decide +kernel
 have k1:=g _ (gG M a) (aKS M a t) λz S=>aFS M a t S
 have k2:=g _ (gG M a) (aKS M a Z) λz S=>aFS M a Z S
 have k3:=g _ (iV M a) (aVJ M a) λz S=>aR6 M a S
 obtain⟨F,K⟩:=mW ns 18
 obtain⟨c3,d3⟩:=mW ns 3
 obtain⟨ex,x1,x2,x4⟩:=aXG M a F
 obtain⟨od,y1,y⟩:=aXI x2 x2.len2 c3
 have k4:=g _ (jT x2 y) (aVK M x2 y a x4) λz S=>aR7 M x2 y S
 have f1:=aVN M a (.inr rfl)
 have f2:=aVN M a (.inl rfl)
 have f3:=aVO M m3
 have f4:=aVO (zF M m3) (by rw[nC];exact Nat.succ_le_succ a)
 have fs:=aWW M
 have fe:=aXP l
 have fl:=l.f
 have q:=lo.f
 have s:=I.f
 change bK _=.ok (.d (lfD m sg N L n))at fl
 change bK _=.ok (.d (lfD o sg No Lo no))at q
 change bK _=.ok (.d (lfD (fN m) sg Ns Ls w))at s
 have h1:=aHN l lo
 have h2:=aHN lo l
 have q1:dNe (lfD m sg N L n) (lfD m sg N L n)=.ok (.bool false):=rP l.cp.sh
 have q2:dNe (lfD (fN m) sg Ns Ls w) (lfD (fN m) sg Ns Ls w)=.ok (.bool false):=rP I.cp.sh
 rw[<-aVV l I]at fe
 have E:∀ u x,bK [.d x]=.ok (.d (lfD m sg N L n))/\cJ [.d (aD m),.d x,.d (lfD m sg N L n)]=.ok (.d (.bool true))->lwF [some (.d (dD ns)),some (.d (.int sg)),some (.d (aD m)),some (.d (aD o)),some (.d (lfD m sg N L n)),u,some (.d x),none,none]=.ok (.nx [some (.d (dD ns)),some (.d (.int sg)),some (.d (aD m)),some (.d (aD o)),some (.d (lfD m sg N L n)),u,some (.d x),none,none]):=λu x h=>by
  obtain⟨h1,h2⟩:=h
  unfold lwF
  simp[h1,h2,q1]
 obtain⟨c,p⟩:∃ c,c=[aD (jn sg "out" m),aD (jn sg "by" m),aD (ab sg (ab sg m)),aD (pr od (m++ex))]:=⟨_,rfl⟩
 have lp:fH (stN 6) lwF c [some (.d (dD ns)),some (.d (.int sg)),some (.d (aD m)),some (.d (aD o)),some (.d (lfD m sg N L n)),some (.d (.list c)),none,none,none]=.ok (.nx [some (.d (dD ns)),some (.d (.int sg)),some (.d (aD m)),some (.d (aD o)),some (.d (lfD m sg N L n)),some (.d (.list c)),some (.d (aD (pr od (m++ex)))),none,none]):=by
  have r:=E (some (.d (.list c)))
  generalize some (A.d (.list c))=u at *
  rw[p,kQ rfl (r _ k1),kQ rfl (r _ k2),kQ rfl (r _ k3),kQ rfl (r _ k4)];rfl
 obtain⟨Y',lq,u7,u8,rfl⟩:=gN (fs:=stN 7) (fb:=lwG) (d:=λk:Nat=>.int (k:Int)) (xs:=range 10) (Y:=[some (.d (dD ns)),some (.d (.int sg)),some (.d (aD m)),some (.d (aD o)),some (.d (lfD m sg N L n)),some (.d (.list c)),some (.d (aD (pr od (m++ex)))),none,none]) (λ_ Y=>∃ u v,Y=[some (.d (dD ns)),some (.d (.int sg)),some (.d (aD m)),some (.d (aD o)),some (.d (lfD m sg N L n)),some (.d (.list c)),some (.d (aD (pr od (m++ex)))),u,v]) ⟨none,none,rfl⟩ (λi k Y _ Q=>by
  obtain⟨u,v,e⟩:=Q
  subst e
  obtain⟨W,hc⟩:=mW ns (8+k)
  obtain⟨j,hj,G⟩:=qB W (k:=20) (by decide)
  obtain⟨z,hz,S,_⟩:=aQY (ns:=ns) (at':=8+k) (m:=j) (sg:=sg) (Int.add_nonneg (by decide) (GR k)) (B5 (CV G (by decide))) s1 s3
  have w1:=l.by_ S
  have w2:=aCY M S
  have hw:=aWX (l.wd S)
  have b:dMod (.int W) (.int 20)=.ok (.int j):=by rw[b8 (by decide)];exact CQ (λx=>R.ok (PyData.int x)) hj
  refine⟨_,_,rfl,.inl ?_,some (.d (.int k)),some (.d (.str z)),rfl⟩
  generalize dD ns=sd at *
  generalize aD m=md at *
  generalize lfD m sg N L n=D at *
  unfold lwG
  simp[hc,b,hz,w1,w2,hw])
 have hr:j3 0 10=_:=w9 (n:=10) (by decide)
 have b:∀ v:Int,dMod (.int v) (.int 2)=.ok (.int (v % 2)):=λv=>b8 (by decide)
 have H:aH (.list c)=.ok c:=cS (by rw[p];simp)
 unfold aHH
 rw[aHG]
 generalize dD ns=sd at *
 generalize lfD m sg N L n=D at *
 generalize lfD o sg No Lo no=Do at *
 generalize lfD (fN m) sg Ns Ls w=Ds at *
 generalize aD (fN m)=ms at *
 generalize aD (jn sg "out" m)=X1 at *
 generalize aD (jn sg "by" m)=X2 at *
 generalize aD (ab sg (ab sg m))=X3 at *
 generalize aD (ab sg m)=X5 at *
 generalize aD (pr od (m++ex))=X4 at *
 generalize aD (m++ex)=X6 at *
 generalize aD m=md at *
 generalize aD o=mo at *
 subst p
 simp[e0,C,P,b,g0,g1,g2,em,eo,fl,f1,f2,f3,f4,K,d3,x1,y1,H,lp,fs,s,fe,q2,h1,hr,lq,q,h2]
section
variable{P:P9}{w:W9}{K:Frag}{mg:Str->O9 V9}{base:Hz}{TH:Hp}
set_option maxHeartbeats 0 in
theorem aSC(T:Txt w K mg)(D:AllD K mg (("signs_of",7,["machine"])::("cells_of",8,["machine","number"])::("checked_by",9,["signs","strip"])::("reached",11,["begin","after","done"])::("never",12,["found","at"])::("strip_to",13,["rows","number"])::("is_word",17,["part"])::("without_signs",18,["machine"])::("gone_on",19,["backs","cells","room"])::("longer",20,["begun","cells"])::("word_behind",21,["machine","begun"])::("signs_by",23,["reader"])::("room_from",24,["reader","room","strip"])::("room_by",25,["reader","strip"])::("word_by",26,["reader","strip"])::("after_pair",28,["one","other","pair"])::("same_word",29,["one","other","pair"])::("firsts",32,["keys"])::("behind_signs",33,["likes","row"])::("finer",34,["rows","likes"])::("alike_rooms",35,["reader"])::("least_of",37,["machine"])::("held",39,["one","other"])::("compared",40,["one","other"])::("are_rooms",41,["one","other","pair"])::("shows_alike",42,["one","other","pairs"])::("swapped_row",45,["row"])::("swapped",46,["machine"])::("_law_cell",48,["_law_script","_law_k"])::("_law_end",49,["_law_number","_law_rooms"])::("_law_digit_row",50,["_law_number","_law_rooms","_law_signs"])::("_law_mixed_row",51,["_law_number","_law_rooms","_law_signs"])::("_law_machine",52,["_law_script","_law_at","_law_rooms","_law_signs"])::("_law_strip",53,["_law_script","_law_at","_law_size","_law_signs"])::("_law_step",54,["_law_machine_here","_law_strip_here","_law_stand"])::("_law_stands",55,["_law_machine_here","_law_strip_here"])::("_law_says",56,["_law_machine_here","_law_strip_here"])::("_law_up",57,["_law_end_here","_law_by"])::("_law_raised",58,["_law_machine_here","_law_by"])::("_law_joined",59,["_law_one","_law_two","_law_word"])::("_law_about",60,["_law_machine_here"])::("_law_padded",61,["_law_machine_here","_law_cell_here"])::("_law_renumbered",62,["_law_machine_here","_law_cell_here"])::("_law_exchanged",63,["_law_form"])::("_law_held",64,["_law_one","_law_two","_law_form"])::[]))(G:DefAtT K mg base TH qsT "first_to" (top 14) ["begin","after","wanted"])(C:DefAtT K mg base TH qsT "one_way" (top 22) ["machine"])(I:DefAtT K mg base TH qsT "parted" (top 30) ["one","other","begin"])(B:DefAtT K mg base TH qsT "least" (top 36) ["reader"]){J:Az}{z:FuncData}(L:Fun K "law" "law" (top 65) J z):FnOk P w K mg base (CXe P w) 19 J z ["_law_script"] (wO K TH):=by
 refine stA eE 0 ["machine"] D (λp D=>?_)
 refine stA iR 0 ["machine","number"] D (λl D=>?_)
 refine stA iU 0 ["signs","strip","known","at","sign"] D (λ_ D=>?_) (hb:=λf a A outer s H F E hr nd=>by exact(Fl.aJ (Fl.cP (L2.cP (i:=2) nd rfl (Or.inl rfl) (k6 (aKN (by symm) aN9 (by symm))))) (Fl.aJ (Fl.cY (by symm) (L2.cY (fZ ⟨rfl,rfl⟩) rfl (aR0 (aLJ rfl T.b_enumerate (aX (by symm) bE))) (by symm) (Fl.cK (Fl.lS (by symm) (Fl.cK Fl.wP) Fl.iP)))) (by symm))))
 refine stA cW 12 ["begin","after","done","found","numbers","rows","row","thing"] D (λb D=>?_) (hb:=λf a A outer s H F E hr nd=>by delta aAA rhT rhB rhF;exact(Fl.aJ (by symm) (Fl.aJ (by symm) (Fl.aJ (by symm) (Fl.aJ (Fl.mE (L2.mE (fZ ⟨rfl,rfl⟩) (PW.pt (Fl.v3 (by symm) (Fl.sK (Fl.qI (Fl.qH (aQC (m:=12) rfl rfl rfl (hr.mono (by decide)) (u0 (pv 2) (nE λ_ _ _ h=>h) (aCD (by symm) (aCD (by symm) aQB))))))))) (Fl.aJ (by symm) (Fl.aJ (Fl.cY (oJ 7) (L2.cY (fZ ⟨rfl,rfl⟩) rfl (aTV rfl (aJG (m:=12) rfl rfl rfl (hr.mono (by decide)) (u0 (pv 1) (nE λ_ _ _ h=>h) (by symm)))) (by symm) (by symm))) (by symm))))) (by symm))))))
 refine stA jP 0 ["found","at"] D (λr D=>?_)
 refine stA j4 0 ["rows","number","came","at","row","sign","there","signs"] D (λn D=>?_) (hb:=λf a A outer s H F E hr nd=>by delta wZ stO stF stQ stW;exact(Fl.aJ (by symm) (Fl.aJ (Fl.cY (by symm) (L2.cY (fZ ⟨rfl,rfl⟩) rfl (by symm) (by symm) (Fl.cK (Fl.cY (by symm) (L2.cY (fZ ⟨rfl,rfl⟩) rfl (by symm) (by symm) (Fl.cK (aE1 rfl rfl (L2.jI (rB DG DL GH (aJQ hr.units) (pv 2) (aX (by symm) (aX (by symm) bE))))))))))) (Fl.aJ (by symm) (Fl.aJ (by symm) (Fl.aJ (aUB (L2.jI (aTA EA PySem.F.slot_list_reverse PySem.F.type_list_reverse aF7 (pv 7)))) (Fl.cK (Fl.iF (k6 (aEO rfl (o4 EF IH II aEC (by symm) (aX (by symm) bE)) (by intro Y x h;cases h;exact⟨_,rfl⟩)))))))))))
 have o:=@aD5 P w K mg base TH T G b n
 refine stA gH 0 ["part"] D (λ_ D=>?_)
 refine stA eX 0 ["machine","lefts"] D (λc D=>?_)
 refine stA jO 1 ["backs","cells","room","been","cell"] D (λ_ D=>?_) (hb:=by delta aAB oT oB;symm)
 refine stA fJ 2 ["begun","cells","first","backs"] D (λq D=>?_)
 refine stA dB 1 ["machine","begun","room","been","turn"] D (λe D=>?_) (hb:=by delta qC wT wB;symm)
 have t:=@aHI P w K mg base TH T C p l q b c e
 refine stA eY 0 ["reader"] D (λ_ D=>?_)
 refine stA gZ 0 ["reader","room","strip","sign"] D (λ_ D=>?_) (hb:=λf a A outer s H F E hr nd=>by exact(Fl.aJ (Fl.cY (oJ 3) (L2.cY (fZ ⟨rfl,rfl⟩) rfl (by symm) (by symm) (Fl.cK (Fl.cP (L2.cP (i:=1) nd rfl (Or.inl rfl) (k6 (aGL (aGN rfl) uY (by symm) (pB (aB0 (o4 EF IB IC aBC (by symm) (aX (by symm) bE)) (by intro Y x h;cases h;exact⟨_,rfl⟩)))))))))) (by symm)))
 refine stA lA 1 ["reader","strip"] D (λ_ D=>?_)
 refine stA i5 2 ["reader","strip"] D (λ_ D=>?_)
 refine stA eM 0 ["one","other","pair"] D (λj D=>?_) (hb:=λf a A outer s H F E hr nd=>by exact(Fl.cK (Fl.iF (k6 (qU (aMP rfl (L2.aMO rfl rfl T.b_list rfl T.b_zip (aX (by symm) (aX (by symm) bE)))))))))
 refine stA fK 0 ["one","other","pair"] D (λk D=>?_)
 have u:=@aKR P w K mg base TH T I j k o
 refine stA jC 0 ["keys","first","room","key"] D (λ_ D=>?_) (hb:=λf a A outer s H F E hr nd=>by exact(Fl.aJ (by symm) (Fl.aJ (Fl.cY (by symm) (L2.cY (fZ ⟨rfl,rfl⟩) rfl (by symm) (by symm) (Fl.cK (aE1 rfl rfl (L2.jI (rB DG DL GH (aJQ hr.units) (pv 1) (aX (by symm) (aX (by symm) bE)))))))) (by symm))))
 refine stA cE 0 ["likes","row"] D (λd D=>?_)
 refine stA oN 1 ["rows","likes"] D (λ_ D=>?_)
 refine stA dY 2 ["reader","likes","again"] D (λg D=>?_) (hb:=by delta qD arT arB;symm)
 have y:=@aNK P w K mg base TH T B g d b r
 refine stA bK 14 ["machine"] D (λ_ D=>?_)
 refine stA jG 15 ["one","other","search"] D (λ_ D=>?_) (hb:=λf a A outer s H F E hr nd=>by exact(Fl.aJ (Fl.lS (by symm) (Fl.cK Fl.wP) Fl.iP) (by symm)))
 refine stA eQ 16 ["one","other"] D (λ_ D=>?_) (hb:=λf a A outer s H F E hr nd=>by exact(Fl.aJ (Fl.lS (by symm) (Fl.cK Fl.wP) Fl.iP) (by symm)))
 refine stA k9 0 ["one","other","pair"] D (λ_ D=>?_) (hb:=λf a A outer s H F E hr nd=>by exact(Fl.cK (Fl.iF (k6 (aIY (aBV aBR uX wK pC (by symm) (by symm) (by symm)) (aIX (aBV aBR uX wK pC (by symm) (by symm) (by symm))))))))
 refine stA i9 1 ["one","other","pairs","known","pair"] D (λ_ D=>?_) (hb:=λf a A outer s H F E hr nd=>by delta qG saB;exact(Fl.aJ (by symm) (Fl.aJ (aNI rfl rfl (L2.cP (i:=3) nd rfl (Or.inr rfl) (eW (aHF rfl hr.units) rfl T.b_dict PyProof.Rows.boot_dict (aX (by symm) bE)))) (Fl.aJ (by symm) (Fl.aJ (aUC rfl 3 (Fl.cY (oJ 4) (L2.cY (fZ ⟨rfl,rfl⟩) rfl (aQT rfl (pv 3)) (by symm) (Fl.aJ (by symm) (Fl.cK (Fl.lS (Fl.qI (Fl.qH (aTT rfl (uO (aH4 rfl) rfl T.b_all boot_all (aX (by symm) bE))))) (by symm) Fl.iP)))))) (by symm))))))
 refine stA gX 0 ["row"] D (λ_ D=>?_) (hb:=λf a A outer s H F E hr nd=>by exact(Fl.cK (Fl.iF (k6 (wM (gL (aCA T.g_OTHER_WORD.choose_spec.2 (λF=>zW (by decide)) (rB DG C4 FR (aB9 T.g_OTHER_WORD.choose_spec.2 zX (aCB (by decide))) (oD (v:=.ref T.g_OTHER_WORD.choose) rfl T.g_OTHER_WORD.choose_spec.1 rfl) (aX (by symm) (aX (by symm) bE)))) (gL (by symm) (gL (aCA T.g_OTHER_WORD.choose_spec.2 (λF=>zW (by decide)) (rB DG C4 FR (aB9 T.g_OTHER_WORD.choose_spec.2 zX (aCB (by decide))) (oD (v:=.ref T.g_OTHER_WORD.choose) rfl T.g_OTHER_WORD.choose_spec.1 rfl) (aX (by symm) (aX (by symm) bE)))) yB))))))))
 refine stA nR 1 ["machine"] D (λ_ D=>?_)
 refine stA bG 0 ["_law_script","_law_k","_law_cell_here","_law_mixed"] D (λ_ D=>?_)
 refine stA gO 0 ["_law_number","_law_rooms"] D (λ_ D=>?_)
 refine stA gP 0 ["_law_number","_law_rooms","_law_signs","_law_left","_law_cells","_law_k","_law_ends"] D (λ_ D=>?_)
 refine stA gQ 1 ["_law_number","_law_rooms","_law_signs","_law_pieces","_law_k","_law_cells"] D (λ_ D=>?_) (hb:=by delta mV mxB mxE;symm)
 refine stA f9 2 ["_law_script","_law_at","_law_rooms","_law_signs","_law_rows","_law_room","_law_row"] D (λ_ D=>?_) (hb:=by delta oR mcB mcT mcU;symm)
 refine stA gA 1 ["_law_script","_law_at","_law_size","_law_signs","_law_number","_law_strip_here","_law_k"] D (λ_ D=>?_) (hb:=λf a A outer s H F E hr nd=>by exact(Fl.aJ (by symm) (Fl.cK (Fl.iF (k6 (aEO rfl (o4 EF IH II aEC (by symm) (aX (by symm) bE)) (by intro Y x h;cases h;exact⟨_,rfl⟩)))))))
 refine stA i4 0 ["_law_machine_here","_law_strip_here","_law_stand","_law_place","_law_room","_law_left","_law_cells","_law_right","_law_there","_law_step_here"] D (λ_ D=>?_) (hb:=λf a A outer s H F E hr nd=>by exact(Fl.aJ (by symm) (Fl.aJ (by symm) (Fl.aJ (by symm) (Fl.aJ (aJB (by symm) (aA1 (aGL (aGN rfl) uY (by symm) (pB (aB0 (o4 EF IB IC aBC (by symm) (aX (by symm) bE)) (by intro Y x h;cases h;exact⟨_,rfl⟩)))) (by symm))) (by symm))))))
 refine stA i8 1 ["_law_machine_here","_law_strip_here","_law_stands_here","_law_met","_law_after"] D (λ_ D=>?_) (hb:=by delta qF vH vI;symm)
 refine stA g8 2 ["_law_machine_here","_law_strip_here","_law_place","_law_room"] D (λ_ D=>?_)
 refine stA eU 0 ["_law_end_here","_law_by"] D (λ_ D=>?_)
 refine stA dA 1 ["_law_machine_here","_law_by","_law_rows","_law_left","_law_cells","_law_right"] D (λ_ D=>?_) (hb:=by delta lP raF;symm)
 refine stA eB 2 ["_law_one","_law_two","_law_word","_law_back","_law_rest","_law_rows","_law_left","_law_cells","_law_right"] D (λ_ D=>?_) (hb:=λf a A outer s H F E hr nd=>by delta lQ jnF;exact(Fl.aJ (by symm) (Fl.aJ (by symm) (Fl.aJ (by symm) (Fl.aJ (by symm) (Fl.aJ (aI4 rfl (L2.jI (o4 EA HG HH zM (pv 5) (aX (wM (gL (by symm) (gL (pE rfl (eW i7 rfl T.b_tuple D9 (aX (pB (qU (zB (by symm) (by symm)))) bE))) (by symm)))) bE)))) (by symm)))))))
 refine stA eR 2 ["_law_machine_here","_law_rows","_law_made","_law_left","_law_cells","_law_right"] D (λ_ D=>?_) (hb:=λf a A outer s H F E hr nd=>by delta m8 abF;exact(Fl.aJ (by symm) (Fl.aJ (sP (L2.cP (i:=2) nd rfl (Or.inl rfl) (aIZ (gL (wM (gL aIN (gL (pE rfl (eW i7 rfl T.b_tuple D9 (aX (pB (qU (zB (by symm) (by symm)))) bE))) (by symm)))) yB)))) (by symm))))
 refine stA fP 0 ["_law_machine_here","_law_cell_here","_law_rows","_law_many","_law_k","_law_there","_law_cells"] D (λ_ D=>?_) (hb:=λf a A outer s H F E hr nd=>by delta lR pdF;exact(Fl.aJ (sP (L2.cP (i:=2) nd rfl (Or.inl rfl) (aPS rfl (eW aA7 rfl T.b_list FG (aX (by symm) bE))))) (Fl.aJ (by symm) (Fl.aJ (Fl.cY (oJ 4) (L2.cY (fZ ⟨rfl,rfl⟩) rfl (by symm) (by symm) (Fl.aJ (by symm) (Fl.aJ (Fl.cP (L2.cP (i:=6) nd rfl (Or.inl rfl) (k6 (pE rfl (eW i7 rfl T.b_tuple D9 (aX (pB (qU (zB (by symm) (by symm)))) bE)))))) (by symm))))) (by symm)))))
 refine stA dW 0 ["_law_machine_here","_law_cell_here","_law_order","_law_turn","_law_rows","_law_room","_law_left","_law_cells","_law_right","_law_ends"] D (λ_ D=>?_) (hb:=by delta jS rnF;symm)
 refine stA eG 0 ["_law_form"] D (λ_ D=>?_)
 refine stA cJ 17 ["_law_one","_law_two","_law_form","_law_told"] D (λ_ D=>?_) (hb:=λf a A outer s H F E hr nd=>by exact(Fl.aJ (by symm) (Fl.aJ (Fl.lS (by symm) (Fl.cK (Fl.iF (k6 (aIY (by symm) (aIX (oI aRZ aKL (by symm) (pB aN7) (fW _))))))) Fl.iP) (by symm))))
 exact aTZ (aR5 (fb:=aHG) ["_law_script","_law_signs","_law_machine_here","_law_other_one","_law_form","_law_alike","_law_one","_law_k","_law_strip_here"] L (by symm) (by delta aHG lwF lwG;symm)) aNV
end
section
variable{w:W9}{K:Frag}{h:Hz}{mg:Str->O9 V9}
theorem aVY(X:K.In h)(G:h.Ns mainGlobals mg){a:Nat}{b:Az}(z_all:nsIn K mainGlobals "all"=some none)(z_dict:nsIn K mainGlobals "dict"=some none)(z_enumerate:nsIn K mainGlobals "enumerate"=some none)(z_int:nsIn K mainGlobals "int"=some none)(z_isinstance:nsIn K mainGlobals "isinstance"=some none)(z_len:nsIn K mainGlobals "len"=some none)(z_list:nsIn K mainGlobals "list"=some none)(z_range:nsIn K mainGlobals "range"=some none)(z_str:nsIn K mainGlobals "str"=some none)(z_tuple:nsIn K mainGlobals "tuple"=some none)(z_zip:nsIn K mainGlobals "zip"=some none)(s_MOST_BEGINNINGS:nsIn K mainGlobals "MOST_BEGINNINGS"=some (some (.int 200 a)))(s_OTHER_WORD:nsIn K mainGlobals "OTHER_WORD"=some (some (.ref b)))(m_OTHER_WORD:aB8 K w b (pK "by" "out" "out" "by"))(s_SIGNS:nsIn K mainGlobals "SIGNS"=some (some (.str "abc" c))):Txt w K mg:=⟨B1 X G z_all,B1 X G z_dict,B1 X G z_enumerate,B1 X G z_int,B1 X G z_isinstance,B1 X G z_len,B1 X G z_list,B1 X G z_range,B1 X G z_str,B1 X G z_tuple,B1 X G z_zip,⟨a,FI X G s_MOST_BEGINNINGS⟩,⟨b,FI X G s_OTHER_WORD,m_OTHER_WORD⟩,⟨c,FI X G s_SIGNS⟩⟩
theorem rec_in{q:P9}(h:((recsOf q).any λd=>d.name == x)=true):∃ d∈recsOf q,d.name=x:=by
 obtain⟨d,a,e⟩:=List.any_eq_true.mp h
 exact⟨d,a,HP e⟩
theorem aVZ{i:Az}{m:V9}{j:O9 Az}{d:Array (O9 V9)}{kV b:V9}(X:K.In h)(G:h.Ns mainGlobals mg)(g:mg "law"=some (.ref i))(a:nsIn K mainGlobals "law"=some (some (.ref f)))(l:K.lookup f=some ⟨m,od,.func (fnOf "law" "law" (fX (top 65)) (bF (top 65)) (aI (top 65)) .none kV doc pm j b ct),d⟩)
  (c:codeIn K b "law"=true) (k:keepIn K (.ref f)=true):∃ fd,Fun K "law" "law" (top 65) i fd/\∀ (s:S9) (u:V9),BindsTo s fd ⟨[u],[]⟩ [("_law_script",u)]:=by
 have e:=g.symm.trans (FI X G a)
 cases e
 exact⟨_,aH2 (st:=top 65) l c k,λs u=>.of_eq rfl⟩
end
end Mc
open PySem.W
set_option hygiene false
local macro_rules|`(tactic|trivial)=>`(tactic|(dsimp only[L2.KOf];refine' Mc.mG d G ?a ?l ?c ?k ?b;(case a=>k_is);(case l=>k_is);(case c=>k_is);(case k=>k_is);first|(case b=>exact λ_ _ _ _ _ _=>Mc.bn1 λ_=>rfl)|(case b=>exact λ_ _ _ _ _ _=>Mc.bn3 λ_ _ _=>rfl)))
set_option hygiene true
set_option maxRecDepth 100000 in
set_option maxHeartbeats 0 in
theorem PySem.Challenge.cw_striproam_k44_whole_same_least_holds : PySem.Challenge.rw_striproam_k44_whole_same_least.Holds := by
 w_on;o_law;k_head;(case hw=>w_witness2)
 k_fill
 refine Fl.aP4 (l:=PySem.Challenge.rw_striproam_k44_whole_same_least) (k:=19) (x:="_law_script") (qs:=Mc.qsT) (xs:=["first_to","one_way","parted","least"]) ?hx ?hNT rfl rfl ⟨rfl,by decide,by decide⟩ (λw h Yq=>PySem.W.km_in_of Yq) ?F
 case hx=>
  intro x hx
  simp only[AW,DK,GG]at hx
  rcases hx with rfl|rfl|rfl|rfl<;>exact Mc.rec_in (by decide +kernel)
 case hNT=>
  intro w
  kernel_rfl
 case F=>
  intro w mg n h d G m
  have j:L2.DefAt (L2.KOf d) mg "first_to" (Mc.top 14) ["begin","after","wanted"]:=by trivial
  have i:L2.DefAt (L2.KOf d) mg "one_way" (Mc.top 22) ["machine"]:=by trivial
  have g:L2.DefAt (L2.KOf d) mg "parted" (Mc.top 30) ["one","other","begin"]:=by trivial
  have f:L2.DefAt (L2.KOf d) mg "least" (Mc.top 36) ["reader"]:=by trivial
  have T:Mc.Txt w (L2.KOf d) mg:=by
   dsimp only[L2.KOf]
   refine' Mc.aVY d G ?z_all ?z_dict ?z_enumerate ?z_int ?z_isinstance ?z_len ?z_list ?z_range ?z_str ?z_tuple ?z_zip ?s_MOST_BEGINNINGS ?s_OTHER_WORD (Fl.aWP ?p_OTHER_WORD ?m_OTHER_WORD) ?s_SIGNS
   (case z_all=>k_is);(case z_dict=>k_is);(case z_enumerate=>k_is);(case z_int=>k_is);(case z_isinstance=>k_is);(case z_len=>k_is);(case z_list=>k_is);(case z_range=>k_is);(case z_str=>k_is);(case z_tuple=>k_is);(case z_zip=>k_is);(case s_MOST_BEGINNINGS=>k_is);(case s_OTHER_WORD=>k_is);(case m_OTHER_WORD=>k_is);(case p_OTHER_WORD=>decide);(case s_SIGNS=>k_is)
  have p:∃ fd,L2.Fun (L2.KOf d) "law" "law" (Mc.top 65) n fd/\∀ (s:S9) (u:V9),BindsTo s fd ⟨[u],[]⟩ [("_law_script",u)]:=by
   dsimp only[L2.KOf]
   refine' Mc.aVZ d G m ?a4 ?l4 ?c4 ?k4
   (case a4=>k_is);(case l4=>k_is);(case c4=>k_is);(case k4=>k_is)
  obtain⟨fd,q,o⟩:=p
  exact⟨fd,o,λbase TH _ _ e=>Mc.aSC T (by repeat (first|exact .nil|refine .cons (by dsimp only[L2.KOf];refine' Mc.mG d G ?a ?l ?c ?k ?b;(case a=>k_is);(case l=>k_is);(case c=>k_is);(case k=>k_is);first|(case b=>exact λ_ _ _ _ _ _=>Mc.bn1 λ_=>rfl)|(case b=>exact λ_ _ _ _ _ _=>Mc.bn2 λ_ _=>rfl)|(case b=>exact λ_ _ _ _ _ _=>Mc.bn3 λ_ _ _=>rfl)|(case b=>exact λ_ _ _ _ _ _=>Mc.bn4 λ_ _ _ _=>rfl)) ?_))  (Fl.aGX j d e (by decide)) (Fl.aGX i d e (by decide)) (Fl.aGX g d e (by decide)) (Fl.aGX f d e (by decide)) q⟩
end
