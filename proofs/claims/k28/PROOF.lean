import PyProof.Rows.All
import Wide.All
import OpenK.AllK
import Wide.FinOn
import Lean
import PyProof.EqAt
import PyProof.EqKinds
import PyProof.TupleCall
import PyProof.ExcInit
import PyProof.InstStoreFacts
import PyProof.StrLawsFirst
import PyProof.StrLawsIn
import KE.KLam
import PyProof.ListMulRoad
import PyProof.Rows.ListMul
import PyProof.ZipIter
import PyProof.Draws
import PyProof.ListStr
import PyProof.DictWalks
import PyProof.DictTruth
import PyProof.ListRange
import PyProof.StrLaws
import PyProof.StrLawsIdx
import PyProof.AttrMissHeap
import PyProof.StrBlock2
import PyProof.SumWalkG
import PyProof.CallStr
import PyProof.CallRoads3
import PyProof.MeetsStr2
import PyProof.Rows.StrItems
import PyProof.Conv_int
import PySem.Challenge.RW_striproam_k28_whole_one_least_form
set_option linter.all false
set_option maxRecDepth 100000
set_option maxHeartbeats 4000000
set_option Elab.async false
set_option genSizeOf false
set_option compiler.extract_closed false
set_option bootstrap.genMatcherCode false
open PySem.W (instObj methodObj lookIn plainGet findIn specialIn takesIn kitOne kitx_tuple kitx_dict keepIn fnOf codeIn nsIn CodeHd tabObj noTabs OpenLaw WalkO pyHash_slot nsOkIn)
open List (range replicate length Nodup foldl map_id Lex)
open PySem.SeqAt (EqAt shaped)
open PyProof.Rows (boot_zip boot_int boot_str boot_max boot_min)
set_option hygiene false
local macro_rules
|`(tactic|ext)=>`(tactic|first
 |(with_reducible first
  |assumption
  |exact Nat.zero_le _
  |exact Nat.le_refl _
  |exact Int.natCast_nonneg _
  |exact Nat.le_of_lt (by assumption)
  |exact Nat.le_trans (by assumption) (by decide)
  |exact Nat.lt_of_le_of_lt (by assumption) (by decide)
  |exact Nat.lt_of_lt_of_le (by assumption) (by decide)
  |exact Nat.lt_of_lt_of_le (by assumption) (by assumption)
  |exact Nat.lt_of_le_of_lt (by assumption) (by assumption)
  |exact Nat.le_trans (by assumption) (by assumption)
  |exact Nat.le_trans (Nat.le_of_lt (by assumption)) (by assumption)
  |exact Int.ofNat_lt.mpr (by assumption)
  |exact Int.ofNat_le.mpr (by assumption))
 |omega|grind)
set_option hygiene true
abbrev Dz:=PySem.PyData
abbrev V9:=PySem.Value
abbrev S9:=PySem.Shared
abbrev Az:=PySem.Addr
abbrev P9:=PySem.Program
abbrev W9:=PySem.World
abbrev H9:=PySem.Heap
abbrev E2:=PySem.Expr
abbrev U9:=PySem.Around
abbrev O9(α:Type):=Option α
abbrev L9(α:Type):=List α
namespace PySem.W.Fast
def tw302775844122992011:=0
def tw15180287132136207415:=0
def tw13602859092151921734:=0
def tw4740862988917758850:=0
def tw590161846075911524:=0
def tw15719068452260003214:=0
def tw3188296455861659672:=0
def tw15087594361376005389:=0
def tw1147495317560267505:=0
def tw12691458564092491038:=0
def tw12530972890432345564:=0
def tw849803347297297584:=0
def tw27411605530858078:=0
def tw12807225975698576676:=0
def tw7954946483668766534:=0
def tw14482816117496312995:=0
def tw6466769757169997968:=0
def tw14387483938483219181:=0
def tw15697452070291906553:=0
def tw16934190750365871686:=0
def tw9785264728606328100:=0
def tw9288128311907625976:=0
def tw10709404316399997220:=0
def tw10643211652330781268:=0
def tw13375770829866802811:=0
def tw6765547501621321487:=0
def tw6458232939368287630:=0
def tw15059525422772907436:=0
def tw4509738496955815378:=0
def tw5302357849704390102:=0
def tw16809112810213760776:=0
def tw15335726837537881233:=0
def tw841427034862722645:=0
def tw14596161742700788224:=0
def tw6378766808340462632:=0
def tw6630781189182224805:=0
def tw13789010523983871249:=0
def tw4510424888443148271:=0
def tw14386915698136868042:=0
def tw14941913362441245288:=0
def tw7450174370173947950:=0
def tw4149181434040023952:=0
def tw9919594829107301997:=0
def tw7264237637081105662:=0
def tw9076808433885875627:=0
def tw7395532707383003185:=0
def tw3164029372188144744:=0
def tw341639966008681855:=0
def tw1932491925395758712:=0
def tw17709896159252543764:=0
def tw1542027210082990562:=0
def tw18109246713291505239:=0
def tw3961443842224331870:=0
def tw3722300339234864091:=0
def tw7008142439554464265:=0
def tw15173081359886795880:=0
def tw9482477297553195946:=0
def tw10716762732462083578:=0
def tw18094517024718376549:=0
def tw1181792802989854606:=0
def tw7586605433815502828:=0
def tw8164264236891598787:=0
def tw4775058797759340072:=0
def tw17553446962834471772:=0
def tw6248683091563264404:=0
def tw8030600177932576768:=0
def tw9917740732478435859:=0
def tw9276311717914310433:=0
def tw11533271946878803219:=0
def tw15870811113335734278:=0
def tw5924549700352020985:=0
def tw7144268401631064372:=0
def tw17311599486821318792:=0
def tw5324020509095633929:=0
def tw5390783496796224519:=0
def tw5385581417503542360:=0
def tw17276723303983885348:=0
def tw14808259528915866850:=0
def tw11219662860546215354:=0
def tw17130065316488777329:=0
def tw5195463076333375827:=0
def tw7627839097514374402:=0
def tw12857794959429290371:=0
def tw7275124936368908043:=0
def tw1195792505671371537:=0
def tw17279381552219630025:=0
def tw18261989362833230056:=0
def tw14781177323154277864:=0
def tw16456911369336579507:=0
def tw932615928503841835:=0
def tw3145865567181900903:=0
def tw12580195419810095583:=0
def tw687694126624030538:=0
def tw238654186702231601:=0
def tw3359508671536099201:=0
def tw3721618796427627944:=0
def tw14661911755132579931:=0
def tw15956711092280441191:=0
def tw9409314320700199079:=0
def tw4219935448194095346:=0
def tw5916682499778919040:=0
def tw313188188591202509:=0
def tw114774693233484822:=0
def tw6169185088611547613:=0
def tw7316872731564227468:=0
def tw1295385027744374748:=0
def tw5216034652625320931:=0
def tw7668546449751816396:=0
def tw12535093836035729922:=0
def tw11404437439740489376:=0
def tw15287822684128889102:=0
def tw14606475580908569527:=0
def tw8392451450583926947:=0
def tw16089230305521482837:=0
def tw3929861641305002518:=0
def tw6268709871607094083:=0
def tw14884170925663444062:=0
def tw17125572080055899396:=0
def tw16864191325481829180:=0
def tw14863932629374470894:=0
def tw12983593049459208878:=0
def tw13098408406315220840:=0
def tw4983466610777713167:=0
def tw17397309144614002199:=0
def tw2161180212481428626:=0
def tw2398370245397034986:=0
def tw1377334295681876815:=0
def tw3533238583548699474:=0
def tw10314866950092712614:=0
def tw10346665810093563576:=0
def tw9341996040319954692:=0
def tw5176662503954436041:=0
def tw4611060435336393133:=0
def tw7687000937900991420:=0
def tw15462328025829924514:=0
def tw10218857349083047068:=0
def tw15315168324815475736:=0
def tw17829986329194668485:=0
def tw18310516811157461893:=0
def tw11383490790258943446:=0
def tw27250085487482389:=0
def tw13179190562430305713:=0
def tw8132637195086455991:=0
def tw1607181068113780654:=0
def tw1573643550137131016:=0
def tw921752590999329582:=0
def tw7398723110219442033:=0
def tw8317417628589075687:=0
def tw2178751148331327363:=0
def tw2052527948542274759:=0
def tw659651832207046939:=0
def tw8481419403796777549:=0
def tw6157967360341400422:=0
def tw10513554232382802390:=0
def tw12656892957215905227:=0
def tw17688457969003961505:=0
def tw17235879969565864119:=0
def tw12153056988707624572:=0
def tw4556267139468479733:=0
def tw12486562761449672261:=0
end PySem.W.Fast
def AA:=@List.length_map
def AB:=@PySem.wpAny_bind
def AC:=@List.getElem?_map
def AD:=@List.getElem?_eq_some_iff
def AE:=@PySem.Heap.get?_push_of_some
def AG:=@List.mem_of_getElem?
def AH:=@PySem.wpAny_pure
def AI:=@List.getElem?_eq_getElem
def AJ:=@if_pos
def AK:=@List.mem_singleton
def AL:=@List.getD_eq_getElem?_getD
def AM:=@if_neg
def AN:=@List.mem_map
def AQ:=@Nat.le_refl
def AS:=@List.mem_cons_of_mem
def AT:=@PySem.Heap.lt_size
def AU:=@List.mem_cons_self
def AV:=@Nat.le_trans
def AW:=@List.mem_cons
def AX:=@List.map_map
def AY:=@decide_eq_true
def AZ:=@List.map_cons
def A0:=@PySem.Heap.get?_push_size
def A1:=@Bool.and_eq_true
def A2:=@List.length_append
def A3:=@Nat.lt_of_lt_of_le
def A4:=@List.length_range
def A5:=@decide_eq_false
def A6:=@List.size_toArray
def A7:=@List.mem_append
def A8:=@List.map_append
def A9:=@List.getElem?_cons_zero
def BA:=@List.map_congr_left
def BB:=@PySem.mem_of_lookup
def BC:=@List.length_take
def BD:=@Nat.ne_of_lt
def BE:=@List.getElem?_cons_succ
def BF:=@List.mem_range
def BG:=@List.length_cons
def BH:=@of_decide_eq_true
def BI:=@List.all_eq_true
def BJ:=@List.set_cons_zero
def BK:=@Option.some.inj
def BL:=@Ne.symm
def BM:=@Bool.false_ne_true
def BN:=@PySem.Heap.get?_update_self
def BO:=@PySem.wpAny_mono
def BP:=@Nat.zero_le
def BQ:=@List.map_nil
def BR:=@List.length_nil
def BS:=@List.set_cons_succ
def BU:=@List.length_singleton
def BV:=@List.getElem?_append_left
def BW:=@PySem.Heap.size_push
def BX:=@List.getElem?_of_mem
def BY:=@Int.emod_lt_of_pos
def BZ:=@List.mem_append_right
def B0:=@PySem.wpAny_field
def B1:=@List.getElem?_range
def B2:=@PySem.Heap.get?_update_other
def B3:=@PySem.W.mg_none_of
def B4:=@Nat.lt_irrefl
def B5:=@PySem.W.kia_one
def B6:=@List.nil_append
def B7:=@Nat.le_of_lt
def B8:=@Nat.le_add_right
def B9:=@List.take_add_one
def CA:=@List.getElem?_append_right
def CB:=@Int.emod_nonneg
def CD:=@List.cons_append
def CF:=@List.take_of_length_le
def CG:=@Classical.byContradiction
def CH:=@PySem.Heap.SameBut.update
def CI:=@List.mem_map_of_mem
def CJ:=@Nat.ne_of_gt
def CK:=@List.length_set
def CL:=@Bool.or_eq_true
def CM:=@PyProof.Rows.callWith_type1
def CN:=@PySem.wpAny_Call_Name_kw
def CO:=@List.length_zipIdx
def CP:=@List.mem_append_left
def CQ:=@List.getElem?_set_ne
def CS:=@List.lookup_cons
def CT:=@PySem.wpAny_holding
def CU:=@if_true
def CV:=@List.pairwise_iff_getElem
def CW:=@Nat.lt_of_le_of_lt
def CY:=@Bool.false_eq_true
def CZ:=@PySem.wpAny_newObj_type
def C0:=@List.append_nil
def C3:=@List.find?_cons
def C4:=@Array.length_toList
def C5:=@Int.le_refl
def C6:=@PySem.wpAny_setField_rec
def C7:=@List.getElem?_eq_none
def C8:=@Option.map_some
def C9:=@Int.toNat_natCast
def DA:=@List.nodup_append
def DB:=@congrArg
def DC:=@PySem.wpAny_seqItems
def DD:=@List.not_mem_nil
def DE:=@PySem.F.slot_dict_setdefault
def DF:=@List.prefix_refl
def DG:=@List.getElem?_set_self
def DH:=@List.mem_filterMap
def DI:=@Nat.lt_trans
def DJ:=@List.map_singleton
def DK:=@PySem.wpAny_passesOwn
def DL:=@List.nodup_cons
def DM:=@List.forIn_cons
def DN:=@List.foldl_cons
def DO:=@PySem.wpAny_standAt
def DP:=@PySem.F.slot_tuple_iterator_next
def DQ:=@PySem.eqIsQuiet_byValue
def DR:=@Nat.lt_trichotomy
def DS:=@List.getElem?_zipIdx
def DT:=@Nat.mod_eq_of_lt
def DU:=@PyProof.Rows.slot_tuple_getitem
def DV:=@PySem.wpAny_callSpecial?_slot
def DW:=@PySem.wpAny_execs_nil
def DX:=@PySem.W.callWith_K
def DY:=@beq_false_of_ne
def DZ:=@PySem.Obj.data_mapFields
def D0:=@if_false
def D3:=@PyProof.Rows.boot_list
def D4:=@PySem.wpAny_truthy_bool
def D5:=@List.reverse_cons
def D6:=@List.ext_getElem?
def D7:=@List.length_replicate
def D8:=@List.nodup_nil
def D9:=@Array.getElem?_toList
def EA:=@Nat.add_comm
def EB:=@PySem.wpAny_call_entry
def EC:=@beq_self_eq_true
def ED:=@Nat.lt_succ_self
def EE:=@PySem.Obj.data_mapDictKeys
def EF:=@List.take_length
def EG:=@List.filterMap_cons
def EH:=@PySem.F.plain_extend_loop
def EI:=@List.of_mem_zip
def EJ:=@Nat.min_le_left
def EK:=@List.length_zip
def EL:=@Array.size_push
def EM:=@PySem.codeAny_mono
def EN:=@List.getElem?_take_of_lt
def EO:=@Nat.le_of_eq
def EQ:=@Nat.lt_or_ge
def ER:=@PySem.wpAny_setField
def ES:=@PySem.wpAny_rule
def ET:=@List.length_eq_zero_iff
def EU:=@Nat.lt_add_of_pos_right
def EV:=@PySem.wpAny_loadPart_at
def EW:=@List.append_assoc
def EX:=@Option.some.injEq
def EY:=@List.foldl_append
def EZ:=@PySem.Calls.callWith_builtin
def E3:=@PySem.F.plainAttrs_str
def E4:=@PySem.W.mg_of
def E5:=@List.getElem_mem
def E6:=@PySem.Heap.size_update
def E7:=@PySem.Obj.isFreed_of_fields
def E8:=@PySem.wpAny_specialOf
def E9:=@List.mem_iff_getElem
def FA:=@List.cons.injEq
def FB:=@PySem.F.args_dict_setdefault_3
def FC:=@PySem.wpAny_updateSeq
def FD:=@Nat.min_eq_left
def FE:=@Classical.not_forall
def FG:=@List.mem_of_mem_take
def FH:=@List.find?_eq_some_iff_getElem
def FI:=@PySem.F.entry_dict_setdefault
def FJ:=@List.take_append_of_le_length
def FK:=@beq_eq_false_iff_ne
def FM:=@PySem.wpAny_isSubtype_exc
def FN:=@Nat.add_lt_add_left
def FP:=@Array.getElem?_push
def FQ:=@Int.toNat_of_nonneg
def FR:=@List.forIn_nil
def FS:=@PySem.F.args_tuple_iterator_next_1
def FT:=@or_false
def FU:=@Nat.mul_le_mul
def FV:=@PyProof.Rows.boot_isinstance
def FW:=@PySem.F.type_dict_setdefault
def FX:=@Nat.le.dest
def FY:=@List.getElem_range
def FZ:=@PySem.F.entry_tuple_iterator_next
def F5:=@List.find?_eq_none
def F6:=@List.idxOf_lt_length_of_mem
def F7:=@List.getElem?_take
def F8:=@decide_eq_true_iff
def F9:=@List.map_inj_right
def GA:=@PySem.Calls.Name_function_global
def GB:=@PySem.F.excAttr_ValueError
def GC:=@Array.getElem?_eq_some_iff
def GD:=@Bool.true_and
def GE:=@Nat.add_mul_mod_self_right
def GF:=@PySem.W.kitx_list
def GH:=@Nat.lt_succ_of_lt
def GI:=@Option.isSome_map
def GJ:=@PySem.wpAny_call
def GK:=@Nat.not_lt
def GL:=@List.drop_eq_getElem_cons
def GM:=@List.mem_of_find?_eq_some
def GN:=@List.getElem?_eq_none_iff
def GO:=@List.getElem?_zip_eq_some
def GP:=@PySem.wpAny_execs_cons
def GQ:=@Option.isSome_iff_exists
def GR:=@PySem.F.args_tuple_add_2
def GS:=@Option.getD_none
def GT:=@PySem.wpAny_comprehension_free
def GU:=@Option.bind_some
def GV:=@List.Pairwise.imp_of_mem
def GW:=@List.any_eq_true
def GX:=@List.getElem_map
def GY:=@List.getElem?_replicate
def GZ:=@PySem.F.entry_tuple_add
def G0:=@PySem.F.plainAttrs_list
def G5:=@Nat.add_sub_cancel_left
def G6:=@PySem.F.plainAttrs_dict
def G7:=@List.mem_filter
def G8:=@PySem.wpAny_loadPart'
def G9:=@LawfulBEq.eq_of_beq
def HA:=@PySem.F.slot_zip_next
def HB:=@PySem.sizeLine_eq
def HC:=@PySem.W.cellsFrom_some
def HD:=@PySem.F.slot_tuple_add
def HE:=@PySem.wpAny_Call_method_late
def HF:=@Option.map_eq_some_iff
def HG:=@boot_zip
def HH:=@List.drop_zero
def HI:=@List.take_append_drop
def HJ:=@List.foldl_nil
def HK:=@List.countP_le_length
def HL:=@PySem.F.slot_str_join
def HM:=@PySem.F.type_str_join
def HN:=@PySem.wpAny_attempt
def HP:=@Bool.not_true
def HQ:=@Int.ofNat.inj
def HR:=@Bool.or_true
def HS:=@Nat.zero_add
def HU:=@Nat.sub_zero
def HV:=@List.zip_map
theorem Mc.bn1{α:Type}{P:L9 α->Prop}(h:∀ a,P [a]):∀ us:L9 α,us.length=1->P us
 | [a],_=>h a
theorem Mc.bn2{α:Type}{P:L9 α->Prop}(h:∀ a b,P [a,b]):∀ us:L9 α,us.length=2->P us
 | [a,b],_=>h a b
theorem Mc.bn3{α:Type}{P:L9 α->Prop}(h:∀ a b c,P [a,b,c]):∀ us:L9 α,us.length=3->P us
 | [a,b,c],_=>h a b c
theorem Mc.bn4{α:Type}{P:L9 α->Prop}(h:∀ a b c d,P [a,b,c,d]):∀ us:L9 α,us.length=4->P us
 | [a,b,c,d],_=>h a b c d
open PySem.W (Frag)
open PySem PyProof.Rows PySem.Spec
noncomputable section
variable{us:L9 V9}{u v cd doc pm ct:V9}{a:Str->O9 NameKind}{b it f:Az}{α β:Type}{P:P9}{o:Obj}{t' i j k n:Nat}{N ps:L9 Str}{x qual name:Str}{E Q:V9->S9->Prop}{s' s:S9}{e c tg:E2}{a0 pl:L9 (Az×Obj)}{K:Frag}{es:L9 E2}{body:L9 Stmt}{vs:Array V9}{C:Int->Int->Prop}{g:Int->Int->Int}{mA mg:Str->O9 V9}{base:H9}{scope:Scope}{od:O9 Az}
namespace L2
variable{H:Hp}{M:Model}{Z:St}{op:CmpOp}{r:R2}{CX:CXT}
abbrev Key:=Sum Int Str
noncomputable def r9:Key->V9->Bool
 | .inl k,v=>Value.isInt k v
 | .inr x,v=>Value.isStrOf x v
noncomputable def aWB(w:W9):Key->Int
 | .inl k=>hashInt k
 | .inr x=>hashStr w x
theorem keyIs_shape:∀ {k:Key} {v:V9},r9 k v=true->(∃ i t,k=Sum.inl i/\v=Value.int i t)\/(∃ x t,k=Sum.inr x/\v=Value.str x t)
 | .inl i,v,h=>by
  obtain⟨t,e⟩:=Value.isInt_shape (k:=i) (v:=v) h
  exact .inl ⟨i,t,rfl,e⟩
 | .inr x,v,h=>by
  obtain⟨t,e⟩:=Value.isStrOf_shape (x:=x) (v:=v) h
  exact .inr ⟨x,t,rfl,e⟩
theorem aGN(i:Int)(t:Tok):r9 (.inl i) (.int i t)=true:=by simp[r9,Value.isInt]
theorem aGO(x:Str)(t:Tok):r9 (.inr x) (.str x t)=true:=by simp[r9,Value.isStrOf]
theorem aRB(a b:Int):decide ((Sum.inl a:Key)=Sum.inl b)=(a == b):=by
 by_cases e:a=b
 .subst e;simp
 .have h:¬ (Sum.inl a:Key)=Sum.inl b:=λq=>e (Sum.inl.inj q)
  rw[A5 h]
  exact(FK.mpr e).symm
theorem aRC(a b:Str):decide ((Sum.inr a:Key)=Sum.inr b)=decide (a=b):=by
 by_cases e:a=b
 .subst e;simp
 .have h:¬ (Sum.inr a:Key)=Sum.inr b:=λq=>e (Sum.inr.inj q)
  rw[A5 h,A5 e]
theorem aRD(a:Int)(b:Str):decide ((Sum.inl a:Key)=Sum.inr b)=false:=A5 (λq=>nomatch q)
theorem aRE(a:Str)(b:Int):decide ((Sum.inr a:Key)=Sum.inl b)=false:=A5 (λq=>nomatch q)
noncomputable def cX(prog:P9)(w:W9):PySem.KeyKind prog w Key where
 is:=r9
 hash:=aWB w
 inj:=λv a b ha hb=>by
  rcases keyIs_shape ha with ⟨i,t,rfl,rfl⟩|⟨x,t,rfl,rfl⟩
  .rcases keyIs_shape hb with ⟨j,u,rfl,e⟩|⟨y,u,rfl,e⟩
   · injection e with e1 _; rw [e1]
   · exact nomatch e
  .rcases keyIs_shape hb with ⟨j,u,rfl,e⟩|⟨y,u,rfl,e⟩
   · exact nomatch e
   · injection e with e1 _; rw [e1]
 byValue:=λk v h=>by
  rcases keyIs_shape h with ⟨i,t,rfl,rfl⟩|⟨x,t,rfl,rfl⟩<;>rfl
 pyHash:=λhv h=>by
  rcases keyIs_shape hv with ⟨i,t,rfl,rfl⟩|⟨x,t,rfl,rfl⟩
  .exact wpAny_pyHash_int h
  .exact wpAny_pyHash_str h
 eqBool:=λhu hv h=>by
  rcases keyIs_shape hu with ⟨i,t,rfl,rfl⟩|⟨x,t,rfl,rfl⟩
  .rcases keyIs_shape hv with ⟨j,u,rfl,rfl⟩|⟨y,u,rfl,rfl⟩
   · rw [aRB]at h; exact wpAny_eqBool_int h
   · rw [aRD]at h; exact SeqAt.EqAt.int_str i t y u _ _ _ _ h
  .rcases keyIs_shape hv with ⟨j,u,rfl,rfl⟩|⟨y,u,rfl,rfl⟩
   · rw [aRE]at h; exact SeqAt.EqAt.str_int x t j u _ _ _ _ h
   · rw [aRC]at h; exact wpAny_eqBool_str h
 «strs»:=λk x t v h=>by
  rcases keyIs_shape h with ⟨i,u,rfl,e⟩|⟨y,u,rfl,e⟩
  .exact nomatch e
  .injection e with e1 _
   subst e1
   cases v<;>rfl
theorem aCU(prog:P9)(w:W9)(i:Int)(t:Tok):(cX prog w).is (.inl i) (.int i t)=true:=aGN i t
theorem aCV(prog:P9)(w:W9)(x:Str)(t:Tok):(cX prog w).is (.inr x) (.str x t)=true:=aGO x t
inductive V where
 | non|bl (b:Bool)|int (i:Int)|str (x:Str)|byt (b:Array UInt8)|flt (b:UInt64)|ref (a:Az)|ty (n:String)
 deriving DecidableEq
def aP:V->V9->Prop
 | .non,u=>u=Value.none
 | .bl b,u=>u=Value.bool b
 | .int i,u=>∃ t,u=Value.int i t
 | .str x,u=>∃ t,u=Value.str x t
 | .byt b,u=>∃ t,u=Value.bytes b t
 | .flt b,u=>∃ t,u=Value.float b t
 | .ref a,u=>u=Value.ref a
 | .ty n,u=>u=Value.type n
abbrev aT:L9 V->L9 V9->Prop:=Paired aP
theorem aT.length{xs:L9 V}(r:aT xs us):xs.length=us.length:=Paired.length r
theorem aT.get:∀ {xs:L9 V} {us:L9 V9} {i:Nat} {x:V},aT xs us->xs[i]? = some x->∃ u,us[i]? = some u/\aP x u
 | _,_,_,_,.nil,e=>by simp at e
 | _,_,0,_,.cons r _,e=>by simp at e;subst e;exact⟨_,rfl,r⟩
 | _,_,i+1,x,.cons _ t,e=>by
  obtain⟨u,h1,h2⟩:=aT.get (i:=i) (x:=x) t (by simpa using e)
  exact⟨u,by simpa using h1,h2⟩
theorem aT.set{x:V}(r:aP x u):∀ {xs:L9 V} {us:L9 V9} (i:Nat),aT xs us->aT (xs.set i x) (us.set i u)
 | _,_,_,.nil=>.nil
 | _,_,0,.cons _ t=>.cons r t
 | _,_,i+1,.cons q t=>.cons q (aT.set r i t)
theorem aT.append:∀ {xs ys:L9 V} {us ws:L9 V9},aT xs us->aT ys ws->aT (xs++ys) (us++ws)
 | _,_,_,_,.nil,s=>s
 | _,_,_,_,.cons r t,s=>.cons r (aT.append t s)
theorem aT.take:∀ {xs:L9 V} {us:L9 V9} (n:Nat),aT xs us->aT (xs.take n) (us.take n)
 | _,_,0,_=>.nil
 | _,_,_+1,.nil=>.nil
 | _,_,n+1,.cons r t=>.cons r (aT.take n t)
theorem aT.drop:∀ {xs:L9 V} {us:L9 V9} (n:Nat),aT xs us->aT (xs.drop n) (us.drop n)
 | _,_,0,r=>r
 | _,_,_+1,.nil=>.nil
 | _,_,n+1,.cons _ t=>aT.drop n t
def nZ:O9 V->O9 V9->Prop
 | some v,some u=>aP v u
 | none,none=>True
 | _,_=>False
def KV{κ:Type}:L9 (κ×V)->L9 (κ×V9)->Prop:=Paired λ(p:κ×V) (q:κ×V9)=>p.1=q.1/\aP p.2 q.2
noncomputable def kV:Key->V
 | .inl i=>.int i
 | .inr x=>.str x
inductive HO where
 | lst (xs:List V)
 | tup (xs:List V)
 | dK (ce:List (Key×V))|dT (ce:List (List Key×V))
 | set (S:Int->Bool) (n:Nat)
 | ins (C dx:Az) (fs:List (Str×V))
 | own (x:Az)
 | xd (fs:List (Str×V))
 | met (f x:Az)
 | rng (lo hi:Int)
 | frz (o:Obj) (u:HO)
 | tbl (qs:List (Pos×Str))
 | cod (q:Str)
 | ext (φ:Heap->Prop)
abbrev Hp:=Az->O9 HO
noncomputable def upd(H:Hp)(a:Az)(o:HO):Hp:=λb=>if b=a then some o else H b
theorem aN{a:Az}{o:HO}:upd H a o a=some o:=by unfold upd;rw[AJ rfl]
theorem aF{a:Az}{o:HO}(h:b≠a):upd H a o b=H b:=by unfold upd;rw[AM h]
theorem aC4{a:Az}{o u:HO}:upd (upd H a o) a u=upd H a u:=by
 funext b;unfold upd;split<;>rfl
theorem aV{a:Az}{o:HO}(h:H a=some o)(h':H b=none):a≠b:=by
 intro e;subst e;rw[h]at h';cases h'
def lI(h:H9)(a:Az)(its:Array V9):Prop:=∃ o,h.get? a=some o/\(o.cls=.type "tuple"/\o.dict=none)/\∃ n,o.data=.seq its n
theorem lI.t{h:H9}{a:Az}{b:Array V9}:lI h a b->IsTup h a b:=λ⟨o,e,c,n,d⟩=>⟨o,e,c.1,n,d⟩
theorem lI.new(h:H9)(a:Array V9):lI (h.push {cls:=.type "tuple",data:=.seq a}) h.objs.size a:=⟨_,A0 h rfl,⟨rfl,rfl⟩,_,rfl⟩
section
variable(P:P9)(w:W9)
def bI(H:Hp)(h:H9)(a:Az):HO->Prop
 | .lst xs=>xs.length<=sizeLine/\∃ (its:L9 V9) (n:Nat),aT xs its/\h.get? a=some {cls:=.type "list",data:=.seq its.toArray n}
 | .tup xs=>xs.length<=sizeLine/\∃ its:L9 V9,aT xs its/\lI h a its.toArray
 | .dK ce=>ce.length<=sizeLine/\(a == sysModules)=false/\∃ vs,KV ce vs/\h.DictOf (cX P w) a vs
 | .dT ce=>ce.length<=sizeLine/\(a == sysModules)=false/\∃ xs:L9 (L9 Key×Az×V9),
  Paired (λ(p:L9 Key×V) (q:L9 Key×Az×V9)=>p.1=q.1/\H q.2.1=some (.tup (p.1.map kV))/\aP p.2 q.2.2) ce xs /\
  ∃ o es ep,h.get? a=some o/\o.ExactDict/\o.data=.dict es ep/\es.toList=xs.map (entryOfKey (tupleKind (cX P w)))/\(xs.map (·.1)).Nodup
 | .set S n=>h.SetOf (intKind P w) a S n
 | .ins C dx fs=>H dx=some (.own a)/\fs.length<=1000/\dx≠a/\h.get? a=some (instObj C dx) /\
  ∃ mA,h.Ns1 dx mA/\(∀ f,nZ (fs.lookup f) (mA f))/\PySem.Within mA (fs.map (·.1))
 | .own _=>∃ o,h.get? a=some o
 | .xd fs=>∃ mA,h.Ns1 a mA/\∀ f,nZ (fs.lookup f) (mA f)
 | .rng lo hi=>∃ t u v,h.get? a=some {cls:=.type "range",data:=.fields #[.int lo t,.int hi u,.int 1 v]}
 | .frz o u=>h.get? a=some o/\bI H h a u
 | .tbl qs=>∃ ps:Array V9,h.get? a=some {cls:=.none,data:=.fields ps}/\TriplesOk ps.toList/\∀ p∈qs,codeAmong p.1 ps.toList=none\/∃ c,codeAmong p.1 ps.toList=some (.ref c)/\H c=some (.cod p.2)
 | .cod q=>h.CodeRec (.ref a) q
 | .met f x=>h.get? a=some (methodObj (.ref f) (.ref x))
 | .ext φ=>φ h/\(∃ o,h.get? a=some o)/\∀ h1 h2:H9,φ h1->(∀ o,h1.get? a=some o->h2.get? a=some o)->φ h2
def HOk(H:Hp)(h:H9):Prop:=∀ a o,H a=some o->bI P w H h a o
end
section
variable{P:P9}{w:W9}{H H':Hp}{h h':H9}{a:Az}{o:HO}
theorem bI.lt(x:bI P w H h a o):a < h.objs.size:=by
 cases o with
 | lst xs=>obtain⟨_,_,_,_,e⟩:=x;exact AT e
 | tup xs=>obtain⟨_,_,_,p⟩:=x;exact p.t.lt
 | dK ce=>obtain⟨_,_,_,_,o,_,_,e,_⟩:=x;exact AT e
 | dT ce=>obtain⟨_,_,_,_,o,_,_,e,_⟩:=x;exact AT e
 | set S n=>obtain⟨o,_,_,_,e,_⟩:=x;exact AT e
 | ins C dx fs=>obtain⟨_,_,_,e,_⟩:=x;exact AT e
 | own y=>obtain⟨_,e⟩:=x;exact AT e
 | xd fs=>obtain⟨_,⟨_,_,_,e,_⟩,_⟩:=x;exact AT e
 | rng lo hi=>obtain⟨_,_,_,e⟩:=x;exact AT e
 | frz ob u=>obtain⟨e,_⟩:=x;exact AT e
 | tbl qs=>obtain⟨ps,e,_⟩:=x;exact AT e
 | cod q=>obtain⟨c,o,vs,t,e,b,_⟩:=x;cases e;exact AT b
 | met f y=>exact AT (show h.get? a=some _ from x)
 | ext φ=>obtain⟨_,⟨_,e⟩,_⟩:=x;exact AT e
theorem Paired.mapP{F G:α->β->Prop}:∀ {l₁:L9 α} {l₂:L9 β},Paired F l₁ l₂->(∀ a b,F a b->G a b)->Paired G l₁ l₂
 | _,_,.nil,_=>.nil
 | _,_,.cons r t,f=>.cons (f _ _ r) (Paired.mapP t f)
theorem bI.stay(x:bI P w H h a o)(k:∀ b u,(b=a\/H b=some (.own a))->h.get? b=some u->h'.get? b=some u)
  (l:∀ b,H b=some (.own a)->H' b=some (.own a)) (D:∀ b q,H b=some (.cod q)->H' b=some (.cod q)) (m:∀ b xs,H b=some (.tup xs)->H' b=some (.tup xs)):bI P w H' h' a o:=by
 induction o with
 | lst xs=>obtain⟨z,j,n,r,e⟩:=x;exact⟨z,j,n,r,k _ _ (.inl rfl) e⟩
 | tup xs=>obtain⟨z,j,r,g,e,c⟩:=x;exact⟨z,j,r,g,k _ _ (.inl rfl) e,c⟩
 | dK ce=>obtain⟨z,y,vs,r,g,es,i,e,c⟩:=x;exact⟨z,y,vs,r,g,es,i,k _ _ (.inl rfl) e,c⟩
 | dT ce=>
  obtain⟨z,y,xs,r,g,es,i,e,c⟩:=x
  exact⟨z,y,xs,Paired.mapP r λp q z=>⟨z.1,m _ _ z.2.1,z.2.2⟩,g,es,i,k _ _ (.inl rfl) e,c⟩
 | set S n=>obtain⟨g,es,i,t,e,c⟩:=x;exact⟨g,es,i,t,k _ _ (.inl rfl) e,c⟩
 | ins C dx fs=>
  obtain⟨d,z,B,e,mA,⟨od,es,i,e2,c⟩,r⟩:=x
  exact⟨l _ d,z,B,k _ _ (.inl rfl) e,mA,⟨od,es,i,k _ _ (.inr d) e2,c⟩,r⟩
 | own y=>obtain⟨g,e⟩:=x;exact⟨g,k _ _ (.inl rfl) e⟩
 | xd fs=>obtain⟨mA,⟨od,es,i,e,c⟩,r⟩:=x;exact⟨mA,⟨od,es,i,k _ _ (.inl rfl) e,c⟩,r⟩
 | rng lo hi=>obtain⟨t,u,v,e⟩:=x;exact⟨t,u,v,k _ _ (.inl rfl) e⟩
 | frz g u ih=>obtain⟨e,q⟩:=x;exact⟨k _ _ (.inl rfl) e,ih q⟩
 | tbl qs=>
  obtain⟨ps,e,t,r⟩:=x
  refine⟨ps,k _ _ (.inl rfl) e,t,λp A=>?_⟩
  rcases r p A with z|⟨c,z,s⟩
  · exact .inl z
  · exact .inr ⟨c, z, D _ _ s⟩
 | cod q=>
  obtain⟨c,o,vs,t,e,l,r⟩:=x
  cases e
  exact⟨_,o,vs,t,rfl,k _ _ (.inl rfl) l,r⟩
 | met f y=>
  have e:h.get? a=some (methodObj (.ref f) (.ref y)):=x
  show h'.get? a=some (methodObj (.ref f) (.ref y))
  exact k a _ (.inl rfl) e
 | ext φ=>obtain⟨p,⟨o,e⟩,st⟩:=x;exact⟨st _ _ p λo q=>k _ _ (.inl rfl) q,⟨o,k _ _ (.inl rfl) e⟩,st⟩
theorem HOk.lt(x:HOk P w H h)(e:H a=some o):a < h.objs.size:=(x a o e).lt
theorem HOk.fresh(x:HOk P w H h)(e:h.objs.size<=a):H a=none:=by
 cases q:H a with
 | none=>rfl
 | some u=>exact absurd (A3 (x.lt q) e) (B4 _)
theorem HOk.kept(x:HOk P w H h)(k:∀ b u,h.get? b=some u->h'.get? b=some u):HOk P w H h':=λa o e=>
 (x a o e).stay (λb u _ q=>k b u q) (λ_ q=>q) (λ_ _ q=>q) λ_ _ q=>q
theorem HOk.laid(x:HOk P w H h)(k:∀ b u,h.get? b=some u->h'.get? b=some u)(g:h.objs.size<=a)(new:bI P w (upd H a o) h' a o):HOk P w (upd H a o) h':=λb u e=>by
 have d:=x.fresh g
 by_cases f:b=a
 .subst f;rw[aN]at e;cases e;exact new
 .rw[aF f]at e
  exact(x b u e).stay (λc v _ q=>k c v q) (λc q=>by rw[aF (aV q d)];exact q) (λc xs q=>by rw[aF (aV q d)];exact q) λc xs q=>by rw[aF (aV q d)];exact q
end
def Rd(H:Hp)(a:Az)(u:HO):Prop:=H a=some u\/∃ o,H a=some (.frz o u)
theorem Rd.ok{w:W9}{h:H9}{a:Az}{u:HO}(r:Rd H a u)(x:HOk P w H h):bI P w H h a u:=by
 rcases r with r|⟨o,r⟩
 .exact x a u r
 .obtain ⟨_,q⟩:=x a _ r
  exact q
def Mut:O9 HO->Prop
 | some (.lst _)=>True
 | some (.dK _)=>True
 | some (.dT _)=>True
 | some (.set _ _)=>True
 | some (.ins _ _ _)=>True
 | some (.ext _)=>True
 | _=>False
section
variable{P:P9}{w:W9}{H:Hp}{h h':H9}{x e:Az}{o':HO}
theorem HOk.write(ok:HOk P w H h)(f:Mut (H x))(o:e=x\/H e=some (.own x))(k:∀ b u,b≠e->h.get? b=some u->h'.get? b=some u)(m:∃ u,h'.get? e=some u)
  (new:bI P w (upd H x o') h' x o'):HOk P w (upd H x o') h':=λb u q=>by
 have d:∀ c y,H c=some (.own y)->c≠x:=λc y r z=>by subst z;rw[r]at f;exact f
 have i:∀ c xs,H c=some (.tup xs)->c≠x:=λc xs r z=>by subst z;rw[r]at f;exact f
 have g:∀ c xs,H c=some (.cod xs)->c≠x:=λc xs r z=>by subst z;rw[r]at f;exact f
 by_cases l:b=x
 .subst l;rw[aN]at q;cases q;exact new
 .rw[aF l]at q
  by_cases a:b=e
  .have n:H b=some (.own x):=by
    rcases o with z|z
    · exact absurd (a.trans z) l
    · rw [a]; exact z
   rw[q]at n;cases n
   obtain⟨v,p⟩:=m
   exact⟨v,by rw[a];exact p⟩
  .refine (ok b u q).stay (λc v j r=>k c v ?_ r) (λc r=>by rw[aF (d c b r)];exact r) (λc xs r=>by rw[aF (g c xs r)];exact r) λc xs r=>by rw[aF (i c xs r)];exact r
   rcases j with rfl|j
   .exact a
   .rintro rfl
    rcases o with z|z
    · exact d c b j z
    · rw [j]at z; cases z; exact l rfl
end
structure Un(fs ex:List Az)(H H':Hp)(h h':Heap):Prop where
 keep:∀ b o,h.get? b=some o->H b=none->b∉fs->b∉ex->h'.get? b=some o
 slot:∀ b o,h.get? b=some o->H b=none->b∈fs->b∉ex->∃ sl,h'.get? b=some {o with slots:=sl}
 free:∀ b o,h.get? b=some o->H b=none->b∉ex->H' b=none
 there:∀ b o,h.get? b=some o->b∉ex->∃ o',h'.get? b=some o'
 tups:∀ b xs,H b=some (.tup xs)->H' b=some (.tup xs)
 frzs:∀ b o u,H b=some (.frz o u)->H' b=some (.frz o u)
 tbls:∀ b ps,H b=some (.tbl ps)->H' b=some (.tbl ps)
section
variable{fs fs' ex ex':L9 Az}{H H1 H2:Hp}{h h1 h2 h':H9}{a x e:Az}{o:HO}
theorem Un.any(u:Un fs ex H H1 h h1){a:Obj}(q:h.get? b=some a)(n:H b=none)(hx:b∉ex):∃ sl,h1.get? b=some {a with slots:=sl}:=by
 by_cases c:b∈fs
 · exact u.slot b a q n c hx
 · exact⟨a.slots, u.keep b a q n c hx⟩
theorem Un.trans(a:Un fs ex H H1 h h1)(b:Un fs ex H1 H2 h1 h2):Un fs ex H H2 h h2 where
 keep:=λc e q n f d=>b.keep c e (a.keep c e q n f d) (a.free c e q n d) f d
 slot:=λc e q n f d=>by
  obtain⟨sl,e1⟩:=a.slot c e q n f d
  obtain⟨g,e2⟩:=b.slot c _ e1 (a.free c e q n d) f d
  exact⟨g,e2⟩
 free:=λc e q n d=>by
  obtain⟨o',e1⟩:=a.there c e q d
  exact b.free c o' e1 (a.free c e q n d) d
 there:=λc e q d=>by
  obtain⟨o',e1⟩:=a.there c e q d
  exact b.there c o' e1 d
 tups:=λc xs q=>b.tups c xs (a.tups c xs q)
 frzs:=λc e xs q=>b.frzs c e xs (a.frzs c e xs q)
 tbls:=λc ps q=>b.tbls c ps (a.tbls c ps q)
theorem Un.kept(k:∀ b u,h.get? b=some u->h'.get? b=some u):Un fs ex H H h h':=
 ⟨λb a q _ _ _=>k b a q,λb a q _ _ _=>⟨a.slots,k b a q⟩,λ_ _ _ n _=>n,λb a q _=>⟨a,k b a q⟩,λ_ _ q=>q,λ_ _ _ q=>q,λ_ _ q=>q⟩
theorem Un.refl:Un fs ex H H h h:=Un.kept λ_ _ q=>q
theorem Un.laid(k:∀ b u,h.get? b=some u->h'.get? b=some u)(d:h.objs.size<=a)(c:H a=none):Un fs ex H (upd H a o) h h' where
 keep:=λb u q _ _ _=>k b u q
 slot:=λb u q _ _ _=>⟨u.slots,k b u q⟩
 free:=λb u q n _=>by rw[aF (BD (A3 (AT q) d))];exact n
 there:=λb u q _=>⟨u,k b u q⟩
 tups:=λb xs q=>by rw[aF (aV q c)];exact q
 frzs:=λb u xs q=>by rw[aF (aV q c)];exact q
 tbls:=λb ps q=>by rw[aF (aV q c)];exact q
theorem Un.write(c:Mut (H x))(j:e=x\/H e=some (.own x))(k:∀ b u,b≠e->h.get? b=some u->h'.get? b=some u)(d:∃ u,h'.get? e=some u):Un fs ex H (upd H x o) h h':=by
 have g:∀ b,H b=none->b≠x:=λb n z=>by subst z;rw[n]at c;exact c
 have i:∀ b,H b=none->b≠e:=λb n z=>by
  subst z
  rcases j with r|r
  · exact g b n r
  · rw [n]at r; cases r
 have f:∀ b u,H b=some u->¬ Mut (some u)->b≠x:=λb u q nm z=>by subst z;rw[q]at c;exact nm c
 refine⟨λb u q n _ _=>k b u (i b n) q,λb u q n _ _=>⟨u.slots,k b u (i b n) q⟩,λb u q n _=>by rw[aF (g b n)];exact n,λb u q _=>?_,
  λb xs q=>by rw[aF (f b _ q λz=>z)];exact q,λb u xs q=>by rw[aF (f b _ q λz=>z)];exact q,λb ps q=>by rw[aF (f b _ q λz=>z)];exact q⟩
 by_cases a:b=e
 .subst a;exact d
 .exact ⟨u,k b u a q⟩
end
noncomputable def trk(h:H9)(H:Hp):L9 Az:=(range h.objs.size).filter λa=>(H a).isSome
def n4(h:H9)(H:Hp):H9:=PySem.W.hideAll h (trk h H)
theorem aGP(h:H9)(H:Hp):(n4 h H).objs.size=h.objs.size:=PySem.W.hideAll_size _ _
theorem aJ0{h:H9}(e:h.get? b=some o)(n:H b=none):(n4 h H).get? b=some o:=
 PySem.W.hideAll_get _ e λa=>by
  have q:(H b).isSome=true:=(G7.mp a).2
  rw[n]at q;simp at q
theorem aNQ{h:H9}(e:(n4 h H).get? b=some o):h.get? b=some o/\H b=none:=by
 have a:h.get? b=some o:=PySem.W.of_hideAll (trk h H) e
 refine⟨a,?_⟩
 cases q:H b with
 | none=>rfl
 | some x=>
  have c:b∈trk h H:=G7.mpr ⟨BF.mpr (AT a),by simp[q]⟩
  have z:(n4 h H).get? b=none:=PySem.W.hideAll_none (trk h H) c
  rw[z]at e;cases e
structure Mod(K:Frag)(mg:Str->Option V9)(base:Heap):Prop where
 kin:K.In base
 glob:base.Ns mainGlobals mg
 blt:∃ mb,base.Ns builtinsNs mb/\∀ x:Str,x≠"__name__"->mb x=bootBuiltins x
 nolimit:base.NoLimit
structure Cx where
 prog:Program
 w:World
 K:Frag
 mg:Str->Option V9
 base:Heap
 A:Around
 N:List Str
 s₀:S9
 H₀:Hp
 env:Env
 outer:List Env
 stack:List Env
 ex:List Az
 fn:Str->Bool
 calm:Bool
 pn:List (Az×Obj)
 xe:V9->S9->Prop
noncomputable def frs(l:L9 Env):L9 Az:=l.filterMap (·.frame)
abbrev Cx.fs(X:Cx):L9 Az:=frs X.outer
def Vis(sc:Scope)(x:Str):Prop:=sc.names.lookup x=some .local\/sc.names.lookup x=some .cell\/sc.names.lookup x=some .free
def Loc(sc:Scope)(x:Str):Prop:=sc.names.lookup x=some .local\/sc.names.lookup x=some .cell
def aWC(env:Env)(h:H9)(m:Str->O9 V9)(x:Str)(u:V9):Prop:=
 (env.kindOf x=some .local/\m x=some u)\/((env.kindOf x=some .cell\/env.kindOf x=some .free)/\∃ c,env.cells.lookup x=some c/\h.IsCell c (some u))
structure Cx.Ok(X:Cx):Prop where
 mod:Mod X.K X.mg X.base
 kind:X.env.scope.kind=.function
 glob:X.env.globals=mainGlobals
 blt:X.env.builtins=builtinsNs
 above:X.s₀.heap.objs.size<=X.env.locals
 inj:∀ x y c,X.env.cells.lookup x=some c->X.env.cells.lookup y=some c->x=y
 has:∀ x,(X.env.kindOf x=some .cell\/X.env.kindOf x=some .free)->∃ c,X.env.cells.lookup x=some c
 cab:∀ x c,X.fn x=true->X.env.cells.lookup x=some c->X.s₀.heap.objs.size<=c
 hd:X.calm=true->X.A.handled=none
 frames:X.A.frames=some X.stack
 stk:X.stack=X.outer\/(X.stack=X.env::X.outer/\X.env.frame=some X.env.locals)
 exf:∀ b∈X.ex,b≠X.env.locals/\∀ x c,X.env.cells.lookup x=some c->c≠b
 bs:∀ b o,X.base.get? b=some o->X.s₀.heap.get? b=some o/\X.H₀ b=none
 bsz:X.base.objs.size<=X.s₀.heap.objs.size
 noex:∀ b o,X.base.get? b=some o->b∉X.ex
 exfs:∀ b∈X.ex,b∉X.fs
 funs:X.s₀.heap.FunFrames X.base X.outer
 frf:∀ b∈X.fs,X.H₀ b=none
structure Inv(X:Cx)(a0:List (Az×Obj))(Z:List (Option V))(H:Hp)(s:S9):Prop where
 ok:X.Ok
 os:s.os=X.s₀.os
 bare:AllBare s.gens
 base:Un X.fs X.ex X.H₀ H X.s₀.heap s.heap
 loc:∃ m,s.heap.Ns X.env.locals m/\∀ (i:Nat) (x:Str) (v:V),X.N[i]? = some x->Z[i]? = some (some v)->Vis X.env.scope x->∃ u,aP v u/\aWC X.env s.heap m x u
 cell:∀ x c,X.env.cells.lookup x=some c->∃ v,s.heap.IsCell c v
 free:H X.env.locals=none
 freeC:∀ x c,X.env.cells.lookup x=some c->H c=none
 pin:∀ p∈X.pn++a0,s.heap.get? p.1=some p.2/\H p.1=none/\p.1≠X.env.locals/\p.1∉X.fs/\∀ v,p.2.data≠.cell v
 hok:HOk X.prog X.w H s.heap
 len:Z.length=X.N.length
section
variable{X:Cx}{a0:L9 (Az×Obj)}{Z:L9 (O9 V)}{H H':Hp}{s:S9}{h':H9}
theorem Cx.Ok.nofr(ok:X.Ok)(e:X.base.get? b=some o):b∉X.fs:=λa=>by
 have:=(ok.funs.mem a).1
 rw[e]at this;cases this
theorem Inv.bs(I:Inv X a0 Z H s):∀ b o,X.base.get? b=some o->s.heap.get? b=some o/\H b=none:=λb o e=>
 ⟨I.base.keep b o (I.ok.bs b o e).1 (I.ok.bs b o e).2 (I.ok.nofr e) (I.ok.noex b o e),I.base.free b o (I.ok.bs b o e).1 (I.ok.bs b o e).2 (I.ok.noex b o e)⟩
theorem Inv.bk(I:Inv X a0 Z H s):∀ b o,X.base.get? b=some o->s.heap.get? b=some o:=λb o e=>(I.bs b o e).1
theorem Inv.mod(I:Inv X a0 Z H s):Mod X.K X.mg X.base:=I.ok.mod
theorem Inv.kIn(I:Inv X a0 Z H s):X.K.In s.heap:=I.ok.mod.kin.keeps I.bk
theorem Inv.lt(I:Inv X a0 Z H s):X.env.locals < s.heap.objs.size:=let ⟨_,hn,_⟩:=I.loc;hn.lt
theorem Inv.sz(I:Inv X a0 Z H s):X.s₀.heap.objs.size<=s.heap.objs.size:=AV I.ok.above (B7 I.lt)
theorem Inv.nofs(I:Inv X a0 Z H s){a:Az}(h:s.heap.objs.size<=a):a∉X.fs:=λc=>by
 obtain⟨_,o,b,_⟩:=I.ok.funs.mem c
 exact absurd (A3 (AT b) (AV I.sz h)) (B4 _)
theorem Inv.cne(I:Inv X a0 Z H s):∀ x c,X.env.cells.lookup x=some c->c≠X.env.locals:=λx c e z=>by
 obtain⟨v,o,f,d⟩:=I.cell x c e
 obtain⟨m,⟨o',es,g,a,b,_⟩,_⟩:=I.loc
 rw[z,a]at f;cases f;rw[b]at d;cases d
theorem Inv.funs(I:Inv X a0 Z H s):s.heap.FunFrames X.base X.outer:=by
 have all:∀ (l:L9 Env),(∀ b∈frs l,b∈X.fs)->X.s₀.heap.FunFrames X.base l->s.heap.FunFrames X.base l:=by
  intro l
  induction l with
  | nil=>intro _ _;trivial
  | cons env r ih=>
   intro f h
   obtain⟨i,⟨L,o,a,j,k,g⟩,hr⟩:=h
   have d:L∈X.fs:=f L (by unfold frs;rw[EG,a];exact AU)
   obtain⟨sl,e⟩:=I.base.slot L o k (I.ok.frf L d) d λz=>I.ok.exfs L z d
   exact⟨i,⟨L,_,a,j,e,g⟩,ih (λb c=>f b (by unfold frs;rw[EG,a];exact AS _ c)) hr⟩
 exact all X.outer (λ_ c=>c) I.ok.funs
theorem Inv.stack(I:Inv X a0 Z H s):s.heap.FunFrames X.base X.stack:=by
 rcases I.ok.stk with e|⟨e,a⟩
 .rw[e];exact I.funs
 .rw[e]
  obtain⟨m,b,_⟩:=I.loc
  refine .cons (by rw[I.ok.kind];decide) a b ?_ I.funs
  exact Heap.get?_none_of_le (AV I.ok.bsz I.ok.above)
theorem Inv.stkSub(I:Inv X a0 Z H s):∀ b∈frs X.stack,b∈X.env.locals::X.fs:=λb a=>by
 rcases I.ok.stk with e|⟨e,c⟩
 .rw[e]at a;exact AS _ a
 .rw[e]at a
  unfold frs at a
  rw[EG,c]at a
  exact a
theorem Inv.stkFree(I:Inv X a0 Z H s):∀ b∈frs X.stack,H b=none:=λb a=>by
 rcases AW.mp (I.stkSub b a)with e|a
 .rw[e];exact I.free
 .obtain ⟨_,o,c,_⟩:=I.ok.funs.mem a
  exact I.base.free b o c (I.ok.frf b a) λz=>I.ok.exfs b z a
theorem Inv.step{g':Array GenState}{d':Drawn}{ch:L9 Az}(I:Inv X a0 Z H s)
  (h:∀ b∈ch,(b∈X.ex\/X.s₀.heap.objs.size<=b)/\b≠X.env.locals/\(∀ x c,X.env.cells.lookup x=some c->c≠b)/\∀ p∈X.pn++a0,p.1≠b)
  (keep:∀ b o,b≠X.env.locals->b∉X.fs->b∉ch->s.heap.get? b=some o->H b=none->h'.get? b=some o)
  (slot:∀ b o,b≠X.env.locals->b∈X.fs->b∉ch->s.heap.get? b=some o->H b=none->∃ sl,h'.get? b=some {o with slots:=sl}) (free:∀ b o,b∉ch->s.heap.get? b=some o->H b=none->H' b=none)
  (there:∀ b o,b∉ch->s.heap.get? b=some o->∃ o',h'.get? b=some o')
  (tups:∀ b xs,H b=some (.tup xs)->H' b=some (.tup xs)) (frzs:∀ b o u,H b=some (.frz o u)->H' b=some (.frz o u)) (tbls:∀ b ps,H b=some (.tbl ps)->H' b=some (.tbl ps))
  (ns:∀ m,s.heap.Ns X.env.locals m->h'.Ns X.env.locals m) (hok:HOk X.prog X.w H' h') (hg:AllBare g') :
  Inv X a0 Z H' {s with heap:=h',gens:=g',drawn:=d',toks:=t'}:=by
 have A:∀ b o,X.s₀.heap.get? b=some o->b≠X.env.locals:=λb o e=>BD (A3 (AT e) I.ok.above)
 have j:∀ b o,X.s₀.heap.get? b=some o->b∉X.ex->b∉ch:=λb o e a t=>by
  rcases(h b t).1 with z|z
  .exact a z
  .exact absurd (A3 (AT e) z) (B4 _)
 have f:∀ x c,X.env.cells.lookup x=some c->∀ v,s.heap.IsCell c v->h'.IsCell c v:=λx c e v D=>by
  obtain⟨o,y,B⟩:=D
  have g:c∉ch:=λz=>(h c z).2.2.1 x c e rfl
  by_cases F:c∈X.fs
  .obtain ⟨sl,q⟩:=slot c o (I.cne x c e) F g y (I.freeC x c e)
   exact⟨_,q,B⟩
  .exact ⟨o,keep c o (I.cne x c e) F g y (I.freeC x c e),B⟩
 refine⟨I.ok,I.os,hg,⟨λb o e n t a=>?_,λb o e n t a=>?_,λb o e n a=>?_,λb o e a=>?_,λb xs e=>tups b xs (I.base.tups b xs e),λb o xs e=>frzs b o xs (I.base.frzs b o xs e),λb ps e=>?_⟩,?_,λx c e=>?_,?_,λx c e=>?_,λp E=>?_,hok,I.len⟩
 .exact keep b o (A b o e) t (j b o e a) (I.base.keep b o e n t a) (I.base.free b o e n a)
 .obtain ⟨sl,e1⟩:=I.base.slot b o e n t a
  obtain⟨C,e2⟩:=slot b _ (A b o e) t (j b o e a) e1 (I.base.free b o e n a)
  exact⟨C,e2⟩
 .obtain ⟨o',e1⟩:=I.base.there b o e a
  exact free b o' (j b o e a) e1 (I.base.free b o e n a)
 .obtain ⟨o',e1⟩:=I.base.there b o e a
  exact there b o' (j b o e a) e1
 .exact tbls b ps (I.base.tbls b ps e)
 .obtain ⟨m,L,K⟩:=I.loc
  refine⟨m,ns m L,λi x v e1 e2 M=>?_⟩
  obtain⟨u,r,l⟩:=K i x v e1 e2 M
  refine⟨u,r,?_⟩
  rcases l with l|⟨k,c,e,z⟩
  .exact .inl l
  .exact .inr ⟨k,c,e,f x c e _ z⟩
 .obtain ⟨v,z⟩:=I.cell x c e
  exact⟨v,f x c e v z⟩
 .obtain ⟨m,⟨o,_,_,y,_⟩,_⟩:=I.loc
  exact free _ o (λz=>(h _ z).2.1 rfl) y I.free
 .obtain ⟨v,o,y,B⟩:=I.cell x c e
  exact free c o (λz=>(h c z).2.2.1 x c e rfl) y (I.freeC x c e)
 .obtain ⟨e,n,J,G,d⟩:=I.pin p E
  have g:p.1∉ch:=λz=>(h p.1 z).2.2.2 p E rfl
  exact⟨keep p.1 p.2 J G g e n,free p.1 p.2 g e n,J,G,d⟩
theorem Inv.un{t':Nat}(I:Inv X a0 Z H s)(u:Un X.fs [] H H' s.heap h')(hok:HOk X.prog X.w H' h'):Inv X a0 Z H' {s with heap:=h',toks:=t'}:=by
 obtain⟨m,⟨o,es,k,g,r⟩,_⟩:=id I.loc
 obtain⟨sl,j⟩:=u.any g I.free (by simp)
 exact I.step (g':=s.gens) (d':=s.drawn) (ch:=[]) (λ_ z=>nomatch z) (λb o _ f _ e n=>u.keep b o e n f (by simp)) (λb o _ f _ e n=>u.slot b o e n f (by simp)) (λb o _ e n=>u.free b o e n (by simp)) (λb o _ e=>u.there b o e (by simp)) u.tups u.frzs u.tbls (λl i=>by
  obtain⟨o',c,d,a,h⟩:=i
  rw[g]at a;cases a
  exact⟨_,c,d,j,h⟩) hok I.bare
theorem Inv.call{g':Array GenState}{t':Nat}{d':Drawn}{ch:L9 Az}(I:Inv X a0 Z H s)(u:Un (frs X.stack) ch H H' s.heap h')(hok:HOk X.prog X.w H' h')(l:AllBare g')
  (f:∀ b∈ch,(b∈X.ex\/X.s₀.heap.objs.size<=b)/\b≠X.env.locals/\(∀ x c,X.env.cells.lookup x=some c->c≠b)/\∀ p∈X.pn++a0,p.1≠b) :
  Inv X a0 Z H' {s with heap:=h',gens:=g',drawn:=d',toks:=t'}:=by
 obtain⟨m,⟨o,es,y,j,r⟩,_⟩:=id I.loc
 obtain⟨sl,i⟩:=u.any j I.free λz=>(f _ z).2.1 rfl
 exact I.step (ch:=ch) f (λb o i t a e n=>u.keep b o e n (λz=>(AW.mp (I.stkSub b z)).elim i t) a) (λb o _ _ a e n=>u.any e n a) (λb o a e n=>u.free b o e n a) (λb o a e=>u.there b o e a) u.tups u.frzs u.tbls (λv k=>by
  obtain⟨o',g,h,d,q⟩:=k
  rw[j]at d;cases d
  exact⟨_,g,h,i,q⟩) hok l
theorem Inv.turned{t':Nat}{it:Az}(I:Inv X a0 Z H s)(k:∀ b o,b≠it->s.heap.get? b=some o->h'.get? b=some o)(i:H it=none)(f:it≠X.env.locals)
  (h1:it∈X.ex\/X.s₀.heap.objs.size<=it) (h2:∀ x c,X.env.cells.lookup x=some c->c≠it) (t:∀ p∈X.pn++a0,p.1≠it):Inv X a0 Z H {s with heap:=h',toks:=t'}:=by
 have d:∀ b u,H b=some u->b≠it:=λb u e z=>by rw[z,i]at e;cases e
 refine I.step (g':=s.gens) (d':=s.drawn) (ch:=[it]) (λb l=>?_) (λb o _ _ a e _=>k b o (λz=>a (by simp[z])) e) (λb o _ _ a e _=>⟨o.slots,k b o (λz=>a (by simp[z])) e⟩) (λ_ _ _ _ n=>n)
  (λb o a e=>⟨o,k b o (λz=>a (by simp[z])) e⟩) (λ_ _ e=>e) (λ_ _ _ e=>e) (λ_ _ e=>e) (λm h=>?_) (λb u e=>?_) I.bare
 .have e:b=it:=by simpa using l
  subst e
  exact⟨h1,f,h2,t⟩
 .obtain ⟨o,es,g,j,r⟩:=h
  exact⟨o,es,g,k _ o (BL f) j,r⟩
 .refine (I.hok b u e).stay (λc v a q=>k c v ?_ q) (λ_ q=>q) (λ_ _ q=>q) λ_ _ q=>q
  rcases a with z|z
  · rw [z]; exact d b u e
  · exact d c _ z
theorem Inv.tok(I:Inv X a0 Z H s)(t:Nat):Inv X a0 Z H {s with toks:=t}:=I.un (h':=s.heap) (t':=t) Un.refl I.hok
theorem Inv.kept{t':Nat}(I:Inv X a0 Z H s)(k:∀ b u,s.heap.get? b=some u->h'.get? b=some u):Inv X a0 Z H {s with heap:=h',toks:=t'}:=I.un (Un.kept k) (I.hok.kept k)
theorem Inv.laid{a:Az}{o:HO}{t':Nat}(I:Inv X a0 Z H s)(k:∀ b u,s.heap.get? b=some u->h'.get? b=some u)(c:s.heap.objs.size<=a)(new:bI X.prog X.w (upd H a o) h' a o) :
 Inv X a0 Z (upd H a o) {s with heap:=h',toks:=t'}:=I.un (Un.laid k c (I.hok.fresh c)) (I.hok.laid k c new)
theorem Inv.write{x e:Az}{o:HO}(I:Inv X a0 Z H s)(c:Mut (H x))(d:e=x\/H e=some (.own x))(k:∀ b u,b≠e->s.heap.get? b=some u->h'.get? b=some u)(a:∃ u,h'.get? e=some u)
 (new:bI X.prog X.w (upd H x o) h' x o):Inv X a0 Z (upd H x o) {s with heap:=h',toks:=t'}:=I.un (Un.write c d k a) (I.hok.write c d k a new)
theorem Inv.pins_of{pins':L9 (Az×Obj)}(I:Inv X a0 Z H s)(h:∀ p∈pins',s.heap.get? p.1=some p.2/\H p.1=none/\p.1≠X.env.locals/\p.1∉X.fs/\∀ v,p.2.data≠.cell v):Inv X pins' Z H s:=
 ⟨I.ok,I.os,I.bare,I.base,I.loc,I.cell,I.free,I.freeC,λp a=>(A7.mp a).elim (λz=>I.pin p (CP _ z)) (h p),I.hok,I.len⟩
theorem aAC(hN:N.Nodup)(a:N[i]? = some x)(b:N[j]? = some x):i=j:=by
 obtain⟨h1,e1⟩:=AD.mp a
 obtain⟨h2,e2⟩:=AD.mp b
 exact(List.getElem_inj hN).mp (e1.trans e2.symm)
theorem yT{A:U9}{v:V}{Q:Unit->S9->Prop}(I:Inv X a0 Z H s)(hN:X.N.Nodup)(hi:X.N[i]? = some x)(hx:Loc X.env.scope x)(r:aP v u)
  (h:∀ s',Inv X a0 (Z.set i (some v)) H s'->(∃ a,Heap.SameBut a s.heap s'.heap/\(a=X.env.locals\/X.env.cells.lookup x=some a))->Q () s') (hf:X.fn x=true\/X.env.scope.names.lookup x=some .local):wpAny M A (storeName X.env x u) Q E s:=by
 obtain⟨m,U,hl⟩:=id I.loc
 have O:(X.env.scope.kind == .class || (X.env.scope.kind == .module && X.env.locals != X.env.globals))=false:=by rw[I.ok.kind];rfl
 have C:i < Z.length:=by rw[I.len];exact(AD.mp hi).1
 have cne:=I.cne
 have g:∀ {a:Az} {h':H9},(∃ o,s.heap.get? a=some o/\H a=none)->Heap.SameBut a s.heap h'->HOk X.prog X.w H h':=λ{a h'} ha f b ob e=>by
  obtain⟨_,_,t⟩:=ha
  refine(I.hok b ob e).stay (λc S l q=>(f.2 c ?_).trans q) (λ_ q=>q) (λ_ _ q=>q) λ_ _ q=>q
  rintro rfl
  rcases l with rfl|l
  .rw[t]at e;cases e
  .rw[t]at l;cases l
 rcases hx with B|B
 .refine wpAny_storeName_local B U (λh' W f=>?_) O
  obtain⟨oL,_,_,ac,_⟩:=id U
  refine h _ ⟨I.ok,I.os,I.bare,⟨λb o e n F hx=>?_,λb o e n F hx=>?_,I.base.free,λb o e hx=>?_,I.base.tups,I.base.frzs,I.base.tbls⟩,⟨_,W,λj y v' e1 e2 Y=>?_⟩,λy c e=>?_,I.free,I.freeC,λp hp=>?_,g ⟨oL,ac,I.free⟩ f,by simpa using I.len⟩ ⟨_,f,.inl rfl⟩
  .exact (f.2 b (BD (A3 (AT e) I.ok.above))).trans (I.base.keep b o e n F hx)
  .obtain ⟨sl,e1⟩:=I.base.slot b o e n F hx
   exact⟨sl,(f.2 b (BD (A3 (AT e) I.ok.above))).trans e1⟩
  .obtain ⟨o',e1⟩:=I.base.there b o e hx
   exact⟨o',(f.2 b (BD (A3 (AT e) I.ok.above))).trans e1⟩
  .by_cases G:j=i
   .subst G
    rw[hi]at e1;cases e1
    rw[DG C]at e2
    cases e2
    exact⟨u,r,.inl ⟨B,by simp⟩⟩
   .rw[CQ (BL G)]at e2
    obtain⟨u',r',q⟩:=hl j y v' e1 e2 Y
    refine⟨u',r',?_⟩
    rcases q with ⟨k,e⟩|⟨k,c,e,z⟩
    .refine .inl ⟨k,?_⟩
     have:y≠x:=λe=>G (aAC hN e1 (e▸hi))
     simp[this,e]
    .exact .inr ⟨k,c,e,z.sameBut f (cne y c e)⟩
  .obtain ⟨S,z⟩:=I.cell y c e
   exact⟨S,z.sameBut f (cne y c e)⟩
  .obtain ⟨e,n,T,nf,d⟩:=I.pin p hp
   exact⟨(f.2 p.1 T).trans e,n,T,nf,d⟩
 .have D:X.fn x=true:=by
   rcases hf with z|z
   .exact z
   .rw[z]at B;cases B
  obtain⟨c,l⟩:=I.ok.has x (.inl B)
  obtain⟨S,z⟩:=I.cell x c l
  refine wpAny_storeName_cell I.ok.kind B l z (λh' P f=>?_)
  obtain⟨oc,L,J⟩:=id z
  refine h {s with heap:=h'} ⟨I.ok,I.os,I.bare,⟨λb o e n F hx=>?_,λb o e n F hx=>?_,I.base.free,λb o e hx=>?_,I.base.tups,I.base.frzs,I.base.tbls⟩,⟨m,U.sameBut f (BL (cne x c l)),λj y v' e1 e2 Y=>?_⟩,λy R e=>?_,I.free,I.freeC,λp hp=>?_,g ⟨oc,L,I.freeC x c l⟩ f,by simpa using I.len⟩ ⟨c,f,.inr l⟩
  .exact (f.2 b (BD (A3 (AT e) (I.ok.cab x c D l)))).trans (I.base.keep b o e n F hx)
  .obtain ⟨sl,e1⟩:=I.base.slot b o e n F hx
   exact⟨sl,(f.2 b (BD (A3 (AT e) (I.ok.cab x c D l)))).trans e1⟩
  .obtain ⟨o',e1⟩:=I.base.there b o e hx
   exact⟨o',(f.2 b (BD (A3 (AT e) (I.ok.cab x c D l)))).trans e1⟩
  .by_cases G:j=i
   .subst G
    rw[hi]at e1;cases e1
    rw[DG C]at e2
    cases e2
    exact⟨u,r,.inr ⟨.inl B,c,l,P⟩⟩
   .rw[CQ (BL G)]at e2
    obtain⟨u',r',q⟩:=hl j y v' e1 e2 Y
    refine⟨u',r',?_⟩
    rcases q with q|⟨k,R,e,z'⟩
    .exact .inl q
    .refine .inr ⟨k,R,e,z'.sameBut f ?_⟩
     rintro rfl
     exact G (aAC hN e1 (I.ok.inj _ _ _ e l▸hi))
  .by_cases K:R=c
   .subst K;exact⟨_,P⟩
   .obtain ⟨w2,z2⟩:=I.cell y R e
    exact⟨w2,z2.sameBut f K⟩
  .obtain ⟨e,n,T,nf,d⟩:=I.pin p hp
   refine⟨(f.2 p.1 ?_).trans e,n,T,nf,d⟩
   intro q
   rw[q,L]at e
   have q':oc=p.2:=BK e
   exact d S (by rw[<-q'];exact J)
theorem o8{A:U9}{v:V}{Q:Unit->S9->Prop}(I:Inv X a0 Z H s)(hN:X.N.Nodup)(hi:X.N[i]? = some x)(hx:Loc X.env.scope x)(r:aP v u)
  (h:∀ s',Inv X a0 (Z.set i (some v)) H s'->Q () s') (a:X.fn x=true\/X.env.scope.names.lookup x=some .local):wpAny M A (storeName X.env x u) Q E s:=
 yT I hN hi hx r (λs' b _=>h s' b) a
theorem Inv.call'{ch:L9 Az}(I:Inv X a0 Z H s)(f:s'.os=s.os)(u:Un (frs X.stack) ch H H' s.heap s'.heap)(hok:HOk X.prog X.w H' s'.heap)(d:AllBare s'.gens)
  (a:∀ b∈ch,(b∈X.ex\/X.s₀.heap.objs.size<=b)/\b≠X.env.locals/\(∀ x c,X.env.cells.lookup x=some c->c≠b)/\∀ p∈X.pn++a0,p.1≠b):Inv X a0 Z H' s':=by
 obtain⟨h',g',d',t',o'⟩:=s'
 have e:o'=s.os:=f
 subst e
 exact I.call (g':=g') (t':=t') (d':=d') u hok d a
end
abbrev XK:=V9->O9 Az->Hp->Prop
abbrev St:=L9 (O9 V)
abbrev VK:=V->Hp->Prop
abbrev TE:=St->Hp->VK->Prop
abbrev TT:=St->Hp->(Bool->Hp->Prop)->Prop
abbrev TA:=St->Hp->(L9 V->Hp->Prop)->Prop
structure iF where
 nx:St->Hp->Prop
 rt:VK
 bk:St->Hp->Prop:=λ_ _=>False
 ct:St->Hp->Prop:=λ_ _=>False
abbrev TS:=iF->St->Hp->Prop
def EP(X:Cx)(a0:L9 (Az×Obj))(Z:St)(Q:VK)(u:V9)(s':S9):Prop:=∃ v H',Inv X a0 Z H' s'/\aP v u/\Q v H'
def TP(X:Cx)(a0:L9 (Az×Obj))(Z:St)(Q:Bool->Hp->Prop)(b:Bool)(s':S9):Prop:=∃ H',Inv X a0 Z H' s'/\Q b H'
def AP(X:Cx)(a0:L9 (Az×Obj))(Z:St)(Q:L9 V->Hp->Prop)(us:L9 V9)(s':S9):Prop:=∃ vs H',Inv X a0 Z H' s'/\aT vs us/\Q vs H'
def SP(X:Cx)(a0:L9 (Az×Obj))(D:iF)(f:Flow)(s':S9):Prop:=
 match f with
 | .next=>∃ Z' H',Inv X a0 Z' H' s'/\D.nx Z' H'
 | .brk=>∃ Z' H',Inv X a0 Z' H' s'/\D.bk Z' H'
 | .cont=>∃ Z' H',Inv X a0 Z' H' s'/\D.ct Z' H'
 | .ret u=>∃ v Z' H',Inv X a0 Z' H' s'/\aP v u/\D.rt v H'
def PE(X:Cx)(e:E2)(t:TE):Prop:=
 ∀ (a0:L9 (Az×Obj)) (s:S9) (Z:St) (H:Hp) (Q:VK),Inv X a0 Z H s->t Z H Q->wpAny (model X.prog X.w) X.A (eval e X.env) (EP X a0 Z Q) X.xe s
def PT(X:Cx)(e:E2)(t:TT):Prop:=
 ∀ (a0:L9 (Az×Obj)) (s:S9) (Z:St) (H:Hp) (Q:Bool->Hp->Prop),Inv X a0 Z H s->t Z H Q->wpAny (model X.prog X.w) X.A (isTrue e X.env (eval e X.env)) (TP X a0 Z Q) X.xe s
def PW(X:Cx)(e:E2)(t:TT):Prop:=
 ∀ (whole:Sem V9) (a0:L9 (Az×Obj)) (s:S9) (Z:St) (H:Hp) (Q:Bool->Hp->Prop),Inv X a0 Z H s->t Z H Q->wpAny (model X.prog X.w) X.A (isTrue e X.env whole) (TP X a0 Z Q) X.xe s
theorem PW.pt{X:Cx}{t:TT}(h:PW X e t):PT X e t:=h _
def PA(X:Cx)(es:L9 E2)(t:TA):Prop:=
 ∀ (pos:Pos) (a0:L9 (Az×Obj)) (s:S9) (Z:St) (H:Hp) (Q:L9 V->Hp->Prop),Inv X a0 Z H s->t Z H Q->wpAny (model X.prog X.w) X.A (spliced (backTo pos (starEach es X.env))) (AP X a0 Z Q) X.xe s
def PS(X:Cx)(st:Stmt)(t:TS):Prop:=
 ∀ (a0:L9 (Az×Obj)) (s:S9) (Z:St) (H:Hp) (D:iF),Inv X a0 Z H s->t D Z H->wpAny (model X.prog X.w) X.A (exec st X.env) (SP X a0 D) X.xe s
def PSs(X:Cx)(st:L9 Stmt)(t:TS):Prop:=
 ∀ (a0:L9 (Az×Obj)) (s:S9) (Z:St) (H:Hp) (D:iF),Inv X a0 Z H s->t D Z H->wpAny (model X.prog X.w) X.A (execs st X.env) (SP X a0 D) X.xe s
theorem thn{t:Sem α}{Q b:α->S9->Prop}{A:U9}(h:wpAny M A t Q E s)(c:∀ a s,Q a s->b a s):wpAny M A t b E s:=BO h c λ_ _ x=>x
section
variable{X:Cx}
def jA(i:Nat):TE:=λZ H Q=>∃ v,Z[i]? = some (some v)/\Q v H
def tC(v:V):TE:=λ_ H Q=>Q v H
theorem aRF{pos:Pos}(hN:X.N[i]? = some x)(o:Vis X.env.scope x)(f:(x == ("__debug__":Str))=false:=by decide)(hcd:(x == ("__classdict__":Str))=false:=by decide):PE X (.Name x pos) (jA i):=by
 intro a0 s Z H Q I h
 obtain⟨v,e,h⟩:=h
 obtain⟨m,n,j⟩:=I.loc
 obtain⟨u,r,l⟩:=j i x v hN e o
 have d:EP X a0 Z Q u s:=⟨v,H,I,r,h⟩
 rcases l with ⟨b,k⟩|⟨b,c,g,a⟩
 .exact wpAny_Name (wpAny_loadName_local I.ok.kind b n k d) f
 .rcases b with b|b
  · exact wpAny_Name (wpAny_loadName_cell I.ok.kind b g a d) f
  · exact wpAny_Name (wpAny_loadName_free I.ok.kind b g a d hcd) f
theorem aRG{i j pos}:PE X (.Constant (.int i) j pos) (tC (.int i)):=λ_ _ _ H _ I h=>wpAny_Constant_int ⟨.int i,H,I.tok _,⟨_,rfl⟩,h⟩
theorem aUU{b j pos}:PE X (.Constant (.bool b) j pos) (tC (.bl b)):=λ_ _ _ H _ I h=>Constant_bool ⟨.bl b,H,I,rfl,h⟩
theorem aRH{j pos}:PE X (.Constant .none j pos) (tC .non):=λ_ _ _ H _ I h=>Constant_none ⟨.non,H,I,rfl,h⟩
theorem aAD{x j pos}:PE X (.Constant (.str x) j pos) (tC (.str x)):=λ_ _ _ H _ I h=>Calls.Constant_str ⟨.str x,H,I.tok _,⟨_,rfl⟩,h⟩
def Gl(X:Cx)(x:Str):Prop:=X.env.kindOf x=some .globalImplicit
theorem mB{pos:Pos}(I:Inv X a0 Z H s)(b:Gl X x)(a:X.mg x=some u)(h:Q u s)
  (c:(x == ("__debug__":Str))=false:=by decide):wpAny (model X.prog X.w) X.A (eval (.Name x pos) X.env) Q E s:=
 GA I.ok.kind b (Calls.loadGlobal_global (by rw[I.ok.glob];exact I.mod.glob.keeps I.bk) a h) c
theorem lJ{pos:Pos}(I:Inv X a0 Z H s)(d:Gl X x)(a:X.mg x=none)(c:bootBuiltins x=some u)(h:Q u s)
  (b:x≠"__name__":=by decide) (hd:(x == ("__debug__":Str))=false:=by decide):wpAny (model X.prog X.w) X.A (eval (.Name x pos) X.env) Q E s:=by
 obtain⟨e,h1,h2⟩:=I.mod.blt
 exact GA I.ok.kind d (Calls.loadGlobal_builtin (by rw[I.ok.glob];exact I.mod.glob.keeps I.bk) a (by rw[I.ok.blt];exact h1.keeps I.bk) ((h2 x b).trans c) h) hd
theorem xI{v:V}{pos:Pos}(b:Gl X x)(a:X.mg x=some u)(r:aP v u)(c:(x == ("__debug__":Str))=false:=by decide):PE X (.Name x pos) (tC v):=
 λ_ _ _ H _ I h=>mB I b a ⟨v,H,I,r,h⟩ c
theorem aC5{v:V}{pos:Pos}(b:Gl X x)(a:X.mg x=none)(d:bootBuiltins x=some u)(r:aP v u)(c:x≠"__name__":=by decide)(hd:(x == ("__debug__":Str))=false:=by decide):PE X (.Name x pos) (tC v):=
 λ_ _ _ H _ I h=>lJ I b a d ⟨v,H,I,r,h⟩ c hd
variable{a b:E2}{ta tb:TE}{pos:Pos}
def PC(X:Cx)(op:CmpOp)(a b:E2)(t:TE):Prop:=
 ∀ (a0:L9 (Az×Obj)) (s:S9) (Z:St) (H:Hp) (Q:VK),Inv X a0 Z H s->t Z H Q->
  wpAny (model X.prog X.w) X.A (eval a X.env) (λv s₁=>wpAny (model X.prog X.w) X.A (eval b X.env) (λu s₂=>wpAny (model X.prog X.w) X.A (compareOp op v u) (EP X a0 Z Q) X.xe s₂) X.xe s₁) X.xe s
theorem aJ1(b:E2)(h:op≠.In)(h2:op≠.NotIn):behindInMarks op b=false:=by
 have e1:(op == CmpOp.In)=false:=by cases op<;>first|rfl|exact absurd rfl h
 have e2:(op == CmpOp.NotIn)=false:=by cases op<;>first|rfl|exact absurd rfl h2
 cases b<;>simp[behindInMarks,e1,e2]
def tB(t:TE):TT:=λZ H Q=>t Z H λx H1=>∃ c,x=.bl c/\Q c H1
theorem g9{t:TE}(h:PC X op a b t)(h1:behindInMarks op b=false:=by first|exact aJ1 _ (by decide) (by decide)|rfl):PT X (.Compare a [op] [b] pos) (tB t):=by
 intro a0 s Z H Q I i
 refine wpAny_isTrue_Compare1 (thn (h a0 s Z H _ I i) λv s1 h1=>thn h1 λu k h2=>thn h2 λc j e=>?_) h1
 obtain⟨x,H1,g,r1,f⟩:=e
 obtain⟨d,rfl,q⟩:=f
 cases r1
 exact D4 ⟨H1,g,q⟩
theorem qH{t:TE}(h:PE X e t)(b:∀ whole,isTrue e X.env whole=(do let v <-whole;standAt e.pos;holding [v] (truthy v)):=by intro _;rfl):PT X e (tB t):=by
 intro a0 s Z H Q I g
 refine isTrue_plain (thn (h a0 s Z H _ I g) λv s1 a=>?_) (b _)
 obtain⟨x,H1,f,r1,c⟩:=a
 obtain⟨d,rfl,q⟩:=c
 cases r1
 exact D4 ⟨H1,f,q⟩
variable{tA tB':TT}{rest:L9 E2}
def aRI(t u:TT):TT:=λZ H Q=>t Z H λc H1=>if c=true then u Z H1 Q else Q false H1
def tOr(t u:TT):TT:=λZ H Q=>t Z H λc H1=>if c=true then Q true H1 else u Z H1 Q
def aWD(t:TT):TT:=λZ H Q=>t Z H λc H1=>Q (!c) H1
theorem sA(b:PT X a tA):PW X (.BoolOp .And [a] pos) tA:=by
 intro d a0 s Z H Q I h
 refine isTrue_and (thn (b a0 s Z H Q I h) λc s1 e=>?_)
 cases c with
 | true=>exact isTrue_and_nil e
 | false=>exact e
theorem aAE(b:PT X a tA):PW X (.BoolOp .Or [a] pos) tA:=by
 intro d a0 s Z H Q I h
 refine isTrue_or (thn (b a0 s Z H Q I h) λc s1 e=>?_)
 cases c with
 | false=>exact isTrue_or_nil e
 | true=>exact e
theorem vF(i:PT X a tA)(hb:PW X (.BoolOp .And (b::rest) pos) tB'):PW X (.BoolOp .And (a::b::rest) pos) (aRI tA tB'):=by
 intro g a0 s Z H Q I h
 refine isTrue_and (thn (i a0 s Z H _ I h) λc s1 d=>?_)
 obtain⟨H1,f,e⟩:=d
 cases c with
 | true=>exact hb g a0 s1 Z H1 Q f e
 | false=>exact⟨H1,f,e⟩
theorem zY(i:PT X a tA)(hb:PW X (.BoolOp .Or (b::rest) pos) tB'):PW X (.BoolOp .Or (a::b::rest) pos) (tOr tA tB'):=by
 intro g a0 s Z H Q I h
 refine isTrue_or (thn (i a0 s Z H _ I h) λc s1 d=>?_)
 obtain⟨H1,f,e⟩:=d
 cases c with
 | true=>exact⟨H1,f,e⟩
 | false=>exact hb g a0 s1 Z H1 Q f e
theorem qI(b:PT X a tA):PT X (.UnaryOp .Not a pos) (aWD tA):=by
 intro a0 s Z H Q I h
 exact isTrue_not (b a0 s Z H (λc H1=>Q (!c) H1) I h)
def aUV(ta tb:TE):TE:=λZ H Q=>ta Z H λx H1=>∃ c,x=.bl c/\if c=true then tb Z H1 Q else Q (.bl false) H1
def aUW(ta:TE):TE:=λZ H Q=>ta Z H λx H1=>∃ c,x=.bl c/\Q (.bl (!c)) H1
theorem aRJ{op}{t:TE}(h:PE X a t):PE X (.BoolOp op [a] pos) t:=λa0 s Z H Q I b=>BoolOp_one (h a0 s Z H Q I b)
theorem aRK(g:PE X a ta)(hb:PE X (.BoolOp .And (b::rest) pos) tb):PE X (.BoolOp .And (a::b::rest) pos) (aUV ta tb):=by
 intro a0 s Z H Q I h
 refine BoolOp_and (thn (g a0 s Z H _ I h) λv s1 e=>?_)
 obtain⟨x,H1,f,r1,d⟩:=e
 obtain⟨c,rfl,d⟩:=d
 cases r1
 refine D4 ?_
 cases c with
 | true=>exact hb a0 s1 Z H1 Q f d
 | false=>exact⟨.bl false,H1,f,rfl,d⟩
theorem aRL(e:PE X a ta):PE X (.UnaryOp .Not a pos) (aUW ta):=by
 intro a0 s Z H Q I h
 refine UnaryOp_ (thn (e a0 s Z H _ I h) λv s1 b=>?_)
 obtain⟨x,H1,f,r1,d⟩:=b
 obtain⟨c,rfl,d⟩:=d
 cases r1
 exact not_of (D4 ⟨.bl (!c),H1,f,rfl,d⟩)
def tIf(t:TT)(ta tb:TE):TE:=λZ H Q=>t Z H λc H1=>if c=true then ta Z H1 Q else tb Z H1 Q
theorem aJ2(j:PT X c tA)(i:PE X a ta)(hb:PE X b tb):PE X (.IfExp c a b pos) (tIf tA ta tb):=by
 intro a0 s Z H Q I h
 refine wpAny_IfExp (thn (j a0 s Z H _ I h) λd s1 e=>?_)
 obtain⟨H1,g,f⟩:=e
 cases d with
 | true=>exact i a0 s1 Z H1 Q g f
 | false=>exact hb a0 s1 Z H1 Q g f
end
def SqL(K:Frag)(H:Hp)(a:Az)(xs:L9 V):Prop:=
 Rd H a (.lst xs) \/
  ∃ (o:Obj) (its:Array V9) (n:Nat),K.lookup a=some o/\o.cls=.type "list"/\o.dict=none/\o.data=.seq its n/\its.size<=sizeLine/\aT xs its.toList
def SqT(K:Frag)(H:Hp)(a:Az)(xs:L9 V):Prop:=
 Rd H a (.tup xs) \/
  ∃ (o:Obj) (its:Array V9) (n:Nat),K.lookup a=some o/\(o.cls=.type "tuple"/\o.dict=none)/\o.data=.seq its n/\its.size<=sizeLine/\aT xs its.toList
noncomputable def aWE:V9->O9 V
 | .none=>some .non
 | .bool b=>some (.bl b)
 | .int i _=>some (.int i)
 | .str x _=>some (.str x)
 | .bytes b _=>some (.byt b)
 | .float b _=>some (.flt b)
 | .ref a=>some (.ref a)
 | .type n=>some (.ty n)
 | _=>none
theorem aP.abs{x:V}(r:aP x u):aWE u=some x:=by
 cases x with
 | non=>cases r;rfl
 | bl _=>cases r;rfl
 | int _=>obtain⟨t,rfl⟩:=r;rfl
 | str _=>obtain⟨t,rfl⟩:=r;rfl
 | byt _=>obtain⟨t,rfl⟩:=r;rfl
 | flt _=>obtain⟨t,rfl⟩:=r;rfl
 | ref _=>cases r;rfl
 | ty _=>cases r;rfl
theorem aP.inj{x y:V}{u:V9}(r:aP x u)(q:aP y u):x=y:=BK (r.abs.symm.trans q.abs)
theorem aT.inj:∀ {xs ys:L9 V} {us:L9 V9},aT xs us->aT ys us->xs=ys
 | _,_,_,.nil,.nil=>rfl
 | _,_,_,.cons r t,.cons r' t'=>by rw[r.inj r',aT.inj t t']
section
variable{X:Cx}{a0:L9 (Az×Obj)}{Z:St}{H:Hp}{s:S9}{a:Az}{xs ys:L9 V}
theorem SqL.of(h:H a=some (.lst xs)):SqL K H a xs:=.inl (.inl h)
theorem SqT.of(h:H a=some (.tup xs)):SqT K H a xs:=.inl (.inl h)
theorem Inv.list(I:Inv X a0 Z H s)(h:SqL X.K H a xs):∃ its:L9 V9,aT xs its/\PlainL s.heap a its.toArray/\xs.length<=sizeLine:=by
 rcases h with h|⟨o,its,n,c,d,b,f,g,r⟩
 .obtain ⟨z,its,n,r,e⟩:=h.ok I.hok
  exact⟨its,r,⟨_,n,e,rfl,rfl,rfl⟩,z⟩
 .refine ⟨its.toList,r,⟨o,n,I.kIn a o c,d,b,by simpa using f⟩,?_⟩
  have e:=r.length
  simp only[C4]at e
  ext
theorem Inv.tuple(I:Inv X a0 Z H s)(h:SqT X.K H a xs):∃ its:L9 V9,aT xs its/\IsTup s.heap a its.toArray/\xs.length<=sizeLine:=by
 rcases h with h|⟨o,its,n,c,d,b,f,r⟩
 .obtain ⟨z,its,r,p⟩:=h.ok I.hok
  exact⟨its,r,p.t,z⟩
 .refine ⟨its.toList,r,⟨o,I.kIn a o c,d.1,n,by simpa using b⟩,?_⟩
  have e:=r.length
  simp only[C4]at e
  ext
theorem Inv.list_inj(I:Inv X a0 Z H s)(h:SqL X.K H a xs)(h':SqL X.K H a ys):xs=ys:=by
 obtain⟨c,r,⟨o,n,e,_,_,d⟩,_⟩:=I.list h
 obtain⟨b,i,⟨o',j,g,_,_,f⟩,_⟩:=I.list h'
 rw[e]at g;cases g
 rw[d]at f
 injection f with d1 _
 have:c=b:=by simpa using congrArg Array.toList d1
 subst this
 exact r.inj i
theorem Inv.tuple_inj(I:Inv X a0 Z H s)(h:SqT X.K H a xs)(h':SqT X.K H a ys):xs=ys:=by
 obtain⟨c,r,⟨o,e,_,n,d⟩,_⟩:=I.tuple h
 obtain⟨b,i,⟨o',g,_,j,f⟩,_⟩:=I.tuple h'
 rw[e]at g;cases g
 rw[d]at f
 injection f with d1 _
 have:c=b:=by simpa using congrArg Array.toList d1
 subst this
 exact r.inj i
end
abbrev Cx.wish(X:Cx)(E:V9->S9->Prop):Cx:={X with xe:=E}
abbrev Cx.nox(X:Cx):Cx:=X.wish λ_ _=>False
theorem Cx.Ok.wish{X:Cx}(ok:X.Ok)(E:V9->S9->Prop):(X.wish E).Ok:=
 ⟨ok.mod,ok.kind,ok.glob,ok.blt,ok.above,ok.inj,ok.has,ok.cab,ok.hd,ok.frames,ok.stk,ok.exf,ok.bs,ok.bsz,ok.noex,ok.exfs,ok.funs,ok.frf⟩
theorem Cx.Ok.unwish{X:Cx}(ok:(X.wish E).Ok):X.Ok:=
 ⟨ok.mod,ok.kind,ok.glob,ok.blt,ok.above,ok.inj,ok.has,ok.cab,ok.hd,ok.frames,ok.stk,ok.exf,ok.bs,ok.bsz,ok.noex,ok.exfs,ok.funs,ok.frf⟩
section
variable{X:Cx}{a0:L9 (Az×Obj)}{Z:St}{H:Hp}{s:S9}{E:V9->S9->Prop}
theorem Inv.wish(I:Inv X a0 Z H s)(E:V9->S9->Prop):Inv (X.wish E) a0 Z H s:=⟨I.ok.wish E,I.os,I.bare,I.base,I.loc,I.cell,I.free,I.freeC,I.pin,I.hok,I.len⟩
theorem Inv.unwish(I:Inv (X.wish E) a0 Z H s):Inv X a0 Z H s:=⟨I.ok.unwish,I.os,I.bare,I.base,I.loc,I.cell,I.free,I.freeC,I.pin,I.hok,I.len⟩
theorem SP.unwish{D:iF}{f:Flow}(h:SP (X.wish E) a0 D f s'):SP X a0 D f s':=by
 cases f with
 | next=>obtain⟨a,H',I,q⟩:=h;exact⟨a,H',I.unwish,q⟩
 | brk=>obtain⟨a,H',I,q⟩:=h;exact⟨a,H',I.unwish,q⟩
 | cont=>obtain⟨a,H',I,q⟩:=h;exact⟨a,H',I.unwish,q⟩
 | ret u=>obtain⟨v,a,H',I,r,q⟩:=h;exact⟨v,a,H',I.unwish,r,q⟩
theorem PE.nox{t:TE}(h:PE X.nox e t):PE X e t:=λa0 s Z H Q I b=>
 BO (h a0 s Z H Q (I.wish _) b) (λ_ _ ⟨v,H',a,r,q⟩=>⟨v,H',a.unwish,r,q⟩) λ_ _ z=>False.elim z
theorem PT.nox{t:TT}(h:PT X.nox e t):PT X e t:=λa0 s Z H Q I b=>
 BO (h a0 s Z H Q (I.wish _) b) (λ_ _ ⟨H',a,q⟩=>⟨H',a.unwish,q⟩) λ_ _ z=>False.elim z
theorem PSs.nox{st:L9 Stmt}{t:TS}(h:PSs X.nox st t):PSs X st t:=λa0 s Z H D I a=>
 BO (h a0 s Z H D (I.wish _) a) (λ_ _ q=>q.unwish) λ_ _ z=>False.elim z
end
section
variable{X:Cx}{st:Stmt}{rest:L9 Stmt}{t u:TS}{e:E2}{te:TE}{pos:Pos}
def aUX:TS:=λD Z H=>D.nx Z H
def aWF(t u:TS):TS:=λD Z H=>t {D with nx:=u D} Z H
theorem sB:PSs X [] aUX:=λ_ _ Z H _ I h=>DW ⟨Z,H,I,h⟩
theorem aL(h1:PS X st t)(h2:PSs X rest u):PSs X (st::rest) (aWF t u):=by
 intro a0 s Z H D I h
 refine GP (thn (h1 a0 s Z H {D with nx:=u D} I h) λf s1 q=>?_)
 cases f with
 | next=>
  obtain⟨a,H',b,q⟩:=q
  exact h2 a0 s1 a H' D b q
 | ret v=>exact q
 | brk=>exact q
 | cont=>exact q
theorem fW(h1:PS X st t):PSs X [st] t:=by
 intro a0 s Z H D I h
 refine GP (thn (h1 a0 s Z H D I h) λf s1 q=>?_)
 cases f with
 | next=>exact DW q
 | ret v=>exact q
 | brk=>exact q
 | cont=>exact q
theorem Inv.quiet(I:Inv X a0 Z H s):interactive X.env=false:=by simp[interactive,I.ok.kind]
def vG(te:TE):TS:=λD Z H=>te Z H λ_ H1=>D.nx Z H1
theorem kP(c:PE X e te)(b:swapsWith e none pos.line X.env=pure false:=by rfl):PS X (.Expr e pos) (vG te):=by
 intro a0 s Z H D I h
 exact wpAny_Expr_any (thn (c a0 s Z H _ I h) λv s1 ⟨x,H1,d,r1,a⟩=>⟨Z,H1,d,a⟩) I.quiet b
def aWG(te:TE):TS:=λD Z H=>te Z H D.rt
theorem kA(a:PE X e te):PS X (.Return (some e) pos) (aWG te):=by
 intro a0 s Z H D I h
 exact wpAny_Return_some (thn (a a0 s Z H _ I h) λv s1 ⟨x,H1,c,r1,b⟩=>⟨x,Z,H1,c,r1,b⟩)
def aWH(c:TT)(t u:TS):TS:=λD Z H=>c Z H λb H1=>if b=true then t D Z H1 else u D Z H1
theorem zZ{a b:L9 Stmt}{tc:TT}(j:PT X c tc)(i:PSs X a t)(hb:PSs X b u):PS X (.If c a b pos) (aWH tc t u):=by
 intro a0 s Z H D I h
 refine wpAny_If (thn (j a0 s Z H _ I h) λd s1 e=>?_)
 obtain⟨H1,g,f⟩:=e
 cases d with
 | true=>exact i a0 s1 Z H1 D g f
 | false=>exact hb a0 s1 Z H1 D g f
end
abbrev TG:=V->St->Hp->(St->Hp->Prop)->Prop
abbrev TGs:=L9 V->St->Hp->(St->Hp->Prop)->Prop
def PG(X:Cx)(target:E2)(t:TG):Prop:=
 ∀ (a0:L9 (Az×Obj)) (s:S9) (Z:St) (H:Hp) (v:V) (u:V9) (Q:St->Hp->Prop),Inv X a0 Z H s->aP v u->t v Z H Q->
  wpAny (model X.prog X.w) X.A (assign target X.env u) (λ_ s'=>∃ Z' H',Inv X a0 Z' H' s'/\Q Z' H') X.xe s
def PGs(X:Cx)(ts:L9 E2)(t:TGs):Prop:=
 ∀ (a0:L9 (Az×Obj)) (s:S9) (Z:St) (H:Hp) (vs:L9 V) (us:L9 V9) (Q:St->Hp->Prop),Inv X a0 Z H s->aT vs us->t vs Z H Q->
  wpAny (model X.prog X.w) X.A (assignInOrder ((assignEach ts X.env).map (·.2)) us) (λ_ s'=>∃ Z' H',Inv X a0 Z' H' s'/\Q Z' H') X.xe s
abbrev aE2:=V->V->V->Hp->(Hp->Prop)->Prop
def aJ3(X:Cx)(t:aE2):Prop:=
 ∀ (a0:L9 (Az×Obj)) (s:S9) (Z:St) (H:Hp) (o i v:V) (ov iv u:V9) (Q:Hp->Prop),Inv X a0 Z H s->aP o ov->aP i iv->aP v u->t o i v H Q->
  wpAny (model X.prog X.w) X.A (setItem ov iv u) (λ_ s'=>∃ H',Inv X a0 Z H' s'/\Q H') X.xe s
section
variable{X:Cx}{pos:Pos}
def kB(i:Nat):TG:=λv Z H Q=>Q (Z.set i (some v)) H
theorem aNR(hN:X.N.Nodup)(hi:X.N[i]? = some x)(hx:Loc X.env.scope x)(a:X.fn x=true\/X.env.scope.names.lookup x=some .local:=by first|exact .inl rfl|exact .inr rfl):PG X (.Name x pos) (kB i):=by
 intro a0 s Z H v u Q I r h
 exact wpAny_assign_Name (o8 I hN hi hx r (λs' b=>⟨_,H,b,h⟩) a)
def aJ4:TGs:=λvs Z H Q=>vs=[]/\Q Z H
def aMN(t:TG)(u:TGs):TGs:=λvs Z H Q=>∃ v r,vs=v::r/\t v Z H λZ' H'=>u r Z' H' Q
theorem aNS:PGs X [] aJ4:=by
 intro a0 s Z H vs us Q I r h
 obtain⟨e,h⟩:=h
 subst e
 cases r
 exact assignInOrder_nil ⟨Z,H,I,h⟩
theorem aJ5{t:TG}{u:TGs}(h1:PG X e t)(h2:PGs X es u)
  (c:(assignEach (e::es) X.env).map (·.2)=assign e X.env::(assignEach es X.env).map (·.2):=by rfl):PGs X (e::es) (aMN t u):=by
 intro a0 s Z H vs us Q I r h
 obtain⟨v,g,e1,h⟩:=h
 subst e1
 cases r with
 | cons r rr=>
  rw[c]
  refine assignInOrder_cons (thn (h1 a0 s Z H _ _ _ I r h) λ_ s1 a=>?_)
  obtain⟨b,H1,f,d⟩:=a
  exact h2 a0 s1 b H1 _ _ Q f rr d
def aRM(K:Frag)(n:Nat)(t:TGs):TG:=λv Z H Q=>∃ a xs,v=.ref a/\SqT K H a xs/\xs.length=n/\t xs Z H Q
theorem aRN{t:TGs}(p:X.calm=true)(h:PGs X es t)
  (m:(assignEach es X.env).length=n:=by rfl) (hst:(assignEach es X.env).findIdx? (·.1)=none:=by rfl):PG X (.Tuple es k pos) (aRM X.K n t):=by
 intro a0 s Z H v u Q I r c
 obtain⟨a,xs,e1,i,g,c⟩:=c
 subst e1
 cases r
 obtain⟨j,d,f,w⟩:=I.tuple i
 refine assign_Tuple_tuple (I.ok.hd p) f (by simp[m,<-g,d.length]) hst λh' l=>?_
 have q:Inv X a0 Z H {s with heap:=h'}:=I.kept (t':=s.toks) λb o e=>l b o (BD (AT e)) e
 exact h a0 _ Z H xs _ Q q (by simpa using d) c
def aJ6(to ti:TE)(t:aE2):TG:=λv Z H Q=>to Z H λo H1=>ti Z H1 λi H2=>t o i v H2 λH3=>Q Z H3
theorem aGQ{o i:E2}{to b:TE}{t:aE2}(n:PE X o to)(hi:PE X i b)(m:aJ3 X t)
  (e:∀ v,assign (.Subscript o i pos) X.env v=(do
   let ov <-holding [v] (eval o X.env)
   let iv <-holding [v,ov] (eval i X.env)
   standAt pos
   holding [v,ov,iv] (setItem ov iv v)
   release [v,ov,iv] []):=by intro _;rfl):PG X (.Subscript o i pos) (aJ6 to b t):=by
 intro a0 s Z H v u Q I r h
 rw[e]
 refine AB (CT (thn (n a0 s Z H _ I h) λov s1 a=>?_))
 obtain⟨x,H1,j,r1,g⟩:=a
 refine AB (CT (thn (hi a0 s1 Z H1 _ j g) λiv l a=>?_))
 obtain⟨y,H2,k,r2,f⟩:=a
 refine AB (DO (AB (CT (thn (m a0 l Z H2 x y v ov iv u _ k r1 r2 r f) λ_ p a=>?_))))
 obtain⟨H3,d,c⟩:=a
 exact wpAny_release ⟨Z,H3,d,c⟩
def kQ(te:TE)(g:TG):TS:=λD Z H=>te Z H λx H1=>g x Z H1 D.nx
theorem vH{te:TE}{g:TG}(b:PE X e te)(f:PG X tg g)(c:swapsWithSole [tg] e pos.line X.env=pure false:=by rfl)(hw:swappedStores [tg] e X.env=pure none:=by rfl)
  (h1:(assignEach [tg] X.env).map (·.2)=[assign tg X.env]:=by rfl):PS X (.Assign [tg] e pos) (kQ te g):=by
 intro a0 s Z H D I h
 refine wpAny_Assign_stores (thn (b a0 s Z H _ I h) λv s1 a=>?_) c hw
 obtain⟨x,H1,i,r1,d⟩:=a
 rw[h1]
 exact thn (f a0 s1 Z H1 x v _ i r1 d) λ_ j q=>q
theorem eX{i:Nat}{te:TE}{a:Pos}(hN:X.N.Nodup)(hi:X.N[i]? = some x)(hx:Loc X.env.scope x)(d:PE X e te)(f:swapsWith e (some (.Name x a)) pos.line X.env=pure false:=by rfl)(hf:X.fn x=true\/X.env.scope.names.lookup x=some .local:=by exact .inl rfl) :
  PS X (.Assign [.Name x a] e pos) (kQ te (kB i)):=by
 intro a0 s Z H D I h
 refine wpAny_Assign_Name (thn (d a0 s Z H _ I h) λv s1 b=>?_) f
 obtain⟨y,H1,j,r1,g⟩:=b
 exact o8 j hN hi hx r1 (λk c=>⟨_,H1,c,g⟩) hf
end
section
variable{X:Cx}{pos:Pos}
def aGR(c:TT)(tb:TS):TS:=λD Z H=>∃ W:Nat->St->Hp->Prop,(∃ m,W m Z H)/\∀ m Z H,W m Z H->
 c Z H λb H1=>if b=true then ∃ N:St->Hp->Prop,(∀ Z' H',N Z' H'->∃ m',m' < m/\W m' Z' H')/\tb {D with nx:=N,ct:=N,bk:=D.nx} Z H1 else D.nx Z H1
theorem mJ{tc:TT}{tb:TS}(p:PassesOwn (model X.prog X.w) X.A X.env X.xe)(u:PT X c tc)(hb:PSs X body tb):PS X (.While c body [] pos) (aGR tc tb):=by
 intro a0 s Z H D I h
 obtain⟨W,⟨r,t⟩,d⟩:=h
 refine wpAny_While (codeAny_whileLoop (λn s'=>∃ Z' H',Inv X a0 Z' H' s'/\W n Z' H') ?_ r ⟨Z,H,I,t⟩)
 rintro n s1 ⟨Z1,H1,I1,w1⟩
 refine DK p (thn (u a0 s1 Z1 H1 _ I1 (d n Z1 H1 w1)) λb x k=>?_)
 obtain⟨H2,q,e⟩:=k
 cases b with
 | true=>
  obtain⟨N,o,e⟩:=e
  rw[AJ rfl]
  refine DK p (thn (hb a0 x Z1 H2 _ q e) λf y g=>?_)
  cases f with
  | next=>
   obtain⟨a,H3,i,m⟩:=g
   obtain⟨l,j,w3⟩:=o a H3 m
   exact⟨l,j,a,H3,i,w3⟩
  | cont=>
   obtain⟨a,H3,i,m⟩:=g
   obtain⟨l,j,w3⟩:=o a H3 m
   exact⟨l,j,a,H3,i,w3⟩
  | brk=>exact g
  | ret v=>exact g
 | false=>
  rw[AM BM]
  exact DW ⟨Z1,H2,q,e⟩
end
structure It where
 go:Nat->Hp->Prop
 yld:Nat->Hp->V->Hp->Prop
 stop:Nat->Hp->Prop
def iC(X:Cx)(a0:L9 (Az×Obj))(H:Hp)(b:Az):Prop:=
 H b=none/\b≠X.env.locals/\b∉X.fs/\(b∈X.ex\/X.s₀.heap.objs.size<=b)/\(∀ x c,X.env.cells.lookup x=some c->c≠b)/\∀ p∈X.pn++a0,p.1≠b
theorem Inv.fpOk{X:Cx}{H':Hp}(I:Inv X a0 Z H s)(hb:s.heap.objs.size<=b)(d:H' b=none):iC X a0 H' b:=by
 refine⟨d,CJ (A3 I.lt hb),I.nofs hb,.inr (AV I.sz hb),λx c e z=>?_,λp a z=>?_⟩
 .obtain ⟨v,q⟩:=I.cell x c e
  exact absurd (A3 q.lt (by rw[z];exact hb)) (B4 _)
 .exact absurd (A3 (AT (I.pin p a).1) (by rw[z];exact hb)) (B4 _)
structure Turn(P:Program)(w:World)(K:Frag)(tg:Expr)(J:It)(fp:List Az)(it:Az)(tn:Nat->Heap->Prop):Prop where
 mem:it∈fp
 obj:∀ i h,tn i h->∀ b∈fp,∃ o,h.get? b=some o/\∀ v,o.data≠.cell v
 keep:∀ i h h',tn i h->(∀ b∈fp,∀ o,h.get? b=some o->h'.get? b=some o)->tn i h'
 item:∀ (X:Cx),X.prog=P->X.w=w->X.K=K->X.calm=true->∀ (i:Nat) (a0:List (Az×Obj)) (s:S9) (Z:St) (H:Hp) (E:V9->S9->Prop),Inv X a0 Z H s->(∀ b∈fp,iC X a0 H b)->tn i s.heap->J.go i H->
  wpAny (model P w) X.A (pyNext (.ref it)) (λr s1=>∃ u,r=some u /\
   wpAny (model P w) X.A (letOwnedTupleGo tg (.ref it) u) (λ_ s2=>∃ x H',Inv X a0 Z H' s2/\aP x u/\J.yld i H x H'/\tn (i+1) s2.heap/\∀ b∈fp,H' b=none) E s1) E s
 done:∀ (X:Cx),X.prog=P->X.w=w->X.K=K->X.calm=true->∀ (i:Nat) (a0:List (Az×Obj)) (s:S9) (Z:St) (H:Hp) (E:V9->S9->Prop),Inv X a0 Z H s->(∀ b∈fp,iC X a0 H b)->tn i s.heap->J.stop i H->
  wpAny (model P w) X.A (pyNext (.ref it)) (λr s1=>r=none/\Inv X a0 Z H s1) E s
 self:∀ (A:Around) (i:Nat) (s:S9) (Q:V9->S9->Prop) (E:V9->S9->Prop),tn i s.heap->Q (.ref it) s->wpAny (model P w) A (pyIter (.ref it)) Q E s
abbrev TI:=St->Hp->(It->Hp->Prop)->Prop
def PIE(X:Cx)(a0:L9 (Az×Obj))(Z:St)(tg:E2)(R:It->Hp->Prop)(itv:V9)(s2:S9):Prop:=
 ∃ (it:Az) (fp:L9 Az) (tn:Nat->H9->Prop) (J:It) (H':Hp),itv=.ref it/\Inv X a0 Z H' s2/\Turn X.prog X.w X.K tg J fp it tn/\tn 0 s2.heap/\(∀ b∈fp,iC X a0 H' b)/\R J H'
def PI(X:Cx)(tg iter:E2)(wi:TI):Prop:=
 ∀ (a0:L9 (Az×Obj)) (s:S9) (Z:St) (H:Hp) (R:It->Hp->Prop),Inv X a0 Z H s->wi Z H R->
  wpAny (model X.prog X.w) X.A (eval iter X.env) (λv s1=>wpAny (model X.prog X.w) X.A (pyIter v) (PIE X a0 Z tg R) X.xe s1) X.xe s
theorem z0  {A : U9} {E : V9 -> S9 -> Prop} {s : S9}     {n : String}  {Q : Unit -> S9 -> Prop} (e : s.heap.get? it = some o) (d : o.cls = .type n) (c : o.data = .fields vs)
    (b : ["enumerate", "zip", "dict_itemiterator", "dict_reverseitemiterator", "odict_iterator", "itertools.zip_longest", "itertools.pairwise"].contains n = false) (a : Q () s) : wpAny M A (letOwnedTupleGo tg (.ref it) u) Q E s := by
  unfold letOwnedTupleGo
  cases tg <;> first
    | exact AH a
    | (cases u <;> first
        | exact AH a
        | (refine AB (wpAny_load e ?_)
           rw [d, c]
           show wpAny M A (if (["enumerate", "zip", "dict_itemiterator", "dict_reverseitemiterator", "odict_iterator", "itertools.zip_longest", "itertools.pairwise"].contains n && vs[0]? == some (rawInt _)) = true then _ else _) Q E s
           rw [AM (by intro h; rw [b, Bool.false_and]at h; cases h)]
           exact AH a))
def Itl(K:Frag)(a:Az):It:=
 ⟨λi H=>∃ xs x,SqL K H a xs/\xs[i]? = some x,λi H x H'=>H'=H/\∀ xs,SqL K H a xs->xs[i]? = some x,λi H=>∃ xs,SqL K H a xs/\xs.length<=i⟩
def Itt(K:Frag)(a:Az):It:=
 ⟨λi H=>∃ xs x,SqT K H a xs/\xs[i]? = some x,λi H x H'=>H'=H/\∀ xs,SqT K H a xs->xs[i]? = some x,λi H=>∃ xs,SqT K H a xs/\xs.length<=i⟩
noncomputable def Itr(lo:Int)(n:Nat):It:=⟨λi _=>i < n,λi H x H'=>H'=H/\x=.int (lo+i),λi _=>n<=i⟩
theorem aGS{w:W9}(a it:Az):Turn P w K tg (Itl K a) [it] it (λi h=>h.IsListIter it a i) where
 mem:=by simp
 obj:=λi h st b f=>by
  have e:b=it:=by simpa using f
  subst e
  obtain⟨o,e,c,d⟩:=st
  exact⟨o,e,λv z=>by rw[d]at z;cases z⟩
 keep:=λi h h' st k=>st.at λo e=>k it (by simp) o e
 item:=by
  intro X F t D G i a0 s Z H E I j st r
  subst F t D
  obtain⟨xs,x,l,n⟩:=r
  obtain⟨B,m,p,J⟩:=I.list l
  obtain⟨u,Q,L⟩:=m.get n
  obtain⟨A,f1,f2,y,q,C⟩:=j it (by simp)
  refine wpAny_pyNext_list_item st p.isList (x:=u) (by simpa using Q) λh' g R=>?_
  have N:Inv X a0 Z H {s with heap:=h'}:=I.turned (t':=s.toks) (λb o f e=>(R.2 b f).trans e) A f1 y q C
  obtain⟨o,e,c,d⟩:=id g
  exact⟨u,rfl,z0 (s:={s with heap:=h'}) e c d (by decide) ⟨x,H,N,L,⟨rfl,λys O=>by rw[I.list_inj O l];exact n⟩,g,λb f=>(j b f).1⟩⟩
 done:=by
  intro X F t D G i a0 s Z H E I j st r
  subst F t D
  obtain⟨xs,l,n⟩:=r
  obtain⟨B,m,p,J⟩:=I.list l
  obtain⟨A,f1,f2,y,q,C⟩:=j it (by simp)
  have S:=m.length
  exact wpAny_pyNext_list_end (I.ok.hd G) st p.isList (by simp;ext) λh' M=>⟨rfl,I.turned (t':=s.toks) (λb o f e=>M b o f e) A f1 y q C⟩
 self:=λ_ _ _ _ _ st h=>wpAny_pyIter_listiter st h
theorem aE3{w:W9}(a it:Az):Turn P w K tg (Itt K a) [it] it (λi h=>h.IsTupleIter it a i) where
 mem:=by simp
 obj:=λi h st b f=>by
  have e:b=it:=by simpa using f
  subst e
  obtain⟨o,e,c,d⟩:=st
  exact⟨o,e,λv z=>by rw[d]at z;cases z⟩
 keep:=λi h h' st k=>st.at λo e=>k it (by simp) o e
 item:=by
  intro X F y D G i a0 s Z H E I l st t
  subst F y D
  obtain⟨xs,x,m,q⟩:=t
  obtain⟨g,n,p,J⟩:=I.tuple m
  obtain⟨u,Q,L⟩:=n.get q
  obtain⟨B,f1,f2,A,r,C⟩:=l it (by simp)
  refine wpAny_pyNext_tuple_item st (show s.heap.IsTuple a g.toArray from p) (x:=u) (by simpa using Q) λh' j R=>?_
  have N:Inv X a0 Z H {s with heap:=h'}:=I.turned (t':=s.toks) (λb o f e=>(R.2 b f).trans e) B f1 A r C
  obtain⟨o,e,c,d⟩:=id j
  exact⟨u,rfl,z0 (s:={s with heap:=h'}) e c d (by decide) ⟨x,H,N,L,⟨rfl,λys O=>by rw[I.tuple_inj O m];exact q⟩,j,λb f=>(l b f).1⟩⟩
 done:=by
  intro X F y D G i a0 s Z H E I l st t
  subst F y D
  obtain⟨xs,m,q⟩:=t
  obtain⟨g,n,p,J⟩:=I.tuple m
  obtain⟨B,f1,f2,A,r,C⟩:=l it (by simp)
  have S:=n.length
  exact wpAny_pyNext_tuple_end (I.ok.hd G) st (show s.heap.IsTuple a g.toArray from p) (by simp;ext) λh' M=>⟨rfl,I.turned (t':=s.toks) (λb o f e=>M b o f e) B f1 A r C⟩
 self:=λ_ _ _ _ _ st h=>wpAny_pyIter_tupleiter st h
theorem aE4{w:W9}(it:Az)(lo:Int)(n:Nat):Turn P w K tg (Itr lo n) [it] it (λi h=>IsRangeIter h it (lo+(i:Nat) * 1) ((n:Int) - (i:Nat)) 1) where
 mem:=by simp
 obj:=λi h st b a=>by
  have e:b=it:=by simpa using a
  subst e
  exact⟨_,st,λv z=>by
   have y:Data.fields _=Data.cell v:=z
   cases y⟩
 keep:=λi h h' st k=>k it (by simp) _ st
 item:=by
  intro X u j r p i a0 s Z H E I d st g
  subst u j r
  obtain⟨m,f1,f2,l,f,q⟩:=d it (by simp)
  have W:=Walks.range (prog:=X.prog) (w:=X.w) (I.ok.hd p) it lo 1 n
  refine W.item i s _ _ g st λv h' x D c A=>?_
  obtain⟨t,rfl⟩:=D
  have C:Inv X a0 Z H {s with heap:=h',toks:=x}:=I.turned (λb o a e=>A b o (by simpa using a) e) m f1 l f q
  refine⟨_,rfl,z0 (s:={s with heap:=h',toks:=x}) (n:="range_iterator") c rfl rfl (by decide) ⟨.int (lo+i),H,C,⟨t,?_⟩,⟨rfl,rfl⟩,c,λb a=>(d b a).1⟩⟩
  rw[Int.mul_one]
 done:=by
  intro X u j r p i a0 s Z H E I d st g
  subst u j r
  obtain⟨m,f1,f2,l,f,q⟩:=d it (by simp)
  exact wpAny_pyNext_range_end (I.ok.hd p) st (by have:n<=i:=g;ext) λh' B=>⟨rfl,I.turned (t':=s.toks) (λb o a e=>B b o a e) m f1 l f q⟩
 self:=λ_ _ _ _ _ st h=>wpAny_pyIter_rangeiter st h
section
variable{X:Cx}{tg:E2}
theorem aJ7{R:It->Hp->Prop}{lo hi:Int}{t u v:Tok}{a:Nat}(I:Inv X a0 Z H s)(h1 : -(2 ^ 62)<=lo)(h2:lo < 2 ^ 62)(g : -(2 ^ 62)<=hi)(d:hi < 2 ^ 62)
  (q:R (Itr lo (hi - lo).toNat) H):wpAny (model X.prog X.w) X.A (pyIter (.ref s.heap.objs.size)) (PIE X a0 Z tg R) E {s with heap:=s.heap.push {cls:=.type "range",data:=.fields #[.int lo t,.int hi u,.int 1 v]},toks:=a}:=by
 refine wpAny_pyIter_range (IsRange.new ..) (small_one h1 h2 g d) ?_
 have c:Inv X a0 Z H {s with heap:=s.heap.push {cls:=.type "range",data:=.fields #[.int lo t,.int hi u,.int 1 v]},toks:=a}:=I.kept λb o e=>AE _ e
 refine⟨(s.heap.push {cls:=.type "range",data:=.fields #[.int lo t,.int hi u,.int 1 v]}).objs.size,[(s.heap.push {cls:=.type "range",data:=.fields #[.int lo t,.int hi u,.int 1 v]}).objs.size],_,_,H,rfl,
  c.kept (t':=a) λb o e=>AE _ e,aE4 _ lo (hi - lo).toNat,?_,λb f=>?_,q⟩
 .have e1:lo+((0:Nat):Int) * 1=lo:=by simp
  have e2:(((hi - lo).toNat:Nat):Int) - ((0:Nat):Int)=Builtin.Range.rangeSize lo hi 1:=by rw[rangeSize_one];split<;>ext
  show IsRangeIter _ _ (lo+((0:Nat):Int) * 1) ((((hi - lo).toNat:Nat):Int) - ((0:Nat):Int)) 1
  rw[e1,e2]
  exact A0 _ rfl
 .have e:b=(s.heap.push {cls:=.type "range",data:=.fields #[.int lo t,.int hi u,.int 1 v]}).objs.size:=by simpa using f
  subst e
  exact c.fpOk (AQ _) (c.hok.fresh (AQ _))
def aMO(ta:TA):TI:=λZ H R=>ta Z H λvs H1=>∃ j:Int,vs=[.int j] /\ -(2 ^ 62)<=j/\j < 2 ^ 62/\R (Itr 0 j.toNat) H1
theorem aGT{a:E2}{ta:TA}{p pos:Pos}(k:Gl X "range")(f:X.mg "range"=none)(g:PA X [a] ta)(d:starEach [a] X.env=[(false,eval a X.env)]:=by rfl):PI X tg (.Call (.Name "range" p) [a] [] pos) (aMO ta):=by
 intro a0 s Z H R I h
 refine Call_ (lJ I k f boot_range (CM (thn (g pos a0 s Z H _ I h) λus s1 b=>?_) d rfl))
 obtain⟨vs,H1,l,r1,c⟩:=b
 obtain⟨j,e,c,i,q⟩:=c
 subst e
 cases r1 with
 | cons r rr=>
  cases rr
  obtain⟨t,rfl⟩:=r
  exact call_range_1 (aJ7 l (by ext) (by ext) c i (by simpa using q))
def aRO(wi:TI)(g:TG)(tb:TS):TS:=λD Z H=>wi Z H λJ H1=>∃ W:Nat->Nat->St->Hp->Prop,(∃ m,W 0 m Z H1)/\∀ i m Z H,W i m Z H->
 (J.stop i H/\D.nx Z H)\/(J.go i H/\∃ N:St->Hp->Prop,(∀ Z' H',N Z' H'->∃ m',m' < m/\W (i+1) m' Z' H')/\∀ x H',J.yld i H x H'->g x Z H' λZ2 H2=>tb {D with nx:=N,ct:=N,bk:=D.nx} Z2 H2)
noncomputable def qJ(fp:L9 Az)(h:H9):L9 (Az×Obj):=fp.filterMap λb=>(h.get? b).map λo=>(b,o)
theorem lU{a:L9 Az}{h:H9}(hb:b∈a)(e:h.get? b=some o):(b,o)∈qJ a h:=DH.mpr ⟨b,hb,by rw[e];rfl⟩
theorem aGU{a:L9 Az}{h:H9}{p:Az×Obj}(c:p∈qJ a h):p.1∈a/\h.get? p.1=some p.2:=by
 obtain⟨b,d,e⟩:=DH.mp c
 cases q:h.get? b with
 | none=>rw[q]at e;cases e
 | some o=>
  rw[q]at e
  have f:(b,o)=p:=BK e
  subst f
  exact⟨d,q⟩
theorem Inv.pinned{a:L9 Az}(I:Inv X a0 Z H s)(h:∀ b∈a,iC X a0 H b)(j:∀ b∈a,∃ o,s.heap.get? b=some o/\∀ v,o.data≠.cell v):Inv X (a0++qJ a s.heap) Z H s:=
 I.pins_of λp i=>(A7.mp i).elim (λz=>I.pin p (BZ _ z)) λz=>by
  obtain⟨c,e⟩:=aGU z
  obtain⟨g,f1,f2,_⟩:=h p.1 c
  obtain⟨o,f,d⟩:=j p.1 c
  rw[e]at f;cases f
  exact⟨e,g,f1,f2,d⟩
theorem Inv.unpinned(I:Inv X (a0++pl) Z H s):Inv X a0 Z H s:=I.pins_of λp a=>I.pin p (BZ _ (CP _ a))
theorem iO{k:E2}{O:TI}{g:TG}{tb:TS}{pos:Pos}(B:PassesOwn (model X.prog X.w) X.A X.env X.xe)(Q:X.calm=true)(hi:PI X tg k O)(hg:PG X tg g)(hb:PSs X body tb)
  (hs:∀ x,foldedSetIterable k X.env x=pure x:=by intro _;rfl):PS X (.For tg k body [] pos) (aRO O g tb):=by
 intro a0 s Z H D I h
 refine wpAny_For (thn (hi a0 s Z H _ I h) λv s1 h1=>thn h1 λac s2 h2=>?_) hs
 obtain⟨it,z,tn,J,H2,e,I2,T,F,f2,W,⟨R,U⟩,E⟩:=h2
 subst e
 have q:∀ {H':Hp},(∀ b∈z,H' b=none)->∀ b∈z,iC X a0 H' b:=λY b hb=>⟨Y b hb,(f2 b hb).2⟩
 refine codeAny_forLoop_any (λn s'=>∃ i Z' H',Inv X a0 Z' H' s'/\tn i s'.heap/\(∀ b∈z,H' b=none)/\W i n Z' H') ?_ R ⟨0,Z,H2,I2,F,λb hb=>(f2 b hb).1,U⟩
 rintro n M ⟨i,Z3,H3,I3,st3,fr3,w3⟩
 rcases E i n Z3 H3 w3 with ⟨stop,qn⟩|⟨go,N,hN,step⟩
 .refine DK B (thn (T.done X rfl rfl rfl Q i a0 M Z3 H3 X.xe I3 (q fr3) st3 stop) λr s4 a=>?_)
  obtain⟨hr,I4⟩:=a
  subst hr
  exact DW ⟨Z3,H3,I4,qn⟩
 .refine DK B (thn (T.item X rfl rfl rfl Q i a0 M Z3 H3 X.xe I3 (q fr3) st3 go) λr s4 a=>?_)
  obtain⟨u,hr,h4⟩:=a
  subst hr
  refine DK B (thn h4 λ_ P a=>?_)
  obtain⟨x,H5,I5,r5,y5,y,L⟩:=a
  have K:=I5.pinned (q L) (T.obj _ _ y)
  refine DK B (thn (hg _ P Z3 H5 x u _ K r5 (step x H5 y5)) λ_ s6 a=>?_)
  obtain⟨Z6,H6,I6,q6⟩:=a
  refine DK B (thn (hb _ s6 Z6 H6 _ I6 q6) λf G t=>?_)
  have p:∀ {c:St} {l:Hp},Inv X (a0++qJ z P.heap) c l G->N c l->∃ m,m < n/\∃ i Z' H',Inv X a0 Z' H' G/\tn i G.heap/\(∀ b∈z,H' b=none)/\W i m Z' H':=λ{c l} j C=>by
   obtain⟨m',V,w7⟩:=hN c l C
   refine⟨m',V,i+1,c,l,j.unpinned,T.keep _ _ _ y λb hb o e=>(j.pin (b,o) (BZ _ (BZ _ (lU hb e)))).1,λb hb=>?_,w7⟩
   obtain⟨o,e,d⟩:=T.obj _ _ y b hb
   exact(j.pin (b,o) (BZ _ (BZ _ (lU hb e)))).2.1
  cases f with
  | next=>obtain⟨c,l,j,C⟩:=t;exact p j C
  | cont=>obtain⟨c,l,j,C⟩:=t;exact p j C
  | brk=>obtain⟨c,l,j,t⟩:=t;exact⟨c,l,j.unpinned,t⟩
  | ret v=>obtain⟨S,c,l,j,r7,t⟩:=t;exact⟨S,c,l,j.unpinned,r7,t⟩
end
abbrev R2:=V->V->Hp->VK->Prop
def OpR(X:Cx)(f:V9->V9->Sem V9)(r:R2):Prop:=
 ∀ (a0:L9 (Az×Obj)) (s:S9) (Z:St) (H:Hp) (x y:V) (v u:V9) (Q:VK),Inv X a0 Z H s->aP x v->aP y u->r x y H Q->
  wpAny (model X.prog X.w) X.A (f v u) (EP X a0 Z Q) X.xe s
def UnR(X:Cx)(f:V9->Sem V9)(r:V->Hp->VK->Prop):Prop:=
 ∀ (a0:L9 (Az×Obj)) (s:S9) (Z:St) (H:Hp) (x:V) (v:V9) (Q:VK),Inv X a0 Z H s->aP x v->r x H Q->
  wpAny (model X.prog X.w) X.A (f v) (EP X a0 Z Q) X.xe s
def iG(X:Cx)(f:V9)(r:L9 V->Hp->VK->Prop):Prop:=
 ∀ (a0:L9 (Az×Obj)) (s:S9) (Z:St) (H:Hp) (xs:L9 V) (us:L9 V9) (Q:VK),Inv X a0 Z H s->aT xs us->r xs H Q->
  wpAny (model X.prog X.w) X.A (call f us) (EP X a0 Z Q) X.xe s
def tOp(r:R2)(ta tb:TE):TE:=λZ H Q=>ta Z H λx H1=>tb Z H1 λy H2=>r x y H2 Q
def tUn(r:V->Hp->VK->Prop)(ta:TE):TE:=λZ H Q=>ta Z H λx H1=>r x H1 Q
def rI(C:Int->Int->Prop)(g:Int->Int->V):R2:=λx y H Q=>∃ i j,x=.int i/\y=.int j/\C i j/\Q (g i j) H
def rI0(g:Int->Int->V):R2:=λx y H Q=>∃ i j,x=.int i/\y=.int j/\Q (g i j) H
def rU(g:Int->V):V->Hp->VK->Prop:=λx H Q=>∃ i,x=.int i/\Q (g i) H
section
variable{X:Cx}{a b c:E2}{ta tb tc:TE}{pos:Pos}
theorem aJ8(e:PE X a ta)(hb:PE X b tb){R:V->V->Hp->Prop}(I:Inv X a0 Z H s)
  (h:ta Z H λx H1=>tb Z H1 λy H2=>R x y H2)  {f:V9->V9->Sem V9}
  (g:∀ v u s2 x y H2,Inv X a0 Z H2 s2->aP x v->aP y u->R x y H2->wpAny (model X.prog X.w) X.A (f v u) Q X.xe s2) :
  wpAny (model X.prog X.w) X.A (eval a X.env) (λv s₁=>wpAny (model X.prog X.w) X.A (eval b X.env) (λu s₂=>wpAny (model X.prog X.w) X.A (f v u) Q X.xe s₂) X.xe s₁) X.xe s:=by
 refine thn (e a0 s Z H _ I h) λv s1 c=>?_
 obtain⟨x,H1,k,r1,j⟩:=c
 refine thn (hb a0 s1 Z H1 _ k j) λu s2 c=>?_
 obtain⟨y,H2,d,r2,i⟩:=c
 exact g v u s2 x y H2 d r1 r2 i
theorem aMP{op:Operator}(g:OpR X (binaryOp op) r)(f:PE X a ta)(hb:PE X b tb):PE X (.BinOp a op b pos) (tOp r ta tb):=by
 intro a0 s Z H Q I h
 exact wpAny_BinOp (aJ8 f hb I h λv u d x y H2 i e c q=>g a0 d Z H2 x y v u Q i e c q)
theorem aUY{op:UnaryOp}{r:V->Hp->VK->Prop}(d:UnR X (unaryOp op) r)(b:PE X a ta):PE X (.UnaryOp op a pos) (tUn r ta):=by
 intro a0 s Z H Q I h
 exact UnaryOp_ (thn (b a0 s Z H _ I h) λv s1 ⟨x,H1,e,r1,c⟩=>d a0 s1 Z H1 x v Q e r1 c)
theorem opI{f:V9->V9->Sem V9}
  (a:∀ (i j:Int) (t u:Tok) (s:S9) (Q:V9->S9->Prop) (E:V9->S9->Prop),C i j->Q (.int (g i j) s.toks) {s with toks:=s.toks+1}->wpAny (model X.prog X.w) X.A (f (.int i t) (.int j u)) Q E s) :
  OpR X f (rI C λi j=>.int (g i j)):=by
 intro a0 s Z H x y v u Q I c b h
 obtain⟨i,j,rfl,rfl,e,q⟩:=h
 obtain⟨t,rfl⟩:=c
 obtain⟨d,rfl⟩:=b
 exact a i j t d s _ _ e ⟨.int (g i j),H,I.tok _,⟨_,rfl⟩,q⟩
theorem aRP{f:V9->V9->Sem V9}
  (a:∀ (i j:Int) (t u:Tok) (s:S9) (Q:V9->S9->Prop) (E:V9->S9->Prop),Q (.int (g i j) s.toks) {s with toks:=s.toks+1}->wpAny (model X.prog X.w) X.A (f (.int i t) (.int j u)) Q E s) :
  OpR X f (rI0 λi j=>.int (g i j)):=by
 intro a0 s Z H x y v u Q I d c h
 obtain⟨i,j,rfl,rfl,q⟩:=h
 obtain⟨t,rfl⟩:=d
 obtain⟨b,rfl⟩:=c
 exact a i j t b s _ _ ⟨.int (g i j),H,I.tok _,⟨_,rfl⟩,q⟩
theorem aE5{f:V9->V9->Sem V9}{g:Int->Int->Bool}
  (a:∀ (i j:Int) (t u:Tok) (s:S9) (Q:V9->S9->Prop) (E:V9->S9->Prop),Q (.bool (g i j)) s->wpAny (model X.prog X.w) X.A (f (.int i t) (.int j u)) Q E s) :
  OpR X f (rI0 λi j=>.bl (g i j)):=by
 intro a0 s Z H x y v u Q I d c h
 obtain⟨i,j,rfl,rfl,q⟩:=h
 obtain⟨t,rfl⟩:=d
 obtain⟨b,rfl⟩:=c
 exact a i j t b s _ _ ⟨.bl (g i j),H,I,rfl,q⟩
def aJ9(i j:Int):Prop:=(-(2 ^ 64) < i/\i < 2 ^ 64)\/(-(2 ^ 64) < j/\j < 2 ^ 64)
theorem aJ9.ok{i j:Int}(h:aJ9 i j):IntMulOk i j:=by
 rcases h with ⟨h1,h2⟩|⟨h1,h2⟩
 · exact .of_left (intBits_le_64 h1 h2)
 · exact .of_right (intBits_le_64 h1 h2)
theorem aRQ:OpR X (binaryOp .Add) (rI0 λi j=>.int (i+j)):=aRP λ_ _ _ _ _ _ _ q=>add_int q
theorem aRR:OpR X (binaryOp .Sub) (rI0 λi j=>.int (i - j)):=aRP λ_ _ _ _ _ _ _ q=>sub_int q
theorem aRS:OpR X (binaryOp .Mult) (rI aJ9 λi j=>.int (i * j)):=opI λ_ _ _ _ _ _ _ a q=>mul_int q a.ok
theorem aRT:OpR X (binaryOp .Mod) (rI (λ_ j=>0 < j) λi j=>.int (i % j)):=opI λi j _ _ _ _ _ a q=>by
 have h1:(0:Int) < j:=a
 exact mod_int' (by ext) (by rw[Int.fmod_eq_emod_of_nonneg i (by ext)];exact q)
theorem unI{f:V9->Sem V9}{g:Int->Int}
  (a:∀ (i:Int) (t:Tok) (s:S9) (Q:V9->S9->Prop) (E:V9->S9->Prop),Q (.int (g i) s.toks) {s with toks:=s.toks+1}->wpAny (model X.prog X.w) X.A (f (.int i t)) Q E s) :
  UnR X f (rU λi=>.int (g i)):=by
 intro a0 s Z H x v Q I b h
 obtain⟨i,rfl,q⟩:=h
 obtain⟨t,rfl⟩:=b
 exact a i t s _ _ ⟨.int (g i),H,I.tok _,⟨_,rfl⟩,q⟩
theorem aRU:UnR X (unaryOp .USub) (rU λi=>.int (-i)):=unI λ_ _ _ _ _ q=>neg_int q
end
section
variable{X:Cx}{a b c:E2}{ta tb tc:TE}{pos:Pos}
theorem vI{Q:VK}{k a:Bool}(I:Inv X a0 Z H s)(q:Q (.bl k) H)(e:k=a):EP X a0 Z Q (.bool a) s:=by
 subst e
 exact⟨.bl k,H,I,rfl,q⟩
theorem aUZ:OpR X (compareOp .Lt) (rI0 λi j=>.bl (decide (i < j))):=aE5 λ_ _ _ _ _ _ _ q=>lt_int q
theorem aU0:OpR X (compareOp .LtE) (rI0 λi j=>.bl (decide (i<=j))):=aE5 λ_ _ _ _ _ _ _ q=>le_int q
theorem aU1:OpR X (compareOp .Gt) (rI0 λi j=>.bl (decide (j < i))):=aE5 λ_ _ _ _ _ _ _ q=>gt_int q
theorem aU2:OpR X (compareOp .GtE) (rI0 λi j=>.bl (decide (j<=i))):=aE5 λ_ _ _ _ _ _ _ q=>ge_int q
theorem aGV:OpR X (compareOp .In) (λx y H Q=>∃ i j,x=.str i/\y=.str j/\Q (.bl (!(Builtin.Str.occurrences j i 0 j.length 1).isEmpty)) H):=by
 intro a0 s Z H x y v u Q I b a h
 obtain⟨i,j,rfl,rfl,q⟩:=h
 obtain⟨t,rfl⟩:=b
 obtain⟨c,rfl⟩:=a
 exact in_str (vI I q rfl)
theorem aRV:OpR X (compareOp .Is) (λx y H Q=>y=.non/\Q (.bl (decide (x=.non))) H):=by
 intro a0 s Z H x y v u Q I a b h
 obtain⟨rfl,q⟩:=h
 cases b
 refine is_none_gen (vI I q ?_)
 cases x<;>first
  | (cases a;rfl)
  | (obtain⟨t,rfl⟩:=a;rfl)
theorem aNT:OpR X (compareOp .IsNot) (λx y H Q=>y=.non/\Q (.bl (!decide (x=.non))) H):=by
 intro a0 s Z H x y v u Q I a b h
 obtain⟨rfl,q⟩:=h
 cases b
 refine isnot_none_gen (vI I q ?_)
 cases x<;>first
  | (cases a;rfl)
  | (obtain⟨t,rfl⟩:=a;rfl)
theorem aAF:OpR X (compareOp .NotIn) (λx y H Q=>∃ i j,x=.str i/\y=.str j/\Q (.bl (!(!(Builtin.Str.occurrences j i 0 j.length 1).isEmpty))) H):=by
 intro a0 s Z H x y v u Q I b a h
 obtain⟨i,j,rfl,rfl,q⟩:=h
 obtain⟨t,rfl⟩:=b
 obtain⟨c,rfl⟩:=a
 exact notIn_str (vI I q rfl)
theorem fX(b:E2)(h:op≠.In:=by decide)(h2:op≠.NotIn:=by decide):behindInMarks op b=false:=by
 have e1:(op == CmpOp.In)=false:=by cases op<;>first|rfl|exact absurd rfl h
 have e2:(op == CmpOp.NotIn)=false:=by cases op<;>first|rfl|exact absurd rfl h2
 cases b<;>simp[behindInMarks,e1,e2]
theorem xJ(i:OpR X (compareOp op) r)(g:PE X a ta)(hb:PE X b tb)(f:behindInMarks op b=false):PE X (.Compare a [op] [b] pos) (tOp r ta tb):=by
 intro a0 s Z H Q I h
 exact wpAny_Compare1 (aJ8 g hb I h λv u d x y H2 j e c q=>i a0 d Z H2 x y v u Q j e c q) f
def aMQ(t:TE):TT:=λZ H Q=>t Z H λx H'=>∃ k,x=.bl k/\Q k H'
theorem xK(q:OpR X (compareOp op) r)(i:PE X a ta)(hb:PE X b tb)(g:behindInMarks op b=false):PT X (.Compare a [op] [b] pos) (aMQ (tOp r ta tb)):=by
 intro a0 s Z H Q I h
 refine wpAny_isTrue_Compare1 (thn (i a0 s Z H _ I h) λv s1 ⟨x,H1,n,r1,l⟩=>thn (hb a0 s1 Z H1 _ n l) λu o ⟨y,H2,m,r2,j⟩=>
  thn (q a0 o Z H2 x y v u _ m r1 r2 j) λc t ⟨z,H3,d,f,k,e,p⟩=>?_) g
 subst e
 cases f
 exact D4 ⟨H3,d,p⟩
theorem qK:(sizeLine:Nat) < 2 ^ 63:=by rw[HB];decide
theorem aE6:OpR X (binaryOp .Add) (λx y H Q=>∃ i j,x=.str i/\y=.str j/\i.length+j.length<=sizeLine/\Q (.str (i++j)) H):=by
 intro a0 s Z H x y v u Q I c a h
 obtain⟨i,j,rfl,rfl,b,q⟩:=h
 obtain⟨t,rfl⟩:=c
 obtain⟨d,rfl⟩:=a
 exact add_str (λd e=>⟨.str (i++j),H,I.tok _,⟨_,rfl⟩,q⟩) b
theorem o9{x:V}(r:aT [x] us):∃ u,us=[u]/\aP x u:=by
 cases r with
 | cons r1 r2=>cases r2;exact⟨_,rfl,r1⟩
theorem sC{x y:V}(r:aT [x,y] us):∃ u w',us=[u,w']/\aP x u/\aP y w':=by
 cases r with
 | cons r1 r2=>
  cases r2 with
  | cons r3 r4=>cases r4;exact⟨_,_,rfl,r1,r3⟩
theorem aGW(b:X.calm=true):iG X (.builtin "max") (λxs H Q=>∃ i j,xs=[.int i,.int j]/\Q (.int (if j > i then j else i)) H):=by
 intro a0 s Z H xs us Q I r h
 obtain⟨i,j,rfl,q⟩:=h
 obtain⟨u,e,rfl,⟨t,rfl⟩,⟨c,rfl⟩⟩:=sC r
 refine max_two_ints (I.ok.hd b) λh' d k=>⟨_,H,I.kept k,?_,q⟩
 by_cases a:j > i
 · rw [AJ a, AJ a]; exact⟨_, rfl⟩
 · rw [AM a, AM a]; exact⟨_, rfl⟩
theorem aGX(b:X.calm=true):iG X (.builtin "min") (λxs H Q=>∃ i j,xs=[.int i,.int j]/\Q (.int (if j < i then j else i)) H):=by
 intro a0 s Z H xs us Q I r h
 obtain⟨i,j,rfl,q⟩:=h
 obtain⟨u,e,rfl,⟨t,rfl⟩,⟨c,rfl⟩⟩:=sC r
 refine min_two_ints (I.ok.hd b) λh' d k=>⟨_,H,I.kept k,?_,q⟩
 by_cases a:j < i
 · rw [AJ a, AJ a]; exact⟨_, rfl⟩
 · rw [AM a, AM a]; exact⟨_, rfl⟩
theorem aGY:iG X (.type "int") (λxs H Q=>(∃ i,xs=[.int i]/\Q (.int i) H)\/∃ k,xs=[.bl k]/\Q (.int (if k then 1 else 0)) H):=by
 intro a0 s Z H xs us Q I r h
 rcases h with ⟨i,rfl,q⟩|⟨k,rfl,q⟩
 .obtain ⟨u,rfl,t,rfl⟩:=o9 r
  exact call_int_int ⟨.int i,H,I,⟨_,rfl⟩,q⟩
 .obtain ⟨u,rfl,r1⟩:=o9 r
  cases r1
  exact call_int_bool ⟨.int (if k then 1 else 0),H,I.tok _,⟨_,rfl⟩,q⟩
def aRW(K:Frag)(x:V)(H:Hp)(n:Nat):Prop:=
 match x with
 | .str y=>y.length<=sizeLine/\n=y.length
 | .byt y=>y.size<=sizeLine/\n=y.size
 | .ref p=>(∃ xs,SqL K H p xs/\n=xs.length)\/∃ xs,SqT K H p xs/\n=xs.length
 | _=>False
theorem aKA:iG X (.builtin "len") (λxs H Q=>∃ x n,xs=[x]/\aRW X.K x H n/\Q (.int n) H):=by
 intro a0 s Z H xs us Q I r h
 obtain⟨x,n,rfl,e,q⟩:=h
 obtain⟨u,rfl,c⟩:=o9 r
 have l:=qK
 have m:sizeLine=16777216:=HB
 cases x with
 | str y=>
  obtain⟨t,rfl⟩:=c
  obtain⟨k,b⟩:y.length<=sizeLine/\n=y.length:=e
  subst b
  exact len_str (by ext) ⟨.int _,H,I.tok _,⟨_,rfl⟩,q⟩
 | byt y=>
  obtain⟨t,rfl⟩:=c
  obtain⟨k,b⟩:y.size<=sizeLine/\n=y.size:=e
  subst b
  exact PySem.W.len_bytes (by ext) ⟨.int _,H,I.tok _,⟨_,rfl⟩,q⟩
 | ref p=>
  cases c
  have b:(∃ xs,SqL X.K H p xs/\n=xs.length)\/∃ xs,SqT X.K H p xs/\n=xs.length:=e
  rcases b with ⟨xs,f,b⟩|⟨xs,f,b⟩
  .subst b
   obtain⟨d,i,g,j⟩:=I.list f
   have a:=i.length
   exact Calls.call_len_list g.isList (by simp only[A6];ext) ⟨.int xs.length,H,I.tok _,⟨_,by simp only[A6];rw[a]⟩,q⟩
  .subst b
   obtain⟨d,i,g,j⟩:=I.tuple f
   have a:=i.length
   exact len_tuple g (by simp only[A6];ext) ⟨.int xs.length,H,I.tok _,⟨_,by simp only[A6];rw[a]⟩,q⟩
 | _=>exact(show False from e).elim
end
structure ObjM(h:Heap)(x dx C:Az)(mA:Str->Option V9):Prop where
 obj:h.get? x=some (instObj C dx)
 ns:h.Ns1 dx mA
 ne:dx≠x
theorem yU{h:H9}{dx:Az}(n:h.Ns1 dx mA):∃ od,h.get? dx=some od/\∀ name,lookIn name od=some (mA name):=by
 obtain⟨o,es,k,j,d,f,_,i⟩:=n
 refine⟨o,j,λname=>?_⟩
 have e:=i name
 unfold nsFind findBy at e
 rw[<-Array.find?_toList]at e
 unfold lookIn
 rw[d]
 dsimp only
 split
 .rename_i y q
  rw[q]at e
  exact DB some e
 .rename_i q
  rw[q]at e
  have a:es.toList.any (·.refKey)=false:=by
   rw[List.any_eq_false]
   intro y c
   obtain⟨z,t,b⟩:=f y (Array.mem_toList_iff.mp c)
   simp[DictEntry.refKey,b]
  have g:¬ es.toList.any (·.refKey)=true:=by rw[a];exact BM
  rw[AM g]
  exact DB some e
theorem ObjM.look{h:H9}{x dx C:Az}(I:ObjM h x dx C mA):∃ od,PySem.W.InstAt h x (instObj C dx) C (some od)/\∀ name,lookIn name od=some (mA name):=
 let ⟨od,ho,hl⟩:=yU I.ns
 ⟨od,⟨I.obj,rfl,rfl,ho⟩,hl⟩
section
variable{prog:P9}{w:W9}{A:U9}{E:V9->S9->Prop}{s:S9}{K:Frag}{x dx C f:Az}{mA:Str->O9 V9}{name:Str}{v:V9}
end
theorem nZ.some_of{v:V}{o:O9 V9}(r:nZ (some v) o):∃ u,o=some u/\aP v u:=by
 cases o with
 | none=>exact(show False from r).elim
 | some u=>exact⟨u,rfl,r⟩
section
variable{P:P9}{w:W9}{H H':Hp}{h h':H9}{a C dx:Az}{fs fs':L9 (Str×V)}
theorem aNU(hok:HOk P w H h)(e:H a=some (.ins C dx fs)):∃ mA,ObjM h a dx C mA/\(∀ f,nZ (fs.lookup f) (mA f))/\PySem.Within mA (fs.map (·.1))/\fs.length<=1000/\H dx=some (.own a):=by
 obtain⟨d,z,c,b,mA,n,r,q⟩:=(show bI P w H h a (.ins C dx fs)from hok a _ e)
 exact⟨mA,⟨b,n,c⟩,r,q,z,d⟩
end
structure Cls(K:Frag)(C:Az):Prop where
 pg:plainGet K C Str.empty=true
 hd:PySem.W.hasDictIn K C=true
 po:PySem.W.plainOver K C=true
 sa:findIn K (.ref C) "__setattr__"=some (some (.builtin "object.__setattr__"))
theorem Cls.get{K:Frag}{C:Az}(c:Cls K C)(f:Str):plainGet K C f=true:=c.pg
section
variable{X:Cx}{a0:L9 (Az×Obj)}{Z:St}{H:Hp}{s:S9}{a C dx:Az}{fs:L9 (Str×V)}{f:Str}{v:V}{A:U9}{E:V9->S9->Prop}
end
section
variable{X:Cx}{a0:L9 (Az×Obj)}{Z:St}{H:Hp}{s:S9}{A:U9}{E:V9->S9->Prop}{Q:V9->S9->Prop}{c:V9}{b:Bool}
inductive TyOf(K:Frag)(H:Hp):V->V9->Prop where
 | non:TyOf K H .non (.type "NoneType")
 | bl (x:Bool):TyOf K H (.bl x) (.type "bool")
 | int (i:Int):TyOf K H (.int i) (.type "int")
 | str (x:Str):TyOf K H (.str x) (.type "str")
 | flt (x:UInt64):TyOf K H (.flt x) (.type "float")
 | lst {a:Az} {xs:List V} (e:H a=some (.lst xs)):TyOf K H (.ref a) (.type "list")
 | frz {a:Az} {o:Obj} {xs:List V} (e:H a=some (.frz o (.lst xs))):TyOf K H (.ref a) (.type "list")
 | tup {a:Az} {xs:List V} (e:H a=some (.tup xs)):TyOf K H (.ref a) (.type "tuple")
 | dK {a:Az} {ce:List (Key×V)} (e:H a=some (.dK ce)):TyOf K H (.ref a) (.type "dict")
 | dT {a:Az} {ce:List (List Key×V)} (e:H a=some (.dT ce)):TyOf K H (.ref a) (.type "dict")
 | ins {a C dx:Az} {fs:List (Str×V)} (e:H a=some (.ins C dx fs)) (cl:Cls K C) (ha:findIn K (.ref C) "__class__"=some (some (.builtin "object.__class__")))
  (hn:specialIn K (.builtin "object.__class__") "__get__"=some (some (.builtin "getset_descriptor.__get__"))) (htk:takesIn K (.builtin "object.__class__")=some true)
  (hm:PySem.W.mroIn K C (.type "object")=some true):TyOf K H (.ref a) (.ref C)
theorem aGZ{x:V}{t:V9}(I:Inv X a0 Z H s)(d:aP x u)(ty:TyOf X.K H x t)(e:kitOne X.K t c=some b)(h:∀ tk,Q (.bool b) {s with toks:=tk}) :
  wpAny (model X.prog X.w) A (call (.builtin "isinstance") [u,c]) Q E s:=by
 cases ty with
 | non=>cases(show u=Value.none from d);exact B5 PySem.W.kitx_none I.kIn True.intro e (λz=>nomatch z) h
 | bl y=>cases(show u=Value.bool y from d);exact B5 PySem.W.kitx_bool I.kIn True.intro e (λz=>nomatch z) h
 | int i=>obtain⟨t,q⟩:=(show ∃ t,u=Value.int i t from d);cases q;exact B5 PySem.W.kitx_int I.kIn True.intro e (λz=>nomatch z) h
 | str y=>obtain⟨t,q⟩:=(show ∃ t,u=Value.str y t from d);cases q;exact B5 PySem.W.kitx_str I.kIn True.intro e (λz=>nomatch z) h
 | flt y=>obtain⟨t,q⟩:=(show ∃ t,u=Value.float y t from d);cases q;exact B5 PySem.W.kitx_float I.kIn True.intro e (λz=>nomatch z) h
 | @lst a xs ea=>
  cases(show u=Value.ref a from d)
  obtain⟨_,_,n,_,h1⟩:=(show bI X.prog X.w H s.heap a (.lst xs)from I.hok a _ ea)
  exact B5 GF I.kIn ⟨_,h1,rfl⟩ e (λz=>nomatch z) h
 | @frz a ob xs ea=>
  cases(show u=Value.ref a from d)
  obtain⟨_,_,_,n,_,h1⟩:=(show bI X.prog X.w H s.heap a (.frz ob (.lst xs))from I.hok a _ ea)
  exact B5 GF I.kIn ⟨_,h1,rfl⟩ e (λz=>nomatch z) h
 | @tup a xs ea=>
  cases(show u=Value.ref a from d)
  obtain⟨_,_,_,p⟩:=(show bI X.prog X.w H s.heap a (.tup xs)from I.hok a _ ea)
  obtain⟨o,h1,h2,_⟩:=p
  exact B5 kitx_tuple I.kIn ⟨o,h1,h2.1⟩ e (λz=>nomatch z) h
 | @dK a ce ea=>
  cases(show u=Value.ref a from d)
  obtain⟨_,_,vs,_,p⟩:=(show bI X.prog X.w H s.heap a (.dK ce)from I.hok a _ ea)
  obtain⟨o,es,f,h1,h2,_⟩:=p
  exact B5 kitx_dict I.kIn ⟨o,h1,h2.1⟩ e (λz=>nomatch z) h
 | @dT a ce ea=>
  cases(show u=Value.ref a from d)
  obtain⟨_,_,xs,_,o,es,f,h1,h2,_⟩:=(show bI X.prog X.w H s.heap a (.dT ce)from I.hok a _ ea)
  exact B5 kitx_dict I.kIn ⟨o,h1,h2.1⟩ e (λz=>nomatch z) h
 | @ins a C dx fs ea cl ha hn htk hm=>
  cases(show u=Value.ref a from d)
  obtain⟨mA,O,_⟩:=aNU I.hok ea
  obtain⟨od,J,_⟩:=O.look
  exact B5 (PySem.W.kitx_own (cl.get _) cl.hd ha hn htk hm) I.kIn J e (λz=>nomatch z) h
end
structure Room(k:Nat)(A:Around):Prop where
 hd:A.handled=none
 dp:A.depth+3 * k+5 < recursionLimit
 un:A.units+16 * k+200 < cLine
theorem Room.mono{A:U9}(r:Room k A)(h:j<=k):Room j A:=⟨r.hd,by have:=r.dp;ext,by have:=r.un;ext⟩
theorem Room.deeper{A:U9}(r:Room (k+1) A)(env:Env):Room k (A.deeper env):=
 ⟨r.hd,by have:=r.dp;show A.depth+1+3 * k+5 < _;ext,by have:=r.un;show A.units+3+16 * k+200 < _;ext⟩
theorem Room.depth{A:U9}(r:Room k A):A.depth < recursionLimit:=by have:=r.dp;ext
theorem Room.units{A:U9}(r:Room k A):A.units+64 < cLine:=by have:=r.un;ext
def fY:TA:=λ_ H Q=>Q [] H
def cN(ta:TE)(tr:TA):TA:=λZ H Q=>ta Z H λx H1=>tr Z H1 λxs H2=>Q (x::xs) H2
section
variable{X:Cx}{e:E2}{es:L9 E2}{te:TE}{t:TA}{pos:Pos}
theorem bR:PA X [] fY:=λ_ _ _ _ H Q I h=>Calls.spliced_nil ⟨[],H,I,.nil,h⟩
theorem aZ(c:PE X e te)(hr:PA X es t)(b:starEach (e::es) X.env=(false,eval e X.env)::starEach es X.env:=by rfl):PA X (e::es) (cN te t):=by
 intro pos a0 s Z H Q I h
 rw[b]
 show wpAny _ _ (spliced ((false,eval e X.env)::backTo pos (starEach es X.env))) _ _ s
 refine Calls.spliced_cons (thn (c a0 s Z H _ I h) λu s1 a=>?_)
 obtain⟨x,H1,g,r1,f⟩:=a
 exact thn (hr pos a0 s1 Z H1 _ g f) λus j ⟨xs,H2,i,r2,d⟩=>⟨x::xs,H2,i,.cons r1 r2,d⟩
def aWI(t:TA):TE:=λZ H Q=>t Z H λxs H1=>xs.length<=sizeLine/\∀ p,H1 p=none->Q (.ref p) (upd H1 p (.tup xs))
def aWJ(t:TA):TE:=λZ H Q=>t Z H λxs H1=>xs.length<=sizeLine/\∀ p,H1 p=none->Q (.ref p) (upd H1 p (.lst xs))
theorem aRX{x1}(h:PA X es t):PE X (.Tuple es x1 pos) (aWI t):=by
 intro a0 s Z H Q I d
 refine wpAny_Tuple_spliced (thn (h pos a0 s Z H _ I d) λus s1 ⟨xs,H1,a,r,z,q⟩=>⟨by rw[<-r.length];exact z,?_⟩)
 have c:H1 s1.heap.objs.size=none:=a.hok.fresh (AQ _)
 refine⟨.ref s1.heap.objs.size,upd H1 s1.heap.objs.size (.tup xs),a.laid (t':=s1.toks) (λb u e=>AE _ e) (AQ _) ?_,rfl,q _ c⟩
 exact⟨z,us,r,⟨_,A0 _ rfl,⟨rfl,rfl⟩,_,rfl⟩⟩
theorem aRY(h:PA X es t):PE X (.List es pos) (aWJ t):=by
 intro a0 s Z H Q I d
 refine wpAny_List_spliced (thn (h pos a0 s Z H _ I d) λus s1 ⟨xs,H1,a,r,z,q⟩=>⟨by rw[<-r.length];exact z,?_⟩)
 have c:H1 s1.heap.objs.size=none:=a.hok.fresh (AQ _)
 refine⟨.ref s1.heap.objs.size,upd H1 s1.heap.objs.size (.lst xs),a.laid (t':=s1.toks) (λb u e=>AE _ e) (AQ _) ?_,rfl,q _ c⟩
 exact⟨z,us,0,r,A0 _ rfl⟩
end
abbrev Sp:=L9 V->Hp->VK->XK->Prop
abbrev CXT:=L9 Env->Hp->S9->XK->V9->S9->Prop
structure Env0(P:Program)(w:World)(K:Frag)(mg:Str->Option V9)(base:Heap)(A:Around)(outer:List Env)(s:S9)(H:Hp):Prop where
 frames:A.frames=some outer
 mod:Mod K mg base
 bs:∀ b o,base.get? b=some o->s.heap.get? b=some o/\H b=none
 bsz:base.objs.size<=s.heap.objs.size
 funs:s.heap.FunFrames base outer
 frf:∀ b∈frs outer,H b=none
 hok:HOk P w H s.heap
 bare:AllBare s.gens
def CE(outer:L9 Env)(P:P9)(w:W9)(H:Hp)(s:S9)(Q:VK)(u:V9)(s':S9):Prop:=
 ∃ v H',s'.os=s.os/\AllBare s'.gens/\Un (frs outer) [] H H' s.heap s'.heap/\HOk P w H' s'.heap/\aP v u/\Q v H'
def CR(CX:CXT)(outer:L9 Env)(P:P9)(w:W9)(H:Hp)(s:S9)(Q:VK)(E:XK)(r:Result)(s':S9):Prop:=
 match r with
 | .ok (.ret u)=>CE outer P w H s Q u s'
 | .ok _=>False
 | .error e=>CX outer H s E e s'
structure FnOk(P:Program)(w:World)(K:Frag)(mg:Str->Option V9)(base:Heap)(CX:CXT)(k:Nat)(f:Az)(fd:FuncData)(ps:List Str)(sp:Sp):Prop where
 len:∀ vs H Q E,sp vs H Q E->vs.length=ps.length
 run:∀ (A:Around) (outer:List Env) (s:S9) (H:Hp) (args:Args) (us:List V9) (vs:List V) (Q:VK) (E:XK),Room k A->Env0 P w K mg base A outer s H->BindsTo s fd args (ps.zip us)->aT vs us->sp vs H Q E->
  codeAny (model P w) A (.call (.ref f) args) (CR CX outer P w H s Q E) s
theorem FnOk.imp{w:W9}{fd:FuncData}{sp a:Sp}(F:FnOk P w K mg base CX k f fd ps sp)
  (h:∀ vs H Q E,a vs H Q E->sp vs H Q E):FnOk P w K mg base CX k f fd ps a:=
 ⟨λvs H Q E q=>F.len vs H Q E (h _ _ _ _ q),λA outer s H args us vs Q E hr d e b c=>F.run A outer s H args us vs Q E hr d e b (h _ _ _ _ c)⟩
section
variable{X:Cx}{a0:L9 (Az×Obj)}{Z:St}{H:Hp}{s s':S9}
theorem Inv.env0(I:Inv X a0 Z H s):Env0 X.prog X.w X.K X.mg X.base X.A X.stack s H:=
 ⟨I.ok.frames,I.ok.mod,I.bs,AV I.ok.bsz I.sz,I.stack,I.stkFree,I.hok,I.bare⟩
theorem Inv.after{Q:VK}(I:Inv X a0 Z H s)(h:CE X.stack X.prog X.w H s Q u s'):EP X a0 Z Q u s':=by
 obtain⟨v,H',os,a,un,e,r,q⟩:=h
 obtain⟨f,g,d,t,c⟩:=s'
 obtain rfl:c=s.os:=os
 exact⟨v,H',I.call (h':=f) (g':=g) (d':=d) (t':=t) (ch:=[]) un e a (λb z=>absurd z (by simp)),r,q⟩
end
def sD(sp:Sp)(dvs:L9 V)(E:XK)(t:TA):TE:=λZ H Q=>t Z H λvs H1=>sp (vs++dvs) H1 Q E
def jK(K:Frag)(fd:FuncData)(ps:L9 Str)(ds:L9 V9):Prop:=
 ∀ (s:S9) (us:L9 V9),K.In s.heap->(us++ds).length=ps.length->BindsTo s fd ⟨us,[]⟩ (ps.zip (us++ds))
theorem jK.all{fd:FuncData}(h:∀ us:L9 V9,us.length=ps.length->bindArgs fd ⟨us,[]⟩=pure (ps.zip us)):jK K fd ps []:=λs us _ a=>by
 rw[C0]at a ⊢
 exact .of_eq (h us a)
def lK(CX:CXT)(X:Cx)(E:XK):Prop:=∀ (a0:L9 (Az×Obj)) (Z:St) (H:Hp) (s:S9) (e:V9) (s':S9),Inv X a0 Z H s->CX X.stack H s E e s'->X.xe e s'
section
variable{X:Cx}{CX:CXT}{k:Nat}{f C:Az}{fd:FuncData}{ps:L9 Str}{sp:Sp}{dvs:L9 V}{ds:L9 V9}{E:XK}{x m:Str}{p pos apos:Pos}{e o:E2}{es:L9 E2}{ta:TE}{t:TA}
theorem aG0{Q:VK}{vs:L9 V}(F:FnOk X.prog X.w X.K X.mg X.base CX k f fd ps sp)(hr:Room k X.A)(hb:jK X.K fd ps ds)(b:aT dvs ds)(hx:lK CX X E)
  (I:Inv X a0 Z H s) (r:aT vs us) (h:sp (vs++dvs) H Q E):wpAny (model X.prog X.w) X.A (call (.ref f) us) (EP X a0 Z Q) X.xe s:=by
 have r2:aT (vs++dvs) (us++ds):=r.append b
 have c:(us++ds).length=ps.length:=by rw[<-r2.length];exact F.len _ _ _ _ h
 refine GJ (EM (F.run X.A X.stack s H ⟨us,[]⟩ (us++ds) (vs++dvs) Q E hr I.env0 (hb s us I.kIn c) r2 h) λr s' a=>?_)
 cases r with
 | error e=>exact hx a0 Z H s e s' I a
 | ok fl=>
  cases fl with
  | ret u=>exact I.after a
  | next=>exact False.elim a
  | brk=>exact False.elim a
  | cont=>exact False.elim a
theorem aNV(F:FnOk X.prog X.w X.K X.mg X.base CX k f fd ps sp)(hr:Room k X.A)(i:Gl X x)(c:X.mg x=some (.ref f))(j:keepIn X.K (.ref f)=true)(hb:jK X.K fd ps ds)(g:aT dvs ds)(hx:lK CX X E)
  (d:PA X (e::es) t) (a:(x == ("__debug__":Str))=false:=by decide) (he:starEach (e::es) X.env=(false,eval e X.env)::starEach es X.env:=by rfl) (hpl:(backTo pos (starEach es X.env)).any (·.1)=false:=by rfl) :
  PE X (.Call (.Name x p) (e::es) [] pos) (sD sp dvs E t):=by
 intro a0 s Z H Q I h
 refine CN (mB I i c ?_ a)
 refine DX (h₀:=X.base) I.ok.mod.kin j (thn (d pos a0 s Z H _ I h) λus s1 ⟨vs,H1,b,r,q⟩=>⟨b.kIn,?_⟩) he hpl
 exact aG0 F hr hb g hx b r q
end
structure FnScope(N P:List Str)(sc:Scope):Prop where
 kind:sc.kind=.function
 co:sc.isCoroutine=false
 gen:sc.isGenerator=false
 nd:N.Nodup
 pre:N.take P.length=P
 par:∀ x∈P,sc.names.lookup x=some .local\/sc.names.lookup x=some .cell
 nofree:∀ y∈sc.names,y.2≠.free
theorem yV:∀ {binds:L9 (Str×V9)} {m:Str->O9 V9},(∀ v,(x,v)∉binds)->bindL a binds m x=m x
 | [],_,_=>rfl
 | (n,v)::r,m,h=>by
  unfold bindL
  rw[yV λw hw=>h w (AS _ hw)]
  split
  .have:x≠n:=by rintro rfl;exact h v AU
   simp[this]
  .rfl
theorem yW:∀ {binds:L9 (Str×V9)} {m:Str->O9 V9},(∀ v,(x,v)∉binds)->bindC a binds m x=m x
 | [],_,_=>rfl
 | (n,v)::r,m,h=>by
  unfold bindC
  rw[yW λw hw=>h w (AS _ hw)]
  split
  .rfl
  .have:x≠n:=by rintro rfl;exact h v AU
   simp[this]
theorem qL:∀ {P:L9 Str} {vs:L9 V9} {i:Nat} {m:Str->O9 V9},P.Nodup->P[i]? = some x->vs[i]? = some v->a x=some .local->
  bindL a (P.zip vs) m x=some v
 | [],_,_,_,_,h,_,_=>by simp at h
 | _::_,[],_,_,_,_,h,_=>by simp at h
 | p::P,w::vs,0,m,nd,h1,h2,hk=>by
  simp at h1 h2;subst h1;subst h2
  show bindL a ((p,w)::P.zip vs) m p=_
  unfold bindL
  rw[yV λv hv=>(DL.mp nd).1 (EI hv).1,AJ hk]
  simp
 | p::P,w::vs,i+1,m,nd,h1,h2,hk=>by
  show bindL a ((p,w)::P.zip vs) m x=_
  unfold bindL
  exact qL (i:=i) (DL.mp nd).2 (by simpa using h1) (by simpa using h2) hk
theorem qM:∀ {P:L9 Str} {vs:L9 V9} {i:Nat} {m:Str->O9 V9},P.Nodup->P[i]? = some x->vs[i]? = some v->a x≠some .local->
  bindC a (P.zip vs) m x=some v
 | [],_,_,_,_,h,_,_=>by simp at h
 | _::_,[],_,_,_,_,h,_=>by simp at h
 | p::P,w::vs,0,m,nd,h1,h2,hk=>by
  simp at h1 h2;subst h1;subst h2
  show bindC a ((p,w)::P.zip vs) m p=_
  unfold bindC
  rw[yW λv hv=>(DL.mp nd).1 (EI hv).1,AM hk]
  simp
 | p::P,w::vs,i+1,m,nd,h1,h2,hk=>by
  show bindC a ((p,w)::P.zip vs) m x=_
  unfold bindC
  exact qM (i:=i) (DL.mp nd).2 (by simpa using h1) (by simpa using h2) hk
noncomputable def start(N:L9 Str)(vs:L9 V):St:=vs.map some++replicate (N.length - vs.length) none
noncomputable def jB(CX:CXT)(P:P9)(w:W9)(K:Frag)(mg:Str->O9 V9)(base:H9)(N:L9 Str)(qual:Str)(scope:Scope)(f:Az)(cd:V9)(A:U9)(outer:L9 Env)(s:S9)(H:Hp)(E:XK):Cx where
 prog:=P
 w:=w
 K:=K
 mg:=mg
 base:=base
 A:=A.deeper (envOfC qual scope s.heap.objs.size f cd)
 N:=N
 s₀:=s
 H₀:=H
 env:=envOfC qual scope s.heap.objs.size f cd
 outer:=outer
 stack:=envOfC qual scope s.heap.objs.size f cd::outer
 ex:=[]
 calm:=true
 fn:=λ_=>true
 pn:=[]
 xe:=λe s'=>wpAny (model P w) (A.deeper (envOfC qual scope s.heap.objs.size f cd)) (leaving (envOfC qual scope s.heap.objs.size f cd) e) (λ_ s''=>CX outer H s E e s'') (λe' s''=>CX outer H s E e' s'') s'
theorem mK{a:Scope}{n:Nat}(h:a.names.lookup x=some .cell):∃ c,(cellsFrom n a.names []).lookup x=some c:=by
 have q:=HC a.names n [] (.inl h)
 exact GQ.mp q
theorem aG1{w:W9}{A:U9}{outer:L9 Env}{s1:S9}{E:XK}{vs:L9 V}
  (S:FnScope N ps scope) (t:A.handled=none) (e0:Env0 P w K mg base A outer s H) (F:vs.length=ps.length) (r:aT vs us)
  (x:InCallC s s.heap.objs.size (bindL (envOfC qual scope s.heap.objs.size f cd).kindOf (ps.zip us) λ_=>none) (cellsFrom (s.heap.objs.size+1) scope.names []) (bindC (envOfC qual scope s.heap.objs.size f cd).kindOf (ps.zip us) λ_=>none) s1) :
  Inv (jB CX P w K mg base N qual scope f cd A outer s H E) [] (start N vs) H s1:=by
 have D:ps.length<=N.length:=by have:=DB length S.pre;rw[BC]at this;ext
 obtain⟨h1,G,rfl,m⟩:=x.done
 have d:∀ b:Az,b∉(jB CX P w K mg base N qual scope f cd A outer s H E).ex:=λb z=>absurd (show b∈([]:L9 Az)from z) (by simp)
 refine⟨⟨e0.mod,S.kind,rfl,rfl,AQ _,λy z c h1 h2=>?_,λy g=>?_,λy c _ h=>?_,λ_=>t,Around.frames_deeper e0.frames,.inr ⟨rfl,rfl⟩,λb z=>absurd z (d b),e0.bs,e0.bsz,λb _ _=>d b,λb z=>absurd z (d b),e0.funs,e0.frf⟩,
  rfl,e0.bare,Un.kept m,⟨_,x.toInCall.ns,λi y v h1 h2 I=>?_⟩,λy c h=>⟨_,x.cell y c h⟩,e0.hok.fresh (AQ _),λy c h=>?_,λp j=>absurd (show p∈([]:L9 (Az×Obj))from j) (by simp),e0.hok.kept m,?_⟩
 .exact name_of_addr x.apart (BB h1) (BB h2)
 .have g:scope.names.lookup y=some .cell\/scope.names.lookup y=some .free:=g
  rcases g with g|g
  .exact mK g
  .exact absurd rfl (S.nofree _ (BB g))
 .exact B7 (x.above y c (BB h))
 .have hi:i < vs.length:=by
   unfold start at h2
   by_cases hi:i < vs.length
   .exact hi
   .rw[CA (by simpa using hi)]at h2
    rw[GY]at h2
    split at h2<;>cases h2
  have C:vs[i]? = some v:=by
   unfold start at h2
   rw[BV (by simpa using hi),AC]at h2
   cases e:vs[i]? with
   | none=>rw[e]at h2;cases h2
   | some a=>rw[e]at h2;cases h2;rfl
  obtain⟨u,o,B⟩:=r.get C
  have j:ps[i]? = some y:=by
   rw[<-S.pre,EN (by ext)];exact h1
  have l:ps.Nodup:=by rw[<-S.pre];exact S.nd.sublist (List.take_sublist _ _)
  refine⟨u,B,?_⟩
  rcases S.par y (AG j)with k|k
  .exact .inl ⟨k,qL l j o k⟩
  .obtain ⟨c,e⟩:=mK (n:=s.heap.objs.size+1) k
   refine .inr ⟨.inl k,c,e,?_⟩
   have q:=x.cell y c e
   rw[qM l j o (by show scope.names.lookup y≠_;rw[k];decide)]at q
   exact q
 .exact e0.hok.fresh (B7 (x.above y c (BB h)))
 .unfold start
  show _=N.length
  rw[A2,AA,D7]
  ext
theorem aE7{w:W9}{params:Arguments}{F kV a M:V9}{C:O9 Az}
  {z:Array (O9 V9)}  {sp:Sp} (U:K.lookup f=some ⟨M,od,.func (fnOf name qual params body scope F kV doc pm C a ct),z⟩) (p:codeIn K a qual=true) (S:FnScope N ps scope)
  (len:∀ vs H Q E,sp vs H Q E->vs.length=ps.length)
  (c:∀ (A:U9) (outer:L9 Env) (s:S9) (H:Hp) (vs:L9 V) (Q:VK) (E:XK),Room k (A.deeper (envOfC qual scope s.heap.objs.size f a))->sp vs H Q E->
   ∃ t,PSs (jB CX P w K mg base N qual scope f a A outer s H E) body t/\t {nx:=λ_ H'=>Q .non H',rt:=Q} (start N vs) H) :
  FnOk P w K mg base CX (k+1) f (fnOf name qual params body scope F kV doc pm C a ct) ps sp:=by
 refine⟨len,λA outer s H args us vs Q E hr e0 R r h=>?_⟩
 have T:=len _ _ _ _ h
 have D:K.In s.heap:=e0.mod.kin.keeps λb o e=>(e0.bs b o e).1
 have m:s.heap.NoLimit:=e0.mod.nolimit.keeps λb o e=>(e0.bs b o e).1
 have d:∀ y∈ps.zip us,scope.names.lookup y.1=some .local\/(scope.names.lookup y.1=some .cell/\((cellsFrom (s.heap.objs.size+1) scope.names []).lookup y.1).isSome=true):=λB X=>by
  obtain⟨n,v⟩:=B
  rcases S.par n (EI X).1 with q|q
  .exact .inl q
  .exact .inr ⟨q,HC _ _ _ (.inl q)⟩
 refine codeAny_call_function hr.depth (D _ _ U) rfl S.co S.gen rfl (PySem.W.codeRec_of D p) (R _ _ _ _ ?_)
 refine wpAny_newFunctionEnv_cells S.kind d λenv O s1 x=>?_
 subst O
 refine⟨m.keeps x.toInCall.keep,codeAny_func ?_⟩
 obtain⟨t,G,L⟩:=c A outer s H vs Q E (hr.deeper _) h
 have I:Inv (jB CX P w K mg base N qual scope f a A outer s H E) [] (start N vs) H s1:=aG1 S hr.hd e0 T r x
 refine BO (G [] s1 (start N vs) H _ I L) (λY s' g=>?_) λe s' g=>g
 have i:∀ {j:St} {H':Hp} {v:V} {u:V9},Inv (jB CX P w K mg base N qual scope f a A outer s H E) [] j H' s'->aP v u->Q v H'->CE outer P w H s Q u s':=
  λ{j H' v u} J l q=>⟨v,H',J.os,J.bare,J.base,J.hok,l,q⟩
 cases Y with
 | ret u=>
  obtain⟨v,j,H',J,l,q⟩:=g
  exact i J l q
 | next=>
  obtain⟨j,H',J,q⟩:=g
  exact i (v:=V.non) (u:=Value.none) J rfl q
 | brk=>
  obtain⟨_,_,_,q⟩:=g
  exact False.elim q
 | cont=>
  obtain⟨_,_,_,q⟩:=g
  exact False.elim q
section
variable{X:Cx}{x:Str}{p pos:Pos}{e:E2}{es:L9 E2}{t:TA}{id T:String}{r:L9 V->Hp->VK->Prop}
def tCB(r:L9 V->Hp->VK->Prop)(t:TA):TE:=λZ H Q=>t Z H λvs H1=>r vs H1 Q
theorem mL(f:iG X (.builtin id) r)(i:Gl X x)(a:X.mg x=none)(d:bootBuiltins x=some (.builtin id))(b:PA X (e::es) t)(c:x≠"__name__":=by decide)(hdb:(x == ("__debug__":Str))=false:=by decide)
  (he:starEach (e::es) X.env=(false,eval e X.env)::starEach es X.env:=by rfl) (hpl:(backTo pos (starEach es X.env)).any (·.1)=false:=by rfl):PE X (.Call (.Name x p) (e::es) [] pos) (tCB r t):=by
 intro a0 s Z H Q I h
 refine CN (lJ I i a d ?_ c hdb)
 exact PyProof.Rows.callWith_builtin1 (thn (b pos a0 s Z H _ I h) λus s1 ⟨vs,H1,j,r1,g⟩=>f a0 s1 Z H1 vs us Q j r1 g) he hpl
theorem lL(f:iG X (.type T) r)(i:Gl X x)(a:X.mg x=none)(d:bootBuiltins x=some (.type T))(b:PA X (e::es) t)(c:x≠"__name__":=by decide)(hdb:(x == ("__debug__":Str))=false:=by decide)
  (he:starEach (e::es) X.env=(false,eval e X.env)::starEach es X.env:=by rfl) (hpl:(backTo pos (starEach es X.env)).any (·.1)=false:=by rfl):PE X (.Call (.Name x p) (e::es) [] pos) (tCB r t):=by
 intro a0 s Z H Q I h
 refine CN (lJ I i a d ?_ c hdb)
 exact CM (thn (b pos a0 s Z H _ I h) λus s1 ⟨vs,H1,j,r1,g⟩=>f a0 s1 Z H1 vs us Q j r1 g) he hpl
end
end L2
open L2
variable{items:Array V9}
namespace HT
variable{lo hi:O9 Int}
theorem aKB(A:U9)(s:S9)(a:Int)(t:Tok)(c:Int)(u:Tok):∃ e,EqAt A s (.int a t) (.int c u) e/\(e=true↔a=c):=
 ⟨(a == c),SeqAt.EqAt.int_int a t c u,by simp⟩
section
open PySem.SeqAt
open PySem.AutoSeq1 (wpAny_loadPart')
open PySem.MeetsSeq PySem.MeetsSeq2 PySem.MeetsSeq3
end
section
variable{prog:P9}{w:W9}{A:U9}{E:V9->S9->Prop}{s:S9}
theorem aNW{t:Az}{vs ws:L9 V9}(p:IsTup s.heap t vs.toArray)(hb:IsTup s.heap b ws.toArray)(o:vs≠[])
  (h1:ws=[]->Q (.ref t) s) (h2:ws≠[]->Q (.ref s.heap.objs.size) {s with heap:=s.heap.push {cls:=.type "tuple",data:=.seq (vs++ws).toArray}})
  (hsz:vs.length+ws.length<=sizeLine):wpAny (model prog w) A (binaryOp .Add (.ref t) (.ref b)) Q E s:=by
 obtain⟨⟨cls,dd,data,sl⟩,i,m,n,k⟩:=id p
 obtain⟨⟨l,f,j,c⟩,a,d,n2,g⟩:=id hb
 simp only at m k d g
 subst m k d g
 have e:vs.toArray++ws.toArray=(vs++ws).toArray:=by simp
 by_cases h:ws=[]
 .exact concat_meets ⟨_,i,rfl⟩ ⟨_,a,rfl⟩ noFill_tuple_add seq_tuple_add HD GZ (GR _ _)
   (tuple_addW1 t b vs.toArray ws.toArray n n2 dd f sl c (by simpa using o) (by simp[h])) ⟨i,a,h1 h⟩
 .refine concat_meets ⟨_,i,rfl⟩ ⟨_,a,rfl⟩ noFill_tuple_add seq_tuple_add HD GZ (GR _ _)
   (tuple_addW2 t b vs.toArray ws.toArray n n2 dd f sl c (by simpa using o) (by simpa using h) (by rw[A6,A6];exact hsz)) ⟨i,a,?_⟩
  rw[e]
  exact h2 h
noncomputable def sIx(n d:Nat):O9 Int->Nat
 | none=>d
 | some v=>if v < 0 then(v+(n:Int)).toNat else min v.toNat n
theorem t9(n d:Nat):sIx n d none=d:=rfl
theorem xL(n d k:Nat):sIx n d (some (k:Int))=min k n:=by
 show(if (k:Int) < 0 then((k:Int)+(n:Int)).toNat else min (k:Int).toNat n)=min k n
 rw[AM (by ext),C9]
theorem aRZ(n d:Nat)(b:d<=n)(o:O9 Int):sIx n d o<=n:=by
 cases o with
 | none=>exact b
 | some v=>
  show(if v < 0 then(v+(n:Int)).toNat else min v.toNat n)<=n
  by_cases a:v < 0
  · rw [AJ a]; ext
  · rw [AM a]; exact Nat.min_le_right _ _
theorem aC6(v:Int)(n d:Nat):(if v < 0 then max (v+(n:Int)) 0 else min v (n:Int))=((sIx n d (some v):Nat):Int):=by
 show(if v < 0 then max (v+(n:Int)) 0 else min v (n:Int))=(((if v < 0 then(v+(n:Int)).toNat else min v.toNat n):Nat):Int)
 by_cases a:v < 0
 · simp only [AJ a]; ext
 · simp only [AM a]; ext
theorem aE8(lo hi:O9 Int)(n:Nat):Builtin.Slice.sliceAdjust lo hi 1 (n:Int)=(((sIx n 0 lo:Nat):Int),((sIx n n hi:Nat):Int)):=by
 have h1:¬ ((1:Int) < 0):=by ext
 unfold Builtin.Slice.sliceAdjust
 simp only[h1,D0]
 refine Prod.ext ?_ ?_
 .cases lo with
  | none=>rfl
  | some v=>exact aC6 v n 0
 .cases hi with
  | none=>rfl
  | some v=>exact aC6 v n n
theorem aE9(i j:Nat):Builtin.Slice.slicePlaces (i:Int) (j:Int) 1=j - i:=by
 unfold Builtin.Slice.slicePlaces
 have h1:(1:Int) > 0:=by ext
 simp only[h1,CU,Int.ediv_one]
 split<;>ext
theorem vJ{o:O9 Int}{Q:O9 Int->S9->Prop}(p:IsPart v o)(h:Q o s):wpAny (model prog w) A (Builtin.Slice.slicePartIndex v) Q E s:=by
 cases p with
 | none=>exact slicePart_none h
 | int i t=>exact slicePart_int h
theorem uA{sl:Az}{d c:V9}{Q:Int×Int×Nat->S9->Prop}(g:s.heap.IsSliceOf sl d c .none)(pl:IsPart d lo)(e:IsPart c hi)
  (h:Q (((sIx n 0 lo:Nat):Int),1,sIx n n hi - sIx n 0 lo) s):wpAny (model prog w) A (Builtin.Slice.sliceApplied (.ref sl) (pure (n:Int))) Q E s:=by
 obtain⟨os,a,f,b⟩:=id g
 unfold Builtin.Slice.sliceApplied Builtin.Slice.sliceFields
 refine AB (AB (B0 a b (x:=d) rfl (AB (B0 a b (x:=c) rfl (AB (B0 a b (x:=.none) rfl (AH ?_)))))))
 refine AB (slicePart_none ?_)
 show wpAny _ _ (if ((1:Int) == 0)=true then _ else _) _ _ s
 rw[AM (by decide)]
 refine AB (vJ pl (AB (vJ e (AB (AH ?_)))))
 show wpAny _ _ (match Builtin.Slice.sliceAdjust lo hi 1 (n:Int)with|(lo,hi)=>pure (lo,(1:Int),Builtin.Slice.slicePlaces lo hi 1)) _ _ s
 rw[aE8 lo hi n]
 show wpAny _ _ (pure (((sIx n 0 lo:Nat):Int),(1:Int),Builtin.Slice.slicePlaces ((sIx n 0 lo:Nat):Int) ((sIx n n hi:Nat):Int) 1)) _ _ s
 rw[aE9]
 exact AH h
theorem aKC(xs:Array V9)(i k:Nat):((range k).filterMap λ(m:Nat)=>xs[((i:Int)+(m:Int) * 1).toNat]?).toArray=((xs.toList.drop i).take k).toArray:=by
 have e:(λ(m:Nat)=>xs[((i:Int)+(m:Int) * 1).toNat]?)=λm=>xs[i+m]?:=by
  funext m
  have:((i:Int)+(m:Int) * 1).toNat=i+m:=by ext
  rw[this]
 rw[e]
 have:=pick_run xs i k
 rw[List.filterMap_map]at this
 have e2:((λx=>xs[x]?)∘λx=>i+x)=λm=>xs[i+m]?:=rfl
 rw[e2]at this
 rw[this]
theorem tH{t sl:Az}{g i:V9}(b:IsTup s.heap t items)(j:s.heap.IsSliceOf sl g i .none)(pl:IsPart g lo)(k:IsPart i hi)
  (hw:¬ (sIx items.size 0 lo=0/\sIx items.size items.size hi=items.size))
  (h:Q (.ref s.heap.objs.size) {s with heap:=s.heap.push {cls:=.type "tuple",data:=.seq ((items.toList.drop (sIx items.size 0 lo)).take (sIx items.size items.size hi - sIx items.size 0 lo)).toArray}})
  (hsz:items.size<=sizeLine):wpAny (model prog w) A (getItem (.ref t) (.ref sl)) Q E s:=by
 have a:sizeOk (.seq ((items.toList.drop (sIx items.size 0 lo)).take (sIx items.size items.size hi - sIx items.size 0 lo)).toArray):=by
  show((items.toList.drop (sIx items.size 0 lo)).take (sIx items.size items.size hi - sIx items.size 0 lo)).toArray.size<=sizeLine
  rw[A6,BC,List.length_drop,C4]
  ext
 have p:sIx items.size items.size hi<=items.size:=aRZ _ _ (AQ _) hi
 obtain⟨os,c,f,l⟩:=id j
 have d:s.TypeIs (.ref sl) "slice":=⟨os,c,f⟩
 unfold getItem
 try with_reducible refine CT ?_
 first|refine AB (AH ?_)|skip
 refine AB (wpAny_sequenceKey b.typeIs (by decide) ?_)
 refine AB (DV (name:=Str.ofString "__getitem__") b.typeIs DU
  (EB DU b.typeIs entry_tuple_getitem ?_ (args_tuple_getitem _ _)))
 show wpAny _ _ (Builtin.Tuple.tupleItemsOf (.ref t) >>= _) _ _ s
 refine AB (tupleItemsOf_ b ?_)
 refine AB (wpAny_typeOf d ?_)
 rw[AJ (by decide)]
 refine AB (uA j pl k ?_)
 have e:¬ ((((sIx items.size 0 lo:Nat):Int) == 0 && (1:Int) == 1 && (sIx items.size items.size hi - sIx items.size 0 lo) == items.size)=true):=by
  intro q
  rw[A1,A1]at q
  have o:((sIx items.size 0 lo:Nat):Int)=0:=G9 q.1.1
  have n:sIx items.size items.size hi - sIx items.size 0 lo=items.size:=G9 q.2
  exact hw ⟨by ext,by ext⟩
 show wpAny _ _ (if (((sIx items.size 0 lo:Nat):Int) == 0 && (1:Int) == 1 && (sIx items.size items.size hi - sIx items.size 0 lo) == items.size)=true then _ else _) _ _ s
 rw[AM e,aKC]
 first
  | exact AB (m:=Builtin.Tuple.tupleExact _) (CZ (AH ⟨_,rfl,AH h⟩) a)
  | exact AB (m:=Builtin.Tuple.tupleExact _) (CZ (AB (AH (AH ⟨_,rfl,AH h⟩))) a)
  | exact AB (AB (m:=Builtin.Tuple.tupleExact _) (CZ (AH (AH ⟨_,rfl,AH h⟩)) a))
  | exact AB (AB (m:=Builtin.Tuple.tupleExact _) (CZ (AH ⟨_,rfl,AH h⟩) a))
end
end HT
variable{a:L9 V9}{p:Az}
namespace L2
abbrev TO:=St->Hp->(O9 Int->Hp->Prop)->Prop
def PO(X:Cx)(e:O9 E2)(t:TO):Prop:=
 ∀ (a0:L9 (Az×Obj)) (s:S9) (Z:St) (H:Hp) (Q:O9 Int->Hp->Prop),Inv X a0 Z H s->t Z H Q->
  wpAny (model X.prog X.w) X.A (evalPart e X.env) (λu s'=>∃ o H',Inv X a0 Z H' s'/\IsPart u o/\Q o H') X.xe s
def aNX:TO:=λ_ H Q=>Q none H
def aU3(t:TE):TO:=λZ H Q=>t Z H λx H1=>∃ i,x=.int i/\Q (some i) H1
section
variable{X:Cx}{e:E2}{te:TE}{lo hi:O9 E2}{tl th:TO}{pos p2:Pos}
theorem aNY:PO X none aNX:=by
 intro a0 s Z H Q I h
 rw[evalPart_none]
 exact AH ⟨none,H,I,.none,h⟩
theorem aNZ(h:PE X e te):PO X (some e) (aU3 te):=by
 intro a0 s Z H Q I d
 rw[evalPart_some]
 refine thn (h a0 s Z H _ I d) λu s1 a=>?_
 obtain⟨x,H1,c,r1,b⟩:=a
 obtain⟨i,rfl,q⟩:=b
 obtain⟨t,rfl⟩:=r1
 exact⟨some i,H1,c,.int i t,q⟩
def SlR(X:Cx)(r:V->O9 Int->O9 Int->Hp->VK->Prop):Prop:=
 ∀ (a0:L9 (Az×Obj)) (s:S9) (Z:St) (H:Hp) (x:V) (v vl vu:V9) (lo hi:O9 Int) (sl:Az) (Q:VK),Inv X a0 Z H s->aP x v->s.heap.IsSliceOf sl vl vu .none->IsPart vl lo->IsPart vu hi->r x lo hi H Q->
  ∃ T id,typeLookup (.type T) "__getitem__"=pure (some (.builtin id))/\s.TypeIs v T/\wpAny (model X.prog X.w) X.A (getItem v (.ref sl)) (EP X a0 Z Q) X.xe s
def tSl(r:V->O9 Int->O9 Int->Hp->VK->Prop)(te:TE)(tl th:TO):TE:=λZ H Q=>te Z H λx H1=>tl Z H1 λl H2=>th Z H2 λu H3=>r x l u H3 Q
theorem aKD{r:V->O9 Int->O9 Int->Hp->VK->Prop}(hr:SlR X r)(m:PE X e te)(o:PO X lo tl)(E:PO X hi th):PE X (.Subscript e (.Slice lo hi none p2) pos) (tSl r te tl th):=by
 intro a0 s Z H Q I h
 refine Subscript_ (thn (m a0 s Z H _ I h) λv s1 c=>?_)
 obtain⟨x,H1,z,r1,y⟩:=c
 refine wpAny_Slice (thn (o a0 s1 Z H1 _ z y) λd D ⟨l,H2,B,C,t⟩=>thn (E a0 D Z H2 _ B t) λf a c=>?_)
 obtain⟨u,H3,p,i,F⟩:=c
 rw[evalPart_none]
 refine AH ?_
 have k:Inv X a0 Z H3 {a with heap:=a.heap.push {cls:=.type "slice",data:=.fields #[d,f,.none]}}:=p.kept (t':=a.toks) λb G q=>AE _ q
 obtain⟨T,id,n,g,j⟩:=hr a0 {a with heap:=a.heap.push {cls:=.type "slice",data:=.fields #[d,f,.none]}} Z H3 x v d f l u a.heap.objs.size Q k r1 (Heap.IsSliceOf.new ..) C i F
 show wpAny (model X.prog X.w) X.A (subscriptTail e (.Slice lo hi none p2) v (.ref a.heap.objs.size)) (EP X a0 Z Q) X.xe {a with heap:=a.heap.push {cls:=.type "slice",data:=.fields #[d,f,.none]}}
 exact tail_any (ops:=[.ref a.heap.objs.size,v]) g n j (by with_unfolding_all rfl)
noncomputable def qN(xs:L9 V)(lo hi:O9 Int):L9 V:=(xs.drop (HT.sIx xs.length 0 lo)).take (HT.sIx xs.length xs.length hi - HT.sIx xs.length 0 lo)
theorem tU(xs:L9 V)(lo hi:O9 Int):(qN xs lo hi).length<=xs.length:=by
 unfold qN
 rw[BC,List.length_drop]
 ext
def aWK(K:Frag):V->O9 Int->O9 Int->Hp->VK->Prop:=λx lo hi H Q=>∃ a xs,x=.ref a/\SqT K H a xs /\
 ¬ (HT.sIx xs.length 0 lo=0/\HT.sIx xs.length xs.length hi=xs.length)/\∀ p,H p=none->Q (.ref p) (upd H p (.tup (qN xs lo hi)))
theorem aR0:SlR X (aWK X.K):=by
 intro a0 s Z H x v n t lo hi sl Q I i m l g h
 obtain⟨a,xs,rfl,j,k,q⟩:=h
 cases i
 obtain⟨d,r,e,f⟩:=I.tuple j
 have c:d.toArray.size=xs.length:=by rw[A6];exact r.length.symm
 refine⟨"tuple",_,DU.lookup,e.typeIs,?_⟩
 refine HT.tH e m l g (by rw[c];exact k) ?_ (by rw[c];exact f)
 rw[c]
 refine⟨.ref s.heap.objs.size,_,I.laid (t':=s.toks) (o:=.tup (qN xs lo hi)) (λb p q=>AE _ q) (AQ _) ?_,rfl,q _ (I.hok.fresh (AQ _))⟩
 exact⟨AV (tU xs lo hi) f,_,(r.drop (HT.sIx xs.length 0 lo)).take (HT.sIx xs.length xs.length hi - HT.sIx xs.length 0 lo),lI.new _ _⟩
def aU4(K:Frag):R2:=λx y H Q=>∃ a b xs ys,x=.ref a/\y=.ref b/\SqT K H a xs/\SqT K H b ys/\xs≠[]/\xs.length+ys.length<=sizeLine /\
 (ys=[]->Q (.ref a) H)/\(ys≠[]->∀ p,H p=none->Q (.ref p) (upd H p (.tup (xs++ys))))
theorem aT.nil_iff{xs:L9 V}(r:aT xs us):us=[]↔xs=[]:=by
 cases r with
 | nil=>simp
 | cons _ _=>simp
theorem aN0:OpR X (binaryOp .Add) (aU4 X.K):=by
 intro a0 s Z H x y v u Q I f m h
 obtain⟨a,b,xs,ys,rfl,rfl,i,n,j,d,l,k⟩:=h
 cases f
 cases m
 obtain⟨g,r1,e,_⟩:=I.tuple i
 obtain⟨c,r2,p2,_⟩:=I.tuple n
 refine HT.aNW e p2 (λz=>j (r1.nil_iff.mp z)) (λz=>⟨.ref a,H,I,rfl,l (r2.nil_iff.mp z)⟩) (λz=>?_) (by rw[<-r1.length,<-r2.length];exact d)
 refine⟨.ref s.heap.objs.size,_,I.laid (t':=s.toks) (o:=.tup (xs++ys)) (λb p q=>AE _ q) (AQ _) ?_,rfl,k (λw=>z (r2.nil_iff.mpr w)) _ (I.hok.fresh (AQ _))⟩
 exact⟨by rw[A2];exact d,_,r1.append r2,lI.new _ _⟩
end
noncomputable def ixN(n:Nat)(i:Int):O9 Nat:=if 0<=i then(if i < n then some i.toNat else none)else if -(n:Int)<=i then some (i+n).toNat else none
noncomputable def atI(xs:L9 α)(i:Int):O9 α:=(ixN xs.length i).bind λj=>xs[j]?
theorem aC7{i:Int}(h:ixN n i=some j):seqIndex? i n=some j/\j < n /\ -(n:Int)<=i/\i < n:=by
 unfold ixN at h
 by_cases a:0<=i
 .rw[AJ a]at h
  by_cases h1:i < n
  .rw[AJ h1]at h
   have e:i.toNat=j:=BK h
   exact⟨by rw[seqIndex_of a h1,e],by ext,by ext,h1⟩
  .rw[AM h1]at h;cases h
 .rw[AM a]at h
  by_cases h1 : -(n:Int)<=i
  .rw[AJ h1]at h
   have e:(i+n).toNat=j:=BK h
   exact⟨by rw[seqIndex_neg (by ext) h1,e],by ext,h1,by ext⟩
  .rw[AM h1]at h;cases h
theorem xM{xs:L9 α}{i:Int}{v:α}(h:atI xs i=some v):∃ j,seqIndex? i xs.length=some j/\xs[j]? = some v/\j < xs.length /\ -(xs.length:Int)<=i/\i < xs.length:=by
 unfold atI at h
 cases e:ixN xs.length i with
 | none=>rw[e]at h;cases h
 | some j=>
  rw[e]at h
  obtain⟨h1,h2,a,b⟩:=aC7 e
  exact⟨j,h1,h,h2,a,b⟩
theorem cY{xs:L9 α}{j:Nat}{v:α}(h:xs[j]? = some v):atI xs (j:Int)=some v:=by
 have a:j < xs.length:=(AD.mp h).1
 have e:ixN xs.length (j:Int)=some j:=by
  unfold ixN
  rw[AJ (by ext),AJ (by ext)];simp
 unfold atI;rw[e];exact h
theorem aKE(xs:L9 α)(v:α):atI (xs++[v]) (-1)=some v:=by
 have a:(xs++[v]).length=xs.length+1:=by simp
 have e:ixN (xs++[v]).length (-1)=some xs.length:=by
  unfold ixN
  rw[a,AM (by decide),AJ (by ext)]
  congr 1
  ext
 unfold atI
 rw[e]
 show(xs++[v])[xs.length]? = some v
 simp
def aC8(b:E2):Prop:=∀ o i,subscripted b false o i=operate [o,i] (getItem o i)
def IxR(X:Cx)(r:R2):Prop:=
 ∀ (value slice:E2) (a0:L9 (Az×Obj)) (s:S9) (Z:St) (H:Hp) (x y:V) (v u:V9) (Q:VK),Inv X a0 Z H s->aP x v->aP y u->r x y H Q->
  subscripted slice false v u=operate [v,u] (getItem v u)->wpAny (model X.prog X.w) X.A (subscriptTail value slice v u) (EP X a0 Z Q) X.xe s
def MtR(X:Cx)(id:String)(r:V->L9 V->Hp->VK->Prop):Prop:=
 ∀ (a0:L9 (Az×Obj)) (s:S9) (Z:St) (H:Hp) (x:V) (xs:L9 V) (v:V9) (us:L9 V9) (Q:VK),Inv X a0 Z H s->aP x v->aT xs us->r x xs H Q->
  wpAny (model X.prog X.w) X.A (call (.builtin id) (v::us)) (EP X a0 Z Q) X.xe s
section
variable{X:Cx}{a b:E2}{ta tb:TE}{pos:Pos}
theorem aU5{r:R2}(hr:IxR X r)(f:PE X a ta)(hb:PE X b tb)(g:aC8 b):PE X (.Subscript a b pos) (tOp r ta tb):=by
 intro a0 s Z H Q I h
 exact Subscript_ (aJ8 f hb I h λv u d x y H2 i e c q=>hr a b a0 d Z H2 x y v u Q i e c q (g _ _))
def aWL(K:Frag):R2:=λx y H Q=>∃ p xs i v,x=.ref p/\y=.int i/\SqL K H p xs/\atI xs i=some v/\Q v H
def aWM(K:Frag):R2:=λx y H Q=>∃ p xs i v,x=.ref p/\y=.int i/\SqT K H p xs/\atI xs i=some v/\Q v H
def aWN:R2:=λx y H Q=>∃ z i c,x=.str z/\y=.int i/\z.length<=sizeLine/\atI z.cps.toList i=some c/\Q (.str ⟨#[c]⟩) H
theorem aN1:IxR X (aWL X.K):=by
 intro g f a0 s Z H x y v u Q I o A h l
 obtain⟨p,xs,i,z,rfl,rfl,C,D,q⟩:=h
 cases o
 obtain⟨t,rfl⟩:=A
 obtain⟨b,r,d,F⟩:=I.list C
 obtain⟨j,h1,h2,J,B,E⟩:=xM D
 obtain⟨w,k,c⟩:=r.get h2
 have n:=r.length
 have G:=qK
 have a:EP X a0 Z Q w s:=⟨z,H,I,c,q⟩
 by_cases m:0<=i
 .have e:i.toNat=j:=by
   rw[seqIndex_of m E]at h1
   exact BK h1
  exact item_listR d.isList m (by ext) (by rw[e];simpa using k) a l
 .have e:(i+(b.toArray.size:Int)).toNat=j:=by
   rw[seqIndex_neg (by ext) B]at h1
   rw[A6,<-n]
   exact BK h1
  exact subscriptTail_builtinR (x:=w) d.isList.typeIs slot_list_getitem.lookup
   (wpAny_getItem_list_neg (Q:=λr s'=>r=w/\EP X a0 Z Q r s') d.isList (by ext) (by rw[A6]<;>ext) (by ext) (by rw[e];simpa using k) ⟨rfl,a⟩) l
theorem aR1:IxR X (aWM X.K):=by
 intro d c a0 s Z H x y v u Q I m o h A
 obtain⟨p,xs,i,z,rfl,rfl,f,k,q⟩:=h
 cases m
 obtain⟨t,rfl⟩:=o
 obtain⟨n,r,e,B⟩:=I.tuple f
 obtain⟨j,h1,h2,D,E,F⟩:=xM k
 obtain⟨w,g,b⟩:=r.get h2
 have l:=r.length
 have C:=qK
 have a:EP X a0 Z Q w s:=⟨z,H,I,b,q⟩
 exact subscriptTail_builtinR (x:=w) e.typeIs slot_tuple_getitem.lookup
  (getItem_tuple (j:=j) (Q:=λr s'=>r=w/\EP X a0 Z Q r s') e (by ext) (by ext) (by rw[A6,<-l];exact h1) (by simpa using g) ⟨rfl,a⟩) A
theorem aR2:IxR X aWN:=by
 intro b a a0 s Z H x y v u Q I e f h k
 obtain⟨z,i,c,rfl,rfl,n,l,q⟩:=h
 obtain⟨t,rfl⟩:=e
 obtain⟨r,rfl⟩:=f
 obtain⟨j,h1,h2,p,g,m⟩:=xM l
 have d:z.cps.toList.length=z.length:=by simp[Str.length]
 rw[d]at h1 g m
 have o:=qK
 exact tail_any (typeIs_str s z t) slot_str_getitem.lookup (getItem_str (c:=c) (by
  have e1:decide (i < -(2 ^ 63:Int))=false:=A5 (by ext)
  have e2:decide (i>=2 ^ 63)=false:=A5 (by ext)
  rw[e1,e2,Bool.or_false]) (by rw[h1];simpa using h2) ⟨.str ⟨#[c]⟩,H,I.tok _,⟨_,rfl⟩,q⟩) k
theorem aFA(a:L9 V9)(n j:Nat)(u:V9):Obj.mapSeq (·.setIfInBounds j u) {cls:=.type "list",data:=.seq a.toArray n}={cls:=.type "list",data:=.seq (a.set j u).toArray n}:=by
 simp[Obj.mapSeq]
theorem Inv.lst{a0:L9 (Az×Obj)}{Z:St}{H:Hp}{s:S9}{p:Az}{xs:L9 V}(I:Inv X a0 Z H s)(h:H p=some (.lst xs)) :
  ∃ (its:L9 V9) (n:Nat),aT xs its/\s.heap.get? p=some {cls:=.type "list",data:=.seq its.toArray n}/\xs.length<=sizeLine:=by
 obtain⟨z,its,n,r,e⟩:=I.hok p _ h
 exact⟨its,n,r,e,z⟩
theorem Inv.lstUpd{Z:St}{H:Hp}{xs ys:L9 V}{a its':L9 V9}{c:Nat}{f:Obj->Obj}(I:Inv X a0 Z H s)(h:H p=some (.lst xs))
  (d:s.heap.get? p=some {cls:=.type "list",data:=.seq a.toArray n}) (hf:f {cls:=.type "list",data:=.seq a.toArray n}={cls:=.type "list",data:=.seq its'.toArray c}) (r:aT ys its') (hz:ys.length<=sizeLine) (t:Nat) :
  Inv X a0 Z (upd H p (.lst ys)) {s with heap:=s.heap.update p f,toks:=t}:=by
 have e:(s.heap.update p f).get? p=some {cls:=.type "list",data:=.seq its'.toArray c}:=by
  rw[BN f d (by rw[hf]<;>rfl),hf]
 refine I.write (x:=p) (e:=p) (by rw[h];trivial) (.inl rfl) (λb u g q=>(B2 _ _ (BL g)).trans q) ⟨_,e⟩ ?_
 exact⟨hz,its',c,r,e⟩
def aMR:V->V->V->Hp->(Hp->Prop)->Prop:=λo i v H Q=>∃ p xs k j,o=.ref p/\i=.int k/\H p=some (.lst xs)/\ixN xs.length k=some j/\Q (upd H p (.lst (xs.set j v)))
theorem aKF:aJ3 X aMR:=by
 intro a0 s Z H o i v D C u Q I z y x h
 obtain⟨p,xs,k,j,rfl,rfl,m,A,q⟩:=h
 cases z
 obtain⟨t,rfl⟩:=y
 obtain⟨a,n,r,c,w⟩:=I.lst m
 obtain⟨h1,h2,e,f⟩:=aC7 A
 have d:=r.length
 have B:=qK
 have l:Inv X a0 Z (upd H p (.lst (xs.set j v))) {s with heap:=s.heap.update p (Obj.mapSeq (·.setIfInBounds j u))}:=
  I.lstUpd m c (aFA a n j u) (r.set x j) (by rw[CK];exact w) s.toks
 by_cases g:0<=k
 .have b:k.toNat=j:=by
   rw[seqIndex_of g f]at h1
   exact BK h1
  exact PySem.W.ki_setAt c g (by ext) (by rw[A6,<-d];exact f) (by rw[b];exact⟨_,l,q⟩)
 .have b:(k+(a.toArray.size:Int)).toNat=j:=by
   rw[seqIndex_neg (by ext) e]at h1
   rw[A6,<-d]
   exact BK h1
  exact PySem.W.ki_setBack c (by ext) (by rw[A6,<-d];exact e) (by ext) (by rw[b];exact⟨_,l,q⟩)
theorem aAG(lo hi:O9 Int)(n:Nat):(sliceBounds lo hi none n).1=((HT.sIx n 0 lo:Nat):Int)/\(sliceBounds lo hi none n).2.1=((HT.sIx n n hi:Nat):Int)/\(sliceBounds lo hi none n).2.2=1:=by
 refine⟨?_,?_,rfl⟩
 .cases lo with
  | none=>simp[sliceBounds,HT.sIx]
  | some i=>
   simp only[sliceBounds,HT.sIx,GS,show(1:Int) > 0 by decide,CU]
   by_cases h:i < 0
   · simp only [h, CU] <;> ext
   · simp only [h, D0] <;> ext
 .cases hi with
  | none=>simp[sliceBounds,HT.sIx]
  | some i=>
   simp only[sliceBounds,HT.sIx,GS,show(1:Int) > 0 by decide,CU]
   by_cases h:i < 0
   · simp only [h, CU] <;> ext
   · simp only [h, D0] <;> ext
theorem zU(a:L9 V9)(lo hi:O9 Int):slicePick a.toArray lo hi none=((a.drop (HT.sIx a.length 0 lo)).take (HT.sIx a.length a.length hi - HT.sIx a.length 0 lo)).toArray:=by
 obtain⟨h1,h2,b⟩:=aAG lo hi a.toArray.size
 unfold slicePick
 rw[h1,h2,b]
 simp only[sliceRange_one,pick_run,A6]<;>rfl
def aWO(K:Frag):V->O9 Int->O9 Int->Hp->VK->Prop:=λx lo hi H Q=>∃ a xs,x=.ref a/\SqL K H a xs/\∀ p,H p=none->Q (.ref p) (upd H p (.lst (qN xs lo hi)))
theorem aN2:SlR X (aWO X.K):=by
 intro a0 s Z H x v m p lo hi sl Q I g l k e h
 obtain⟨a,xs,rfl,j,q⟩:=h
 cases g
 obtain⟨i,r,d,f⟩:=I.list j
 have c:=r.length
 refine⟨"list",_,slot_list_getitem.lookup,d.isList.typeIs,?_⟩
 refine wpAny_getItem_list_slice d.isList l k e .none (by simp) ?_ (by rw[A6]<;>ext)
 rw[zU,<-c]
 refine⟨.ref s.heap.objs.size,_,I.laid (t':=s.toks) (o:=.lst (qN xs lo hi)) (λb n q=>AE _ q) (AQ _) ?_,rfl,q _ (I.hok.fresh (AQ _))⟩
 exact⟨AV (tU xs lo hi) f,_,0,(r.drop (HT.sIx xs.length 0 lo)).take (HT.sIx xs.length xs.length hi - HT.sIx xs.length 0 lo),A0 _ rfl⟩
theorem aAH:iG X (.type "list") (λxs H Q=>∃ p ys,xs=[.ref p]/\(SqL X.K H p ys\/SqT X.K H p ys)/\∀ l,H l=none->Q (.ref l) (upd H l (.lst ys))):=by
 intro a0 s Z H xs us Q I r h
 obtain⟨p,ys,rfl,j,q⟩:=h
 obtain⟨u,rfl,y⟩:=o9 r
 cases y
 have g:∀ (a:L9 V9),aT ys a->ys.length<=sizeLine->∀ (h':H9) (c:Nat),(∀ b o',s.heap.get? b=some o'->h'.get? b=some o')->
   h'.get? s.heap.objs.size=some {cls:=.type "list",dict:=none,data:=.seq a.toArray c,slots:=#[]}->EP X a0 Z Q (.ref s.heap.objs.size) {s with heap:=h'}:=λa d f h' c i e=>
  ⟨.ref s.heap.objs.size,_,I.laid (t':=s.toks) i (AQ _) (show bI X.prog X.w _ h' _ (.lst ys)from⟨f,a,c,d,e⟩),rfl,q _ (I.hok.fresh (AQ _))⟩
 rcases j with j|j
 .obtain ⟨a,d,v,f⟩:=I.list j
  have k:=d.length
  obtain⟨o,x,t,n,m⟩:=v.isList
  exact call_list_seq p (.inl rfl) x t m (λh' c i e=>g a d f h' c i e) (by simp only[A6]<;>ext)
 .obtain ⟨a,d,v,f⟩:=I.tuple j
  have k:=d.length
  obtain⟨o,x,t,n,m⟩:=v
  exact call_list_seq p (.inr rfl) x t m (λh' c i e=>g a d f h' c i e) (by simp only[A6]<;>ext)
theorem zV:iG X (.type "tuple") (λxs H Q=>∃ p ys,xs=[.ref p]/\((SqL X.K H p ys/\∀ l,H l=none->Q (.ref l) (upd H l (.tup ys)))\/(SqT X.K H p ys/\Q (.ref p) H))):=by
 intro a0 s Z H xs us Q I r h
 obtain⟨p,ys,rfl,h⟩:=h
 obtain⟨u,rfl,k⟩:=o9 r
 cases k
 rcases h with ⟨d,q⟩|⟨d,q⟩
 .obtain ⟨a,f,c,g⟩:=I.list d
  have i:=f.length
  refine call_tuple_list c.isList (λh' m=>?_) (by simp only[A6]<;>ext)
  have j:Inv X a0 Z H {s with heap:=h'}:=I.kept (t':=s.toks) m
  have n:Inv X a0 Z (upd H h'.objs.size (.tup ys)) {s with heap:=h'.push {cls:=.type "tuple",data:=.seq a.toArray}}:=
   j.laid (t':=s.toks) (λb o e=>AE _ e) (AQ _) (show bI X.prog X.w _ _ _ (.tup ys)from⟨g,a,f,lI.new _ _⟩)
  exact⟨.ref h'.objs.size,_,n,rfl,q _ (j.hok.fresh (AQ _))⟩
 .obtain ⟨a,f,c,g⟩:=I.tuple d
  exact call_tuple_same c ⟨.ref p,H,I,rfl,q⟩
def tyV(K:Frag)(T:String)(x:V)(H:Hp):Prop:=match x with
 | .str _=>T="str"
 | .int _=>T="int"
 | .ref p=>(T="list"/\∃ xs,SqL K H p xs)\/(T="tuple"/\∃ o,K.lookup p=some o/\o.cls=.type "tuple"/\o.dict=none) \/
  (T="dict"/\((∃ ce,H p=some (.dK ce))\/∃ ce,H p=some (.dT ce)))\/(T="set"/\∃ S n,H p=some (.set S n))
 | _=>False
theorem aG2{Z:St}{H:Hp}{T:String}{x:V}(I:Inv X a0 Z H s)(r:aP x v)(ty:tyV X.K T x H) :
  s.TypeIs v T/\∀ a,v=.ref a->∃ ob,s.heap.get? a=some ob/\ob.dict=none:=by
 cases x with
 | str z=>
  obtain⟨t,rfl⟩:=r
  cases(show T="str" from ty)
  exact⟨typeIs_str s z t,λ_ e=>nomatch e⟩
 | int i=>
  obtain⟨t,rfl⟩:=r
  cases(show T="int" from ty)
  exact⟨typeIs_int s i t,λ_ e=>nomatch e⟩
 | ref p=>
  cases r
  rcases ty with ⟨rfl,xs,g⟩|⟨rfl,o,b,j,d⟩|⟨rfl,b⟩|⟨rfl,S,n,b⟩
  .obtain ⟨h,_,f,_⟩:=I.list g
   refine⟨f.isList.typeIs,λa e=>?_⟩
   cases e
   obtain⟨o,n,e,c,d,_⟩:=f
   exact⟨o,e,d⟩
  .refine ⟨⟨o,I.kIn p o b,j⟩,λa e=>?_⟩
   cases e
   exact⟨o,I.kIn _ o b,d⟩
  .have z:∃ o,s.heap.get? p=some o/\o.ExactDict:=by
    rcases b with ⟨ce,b⟩|⟨ce,b⟩
    .obtain ⟨_,_,_,_,o,_,_,e,ex,_⟩:=I.hok p _ b
     exact⟨o,e,ex⟩
    .obtain ⟨_,_,_,_,o,_,_,e,ex,_⟩:=I.hok p _ b
     exact⟨o,e,ex⟩
   obtain⟨o,e,ex⟩:=z
   refine⟨⟨o,e,ex.1⟩,λa e2=>?_⟩
   cases e2
   exact⟨o,e,ex.2.1⟩
  .obtain ⟨o,_,_,_,e,ex,_⟩:=I.hok p _ b
   refine⟨⟨o,e,ex.1⟩,λa e2=>?_⟩
   cases e2
   exact⟨o,e,ex.2.1⟩
 | _=>exact False.elim ty
def aR3(K:Frag)(T:String)(r:V->L9 V->Hp->VK->Prop)(to:TE):TE:=λZ H Q=>to Z H λx H1=>tyV K T x H1/\r x [] H1 Q
def tBM(K:Frag)(T:String)(r:V->L9 V->Hp->VK->Prop)(to:TE)(t:TA):TE:=λZ H Q=>to Z H λx H1=>tyV K T x H1/\t Z H1 λxs H2=>r x xs H2 Q
variable{o e:E2}{es:L9 E2}{to:TE}{t:TA}{name:Str}{apos cpos:Pos}{T id:String}{r:V->L9 V->Hp->VK->Prop}
theorem aR4(f:PlainAttrs T)(slot:Slot T name id)(c:typeOf (.builtin id)=pure (.type "method_descriptor"))(g:MtR X id r)(j:PE X o to)
  (a:attributeBase o name X.env (eval o X.env)=eval o X.env:=by rfl) (hline:(apos.endLine == cpos.line)=true:=by rfl):PE X (.Call (.Attribute o name apos) [] [] cpos) (aR3 X.K T r to):=by
 intro a0 s Z H Q I h
 refine wpAny_Call_method0_late a hline (thn (j a0 s Z H _ I h) λv s1 b=>?_)
 obtain⟨x,H1,d,r1,e,i⟩:=b
 obtain⟨h1,h2⟩:=aG2 d r1 e
 exact⟨T,id,f,slot,c,h1,h2,EZ rfl (PySem.evalArgs_none (g a0 s1 Z H1 x [] v [] Q d r1 .nil i))⟩
theorem z7(p:PlainAttrs T)(slot:Slot T name id)(b:typeOf (.builtin id)=pure (.type "method_descriptor"))(g:MtR X id r)(q:PE X o to)(i:PA X (e::es) t)
  (a:attributeBase o name X.env (eval o X.env)=eval o X.env:=by rfl)
  (hfew:((backTo cpos (starEach (e::es) X.env)).all (λx=>!x.1) && (backToKw cpos (keywordEach [] X.env)).all (λx=>x.1.isSome)
   && decide ((e::es).length+([]:L9 Keyword).length+(if ([]:L9 Keyword).isEmpty then 0 else 1) < 30))=true:=by rfl)
  (hline:(apos.endLine == cpos.line)=true:=by rfl) (hs:starEach (e::es) X.env=(false,eval e X.env)::starEach es X.env:=by rfl) (hplain:(backTo cpos (starEach es X.env)).any (·.1)=false:=by rfl) :
  PE X (.Call (.Attribute o name apos) (e::es) [] cpos) (tBM X.K T r to t):=by
 intro a0 s Z H Q I h
 refine HE a hfew hline rfl (thn (q a0 s Z H _ I h) λv s1 c=>?_)
 obtain⟨x,H1,f,r1,m,k⟩:=c
 obtain⟨h1,h2⟩:=aG2 f r1 m
 refine⟨T,id,p,slot,b,h1,h2,?_⟩
 have d:=i cpos a0 s1 Z H1 _ f k
 rw[hs]at d ⊢
 refine EZ (by show(false || (backTo cpos (starEach es X.env)).any (·.1))=false;rw[hplain]<;>rfl) (Calls.evalArgs_plain ?_)
 exact thn d λus n ⟨vs,H2,l,r2,j⟩=>g a0 n Z H2 x vs v us Q l r1 r2 j
end
def MtM(X:Cx)(id:String)(r:V->L9 V->Hp->VK->Prop):Prop:=
 ∀ (a0:L9 (Az×Obj)) (s:S9) (Z:St) (H:Hp) (x:V) (xs:L9 V) (v:V9) (us:L9 V9) (Q:VK),Inv X a0 Z H s->aP x v->aT xs us->r x xs H Q->
  wpAny (model X.prog X.w) X.A (call (.builtin id) (v::us)) (EP X a0 Z Q) X.xe s
theorem aT.one:∀ {x:V} {us:L9 V9},aT [x] us->∃ u,us=[u]/\aP x u
 | _,_,.cons r .nil=>⟨_,rfl,r⟩
theorem aT.zero:∀ {us:L9 V9},aT [] us->us=[]
 | _,.nil=>rfl
theorem aT.reverse{xs:L9 V}(h:aT xs us):aT xs.reverse us.reverse:=by
 induction h with
 | nil=>exact .nil
 | cons r t ih=>rw[D5,D5];exact aT.append ih (.cons r .nil)
section
variable{X:Cx}{a0:L9 (Az×Obj)}{Z:St}{H:Hp}{s:S9}{l b:Az}{xs ys zs:L9 V}
theorem Inv.lset{its':L9 V9}{f:Array V9->Array V9}(I:Inv X a0 Z H s)(c:H l=some (.lst xs))
  (e:s.heap.get? l=some {cls:=.type "list",data:=.seq a.toArray n}) (hf:f a.toArray=its'.toArray) (hv:aT ys its') (hz:ys.length<=sizeLine) :
  Inv X a0 Z (upd H l (.lst ys)) {s with heap:=s.heap.update l (Obj.mapSeq f),toks:=t'}:=by
 have q:=PySem.IsL.update e f
 rw[hf]at q
 refine I.write (x:=l) (e:=l) (by rw[c];exact trivial) (.inl rfl) (λg u d b=>(B2 s.heap (Obj.mapSeq f) (BL d)).trans b) ⟨_,q⟩ ?_
 exact⟨hz,its',_,hv,q⟩
theorem Inv.lnew{t':Nat}(I:Inv X a0 Z H s)(b:aT ys a)(hz:ys.length<=sizeLine) :
  Inv X a0 Z (upd H s.heap.objs.size (.lst ys)) {s with heap:=s.heap.push {cls:=.type "list",data:=.seq a.toArray},toks:=t'}:=
 I.laid (λ_ _ q=>AE _ q) (AQ _) ⟨hz,a,0,b,A0 _ rfl⟩
theorem Inv.fresh(I:Inv X a0 Z H s):H s.heap.objs.size=none:=I.hok.fresh (AQ _)
theorem Inv.lstM(I:Inv X a0 Z H s)(a:H l=some (.lst xs)):xs.length<=sizeLine/\∃ (its:L9 V9) (n:Nat),aT xs its/\xs.length=its.length/\s.heap.get? l=some {cls:=.type "list",data:=.seq its.toArray n}:=by
 obtain⟨z,its,n,r,e⟩:=I.hok l _ a
 exact⟨z,its,n,r,r.length,e⟩
end
section
variable{X:Cx}
def aC9:V->L9 V->Hp->VK->Prop:=λx vs H Q=>∃ l xs y,x=.ref l/\vs=[y]/\H l=some (.lst xs)/\xs.length < sizeLine/\Q .non (upd H l (.lst (xs++[y])))
theorem aG3:MtM X "list.append" aC9:=by
 intro a0 s Z H x vs v us Q I c d h
 obtain⟨l,xs,y,rfl,rfl,b,i,q⟩:=h
 cases c
 obtain⟨u,rfl,f⟩:=d.one
 obtain⟨z,a,n,r,g,e⟩:=I.lstM b
 refine call_meets F.slot_list_append ⟨_,e,rfl⟩ F.entry_list_append (F.args_list_append_2 _ _) (PySem.list_append l a.toArray n u (by rw[A6];ext)) ⟨e,?_⟩
 refine⟨.non,_,I.lset (its':=a++[u]) b e (by simp) (r.append (.cons f .nil)) ?_,rfl,q⟩
 rw[A2,BU]
 ext
def aAI:V->L9 V->Hp->VK->Prop:=λx vs H Q=>∃ l xs,x=.ref l/\vs=[]/\H l=some (.lst xs)/\Q .non (upd H l (.lst xs.reverse))
theorem aFB:MtM X "list.reverse" aAI:=by
 intro a0 s Z H x vs v us Q I d f h
 obtain⟨l,xs,rfl,rfl,c,q⟩:=h
 cases d
 have b:=f.zero
 subst b
 obtain⟨z,a,n,r,g,e⟩:=I.lstM c
 refine call_meets F.slot_list_reverse ⟨_,e,rfl⟩ F.entry_list_reverse (F.args_list_reverse_1 _) (AutoSeq1.list_reverse_list_0 l a.toArray n (by rw[A6];ext)) ⟨e,?_⟩
 refine⟨.non,_,I.lset (its':=a.reverse) c e (by simp) r.reverse ?_,rfl,q⟩
 rw[List.length_reverse]
 ext
end
end L2
variable{a:Az}{q:P9}
namespace Att
open PySem.W PySem.Calls
theorem vK{P:Params}{h:H9}:∀ (ns:L9 Int) (vs:L9 V9),WellAll P h vs (ns.map WData.int)->IntsAre vs ns:=by
 intro ns
 induction ns with
 | nil=>
  intro vs w
  rw[BQ]at w
  cases w
  exact .nil
 | cons n ns ih=>
  intro vs w
  rw[AZ]at w
  cases w with
  | cons a b=>
   cases a
   exact .cons _ _ (ih _ b)
theorem aG4{l:OpenLaw}(o:l.most=some n){P:Params}{h:H9}{args:L9 WData}{b:L9 V9}
  (c:l.row.toRowW.claim.pre args=true) (j:WellAll P h b args) :
  ∃ a vs ns,b=[Value.ref a]/\args=[WData.list (ns.map WData.int)]/\h.get? a=some {cls:=.type "list",data:=.seq vs.toArray}/\IntsAre vs ns/\ns.length<=n:=by
 have i:WShape.hasAll [] args [.list .int]=true:=(pre_splitW c).1
 have k:l.pre.holds [] {args:=args}=true:=(pre_splitW c).2
 obtain⟨d,r,rfl,h1,h2⟩:=hasAllW_cons i
 obtain rfl:=hasAllW_nil h2
 obtain⟨xs,rfl,p⟩:=hasW_list h1
 obtain⟨ns,rfl⟩:=items_int p
 have e:ns.length<=n:=by
  unfold OpenLaw.pre at k
  have f:(WTm.not (.lt (.lit (.int (n:Int))) (.len (.arg 0)))).holds [] {args:=[.list (ns.map .int)]}=true:=by
   have f:=(holds_andW k).1
   rw[o]at f
   exact f
  have g:=condW_of f (w_not (w_lt w_lit (w_len_list (w_arg rfl))))
  rw[AA]at g
  refine Nat.le_of_not_lt λq=>?_
  have m:(n:Int) < ((ns.length:Nat):Int):=by ext
  first
   | (rw[AY m]at g;exact absurd g (by decide))
   | (simp at g;ext)
 cases j with
 | cons w1 w2=>
  cases w2
  cases w1 with
  | list ho hall=>exact⟨_,_,ns,rfl,rfl,ho,vK ns _ hall,e⟩
theorem aG5(l:OpenLaw)(args:L9 WData):l.row.toRowW.claim.post args (.bool true) args=true:=
 postW_of (r:=l.row.toRowW) (X:=(true == true))
  (show WShape.has [] (.bool true) .bool=true by first|rfl|decide|simp[WShape.has,WShape.arms,WShape.armsAll])
  (show(WTm.eq .res (.lit (.bool true))).value [] {args:=args,res:=some (.bool true),after:=args}=some (.bool (true == true))from w_eq_bool (w_res rfl) w_lit) rfl
theorem attach_call{l:OpenLaw}{b:L9 Str}{v:(Str->O9 V9)->H9->Prop}{u:W9->H9->Prop}{d:DefRec}
  (z:l.most=some n) (m:d.params.defaults=[])
  (call:∀ (w:W9) (s₀ s₁:S9) (mg mb:Str->O9 V9) (fa:Az) (o:Obj) (pm cd doc:V9) (a:Az) (vs:L9 V9) (ns:L9 Int),
   Ground q b [] v w s₀ mg mb s₁.heap->u w s₁.heap->
   s₁.heap.get? fa=some o->o.data=.func (docDef d.name d.params d.body d.scope pm cd doc)->s₁.heap.CodeRec cd d.name->mg d.name=some (.ref fa)->
   s₁.heap.get? a=some {cls:=.type "list",data:=.seq vs.toArray}->IntsAre vs ns->ns.length<=n->s₁.gens = #[]->
   codeAny (model l.prog w) callerA (.call (.ref fa) ⟨[.ref a],[]⟩) (λr s'=>r=.ok (.ret (.bool true))/\OldK s₁.heap s'.heap/\s'.os=s₁.os/\AllBare s'.gens) s₁) :
  WalkO q b v u l.row.toRowW d [] (λf vs=>PySem.call f vs):=by
 intro w s₀ s₁ mg mb G Yq fa o pm cd doc I kV H x j s k A args p J g t E i F
 obtain rfl:I=.none:=Dflts.none s m
 obtain rfl:kV=.none:=Dflts.noKw s
 obtain⟨a,vs,ns,rfl,rfl,h,c,e⟩:=aG4 z g i
 refine enter_call (EM (call w s₀ s₁ mg mb fa o pm cd doc a vs ns G Yq H (fd_plain x) j k h c e A) λr s' D=>?_)
 obtain⟨rfl,h2,B,C⟩:=D
 exact⟨.inl ⟨.bool true,.bool true,[],rfl,λ_=>rfl,.bool true,aG5 l _,λ_=>⟨List.Pairwise.nil,λ_ y=>(nomatch y)⟩⟩,h2,B,C⟩
section
variable{prog:P9}{w:W9}{A:U9}{E:V9->S9->Prop}{s:S9}{K:Frag}
end
end Att
variable{st:Stmt}{outer:Str->O9 NameKind}{l:Az}{env:Env}{js:L9 (O9 Nat)}{elt:E2}{ifs:L9 E2}{prog:P9}{cl:L9 (Str×Az)}
namespace L2
variable{H:Hp}
theorem yX:∀ {vs:L9 V9} {ns:L9 Int},IntsAre vs ns->aT (ns.map V.int) vs
 | _,_,.nil=>.nil
 | _,_,.cons n t h=>.cons ⟨t,rfl⟩ (yX h)
abbrev KOf{h:H9}(_:K.In h):Frag:=K
noncomputable def fZ(s:Stmt):Arguments:=match s with
 | .FunctionDef _ a _ _ _ _ _ _ _ _=>a
 | _=>{posonlyargs:=[],args:=[],vararg:=none,kwonlyargs:=[],kw_defaults:=[],kwarg:=none,defaults:=[]}
noncomputable def bE(s:Stmt):L9 Stmt:=match s with
 | .FunctionDef _ _ b _ _ _ _ _ _ _=>b
 | _=>[]
noncomputable def aJ(s:Stmt):Scope:=match s with
 | .FunctionDef _ _ _ _ _ _ sc _ _ _=>sc
 | _=>{kind:=.function,names:=[],isGenerator:=false,isCoroutine:=false}
abbrev CX0:CXT:=λ_ _ _ _ _ _=>False
abbrev E0:XK:=λ_ _ _=>False
structure Fun(K:Frag)(x qual:Str)(st:Stmt)(f:Az)(fd:FuncData):Prop where
 ex:∃ (oc:V9) (od:Option Az) (kV doc pm:V9) (an:Option Az) (cdv ct:V9) (osl:Array (Option V9)),
  fd=fnOf x qual (fZ st) (bE st) (aJ st) .none kV doc pm an cdv ct/\K.lookup f=some ⟨oc,od,.func fd,osl⟩/\codeIn K cdv qual=true
 kp:keepIn K (.ref f)=true
section
variable{P:P9}{w:W9}{K:Frag}{mg:Str->O9 V9}{base:H9}
theorem Fun.ok{fd:FuncData}{sp:Sp}(F:Fun K x qual st f fd)(S:FnScope N ps (aJ st))(len:∀ vs H Q E,sp vs H Q E->vs.length=ps.length)
  (a:∀ (cdv:V9) (A:U9) (outer:L9 Env) (s:S9) (H:Hp) (vs:L9 V) (Q:VK) (E:XK),Room k (A.deeper (envOfC qual (aJ st) s.heap.objs.size f cdv))->sp vs H Q E->
   ∃ t,PSs (jB CX0 P w K mg base N qual (aJ st) f cdv A outer s H E).nox (bE st) t/\t {nx:=λ_ H'=>Q .non H',rt:=Q} (start N vs) H):FnOk P w K mg base CX0 (k+1) f fd ps sp:=by
 obtain⟨g,od,kV,doc,pm,i,cdv,ct,e,rfl,d,c⟩:=F.ex
 refine aE7 d c S len λA outer s H vs Q E hr b=>?_
 obtain⟨t,h,q⟩:=a cdv A outer s H vs Q E hr b
 exact⟨t,h.nox,q⟩
theorem Fun.binds{fd:FuncData}(F:Fun K x qual st f fd)
  (h:∀ (kV doc pm:V9) (an:O9 Az) (cdv ct:V9) (us:L9 V9),us.length=ps.length->bindArgs (fnOf x qual (fZ st) (bE st) (aJ st) .none kV doc pm an cdv ct) ⟨us,[]⟩=pure (ps.zip us)):jK K fd ps []:=by
 obtain⟨d,od,kV,doc,pm,an,cdv,ct,b,rfl,c,a⟩:=F.ex
 exact .all (h kV doc pm an cdv ct)
theorem aG6{st:Stmt}{e:V9}{d:O9 Az}{b:Array (O9 V9)}{kV a:V9}(l:K.lookup f=some ⟨e,od,.func (fnOf x qual (fZ st) (bE st) (aJ st) .none kV doc pm d a ct),b⟩)
 (c:codeIn K a qual=true) (k:keepIn K (.ref f)=true):Fun K x qual st f (fnOf x qual (fZ st) (bE st) (aJ st) .none kV doc pm d a ct):=⟨⟨e,od,kV,doc,pm,d,a,ct,b,rfl,l,c⟩,k⟩
end
section
variable{X:Cx}
theorem pv(i:Nat){pos:Pos}(hN:X.N[i]? = some x:=by rfl)(hv:Vis X.env.scope x:=by first|exact Or.inl rfl|exact Or.inr (Or.inl rfl)|exact Or.inr (Or.inr rfl))(hd:(x == ("__debug__":Str))=false:=by decide)
 (hcd:(x == ("__classdict__":Str))=false:=by decide):PE X (.Name x pos) (jA i):=aRF hN hv hd hcd
end
theorem aAJ{A B:Prop}(h:B):if false=true then A else B:=by
 rw[AM BM]
 exact h
theorem aAK{A B:Prop}(h:A):if true=true then A else B:=by
 rw[AJ rfl]
 exact h
def aD(H H':Hp):Prop:=∀ b o,H b=some o->H' b=some o
theorem aD.trans{H1 H2:Hp}(a:aD H H1)(b:aD H1 H2):aD H H2:=λc o h=>b c o (a c o h)
theorem aD.free{H':Hp}(e:aD H H')(h:H' l=Option.none):H l=Option.none:=by
 cases q:H l with
 | none=>rfl
 | some o=>
  rw[e l o q]at h
  cases h
theorem aD.seq{H':Hp}{xs:L9 V}(e:aD H H')(h:SqL K H a xs):SqL K H' a xs:=by
 rcases h with (h|⟨o,h⟩)|h
 · exact .inl (.inl (e _ _ h))
 · exact .inl (.inr ⟨o, e _ _ h⟩)
 · exact .inr h
theorem aFC:∀ (names:L9 (Str×NameKind)) (cf:L9 (Str×Az)),(∀ x∈names,x.2=.free->∃ c,env.cells.lookup x.1=some c)->
  (∀ x c,cf.lookup x=some c->env.cells.lookup x=some c)->
  ∃ cl,(forIn names cf λx r=>(if (x.2 == NameKind.free)=true then(do let a <-cellOf env x.1;pure (ForInStep.yield ((x.1,a)::r)))else pure (ForInStep.yield r)):Sem (L9 (Str×Az)))=pure cl /\
   (∀ x c,cl.lookup x=some c->env.cells.lookup x=some c)/\(∀ x∈names,x.2=.free->∃ c,cl.lookup x.1=some c)/\∀ x c,cf.lookup x=some c->∃ c',cl.lookup x=some c':=by
 intro names
 induction names with
 | nil=>intro cf _ h;exact⟨cf,rfl,h,λx m=>absurd m (by simp),λx c e=>⟨c,e⟩⟩
 | cons x r ih=>
  intro cf g h
  obtain⟨n,k⟩:=x
  by_cases j:k=.free
  .subst j
   obtain⟨c,b⟩:=g (n,.free) AU rfl
   have b:env.cells.lookup n=some c:=b
   obtain⟨cl,e1,e2,o,i⟩:=ih ((n,c)::cf) (λy f=>g y (AS _ f)) (λy d e=>by
    rw[CS]at e
    cases q:y == n with
    | true=>rw[q]at e;cases e;have:=G9 q;subst this;exact b
    | false=>rw[q]at e;exact h y d e)
   refine⟨cl,?_,e2,λy f l=>?_,λy d e=>?_⟩
   .rw[DM]
    simp only[EC,CU]
    unfold cellOf
    simp only[b,pure_bind]
    exact e1
   .rcases AW.mp f with z|z
    · simp_all
    · simp[*]
   .by_cases q:y=n
    · simp_all
    · exact i y d (by rw [CS, DY q]; exact e)
  .simp_all
theorem vL{env:Env}{scope:Scope}(b:∀ x∈scope.names,x.2=.free->∃ c,env.cells.lookup x.1=some c) :
  ∃ cl,closureFor scope env=pure cl/\(∀ x c,cl.lookup x=some c->env.cells.lookup x=some c)/\∀ x∈scope.names,x.2=.free->∃ c,cl.lookup x.1=some c:=by
 obtain⟨cl,e1,e2,a,_⟩:=aFC scope.names [] b (λx c e=>by simp at e)
 refine⟨cl,?_,e2,a⟩
 unfold closureFor
 simp_all
theorem f6{env:Env}:∀ {names:L9 (Str×NameKind)} {x:Str} {k:NameKind},
  (names.map λ(n,k)=>if (k == NameKind.free && env.scope.kind == .function && env.kindOf n == some .cell)then(n,NameKind.cell)else(n,k)).lookup x=some k->
  k=.cell\/k=.free->(∀ y∈names,y.2≠.cell)->(x,NameKind.free)∈names
 | [],_,_,h,_,_=>by simp at h
 | (n,k0)::r,x,k,h,hk,hc=>by
  have ih:=@f6 env r x k
  ext
noncomputable def eI(X:Cx)(N:L9 Str)(scope:Scope)(cl:L9 (Str×Az))(C:Az)(s:S9)(H:Hp)(fp:L9 Az):Cx where
 prog:=X.prog
 w:=X.w
 K:=X.K
 mg:=X.mg
 base:=X.base
 A:=X.A
 N:=N
 s₀:=s
 H₀:=H
 env:=compEnvC scope cl C X.env
 outer:=X.stack
 stack:=X.stack
 ex:=fp
 calm:=X.calm
 fn:=λ_=>false
 pn:=[]
 xe:=λ_ _=>False
inductive Caps(X:Cx)(scope:Scope):List Str->List (Option Nat)->Prop
 | nil:Caps X scope [] []
 | own {x:Str} {N:List Str} {js:List (Option Nat)} (t:Caps X scope N js):Caps X scope (x::N) (none::js)
 | cap {x:Str} {j:Nat} {N:List Str} {js:List (Option Nat)} (h1:X.N[j]? = some x) (h2:X.env.kindOf x=some .cell\/X.env.kindOf x=some .free)
  (h3:(relabel scope X.env).names.lookup x=some .cell\/(relabel scope X.env).names.lookup x=some .free) (t:Caps X scope N js):Caps X scope (x::N) (some j::js)
theorem Caps.len{X:Cx}(c:Caps X scope N js):js.length=N.length:=by
 induction c with
 | nil=>rfl
 | own _ ih=>simp[ih]
 | cap _ _ _ _ ih=>simp[ih]
theorem Caps.get{X:Cx}{scope:Scope}{N:L9 Str}{js:L9 (O9 Nat)}(c:Caps X scope N js):∀ {i j:Nat} {x:Str},js[i]? = some (some j)->N[i]? = some x->
  X.N[j]? = some x/\(X.env.kindOf x=some .cell\/X.env.kindOf x=some .free)/\((relabel scope X.env).names.lookup x=some .cell\/(relabel scope X.env).names.lookup x=some .free):=by
 induction c with
 | nil=>intro i j x h;simp at h
 | own _ ih=>
  intro i j x h1 h2
  cases i with
  | zero=>simp at h1
  | succ i=>exact ih (by simpa using h1) (by simpa using h2)
 | cap a b d _ ih=>
  intro i j x h1 h2
  cases i with
  | zero=>
   simp at h1 h2
   subst h1 h2
   exact⟨a,b,d⟩
  | succ i=>exact ih (by simpa using h1) (by simpa using h2)
noncomputable def kR(js:L9 (O9 Nat))(Z:St):St:=js.map λo=>o.bind λj=>(Z[j]?).join
def cZ(Z Z':St):Prop:=Z'.length=Z.length/\∀ (i:Nat) v,Z[i]? = some (some v)->Z'[i]? = some (some v)
theorem cZ.refl(Z:St):cZ Z Z:=⟨rfl,λ_ _ h=>h⟩
theorem cZ.trans{a b c:St}(h:cZ a b)(k:cZ b c):cZ a c:=⟨k.1.trans h.1,λi v e=>k.2 i v (h.2 i v e)⟩
section
variable{X:Cx}
def PIf(X:Cx)(ifs:L9 E2)(t:TT):Prop:=
 ∀ (a0:L9 (Az×Obj)) (s:S9) (Z:St) (H:Hp) (Q:Bool->Hp->Prop),Inv X a0 Z H s->t Z H Q->
  wpAny (model X.prog X.w) X.A (forIn ifs true λc r=>if r=true then do let ok <-isTrue c X.env (eval c X.env);pure (ForInStep.yield ok)else pure (ForInStep.yield r)) (TP X a0 Z Q) X.xe s
def aWP:TT:=λ_ H Q=>Q true H
theorem xN:PIf X [] aWP:=by
 intro a0 s Z H Q I h
 show wpAny _ _ (pure true) _ _ s
 exact AH ⟨H,I,h⟩
theorem aN3{t:TT}(h:PT X c t):PIf X [c] t:=by
 intro a0 s Z H Q I a
 rw[DM]
 simp only[CU]
 refine AB (AB (thn (h a0 s Z H Q I a) λb s1 q=>AH ?_))
 show wpAny _ _ (pure b) _ _ s1
 exact AH q
end
def xO(X:Cx)(N:L9 Str)(scope:Scope)(js:L9 (O9 Nat))(tg elt:E2)(ifs:L9 E2)(Z:St)(x:V)(H:Hp)(R:O9 V->Hp->Prop):Prop:=
 ∀ (cl:L9 (Str×Az)) (C:Az) (s:S9) (H0:Hp) (fp:L9 Az),∃ (g:TG) (tt:TT) (te:TE),PG (eI X N scope cl C s H0 fp) tg g/\PIf (eI X N scope cl C s H0 fp) ifs tt/\PE (eI X N scope cl C s H0 fp) elt te /\
  ∀ Z0,cZ (kR js Z) Z0->g x Z0 H λZ2 H2=>cZ (kR js Z) Z2/\tt Z2 H2 λb H3=>if b=true then te Z2 H3 λy H4=>R (some y) H4 else R none H3
def compK(X:Cx)(N:L9 Str)(scope:Scope)(js:L9 (O9 Nat))(tg elt:E2)(ifs:L9 E2)(Z:St)(Q:VK)(J:It)(H1:Hp):Prop:=∃ (n:Nat) (W:Nat->L9 V->Hp->Prop),n<=sizeLine/\W 0 [] H1 /\
 ∀ i ys H,W i ys H->ys.length<=i/\((J.stop i H/\∀ p,H p=none->Q (.ref p) (upd H p (.lst ys)))\/(J.go i H/\i < n/\∃ R:O9 V->Hp->Prop,(∀ y H2,R (some y) H2->W (i+1) (ys++[y]) H2)/\(∀ H2,R none H2->W (i+1) ys H2) /\
  ∀ x H',J.yld i H x H'->xO X N scope js tg elt ifs Z x H' R))
def vM(X:Cx)(N:L9 Str)(scope:Scope)(js:L9 (O9 Nat))(tg elt:E2)(ifs:L9 E2)(wi:TI):TE:=λZ H Q=>wi Z H (compK X N scope js tg elt ifs Z Q)
section
variable{prog:P9}{w:W9}{A:U9}{R:Result->S9->Prop}{s:S9}
theorem aAL{a:E2}{pos:Pos}{it g:V9}(I:Nat->S9->Prop)
  (turn:∀ n s,I n s->wpAny (model prog w) A (pyNext it) (λr s1=>match r with
   | none=>R (.ok .next) s1
   | some v=>wpAny (model prog w) A (letOwnedTupleGo a it v) (λ_ s1'=>wpAny (model prog w) A (assign a env v) (λ_ s2=>
    wpAny (model prog w) A (forIn ifs true λc r=>if r=true then do let ok <-isTrue c env (eval c env);pure (ForInStep.yield ok)else pure (ForInStep.yield r)) (λok s3=>
     if ok=true then wpAny (model prog w) A (eval elt env) (λx s4=>
      wpAny (model prog w) A (call (.builtin "list.append") [g,x]) (λ_ s5=>∃ m,m < n/\I m s5) (λ_ _=>False) s4) (λ_ _=>False) s3
     else ∃ m,m < n/\I m s3) (λ_ _=>False) s2) (λ_ _=>False) s1') (λ_ _=>False) s1) (λ_ _=>False) s)
  (n:Nat) (h:I n s) :
  codeAny (model prog w) A (.compLoop (.ListComp elt [⟨a,e,ifs,0⟩] scope pos) 0 it g env) R s:=by
 refine codeAny_loop rfl I (λn s B=>?_) n h
 show wpAny _ A ((compTurn (.ListComp elt [⟨a,e,ifs,0⟩] scope pos) 0 it g env).onRaise (λx=>do noteFrame x env;theTreesLotGoes x)) _ _ s
 refine wpAny_noted ?_
 rw[compTurn_list]
 have C:∀ {α:Type} {t:Sem α} {Q:α->S9->Prop} {E':V9->S9->Prop} {s:S9},wpAny (model prog w) A t Q (λ_ _=>False) s->wpAny (model prog w) A t Q E' s:=λh=>BO h (λ_ _ q=>q) λ_ _ f=>f.elim
 refine AB (DO (AB (BO (turn n s B) (λr u d=>?_) λ_ _ h'=>h'.elim)))
 cases r with
 | none=>exact AH d
 | some v=>
  refine AB (BO d (λ_ s1' l=>?_) λ_ _ f=>f.elim)
  refine AB (BO l (λ_ o j=>AB (BO j (λok y b=>?_) λ_ _ h'=>h'.elim)) λ_ _ h'=>h'.elim)
  cases ok with
  | false=>exact AH ⟨rfl,b⟩
  | true=>
   exact AB (AB (BO b (λx z i=>AB (BO i (λ_ p k=>AH (AH ⟨rfl,k⟩)) λ_ _ h'=>h'.elim)) λ_ _ h'=>h'.elim))
end
theorem HOk.track{w:W9}{h:H9}{o:HO}(x:HOk P w H h)(d:H a=none)(new:bI P w (upd H a o) h a o):HOk P w (upd H a o) h:=λb u e=>by
 by_cases f:b=a
 .subst f;rw[aN]at e;cases e;exact new
 .rw[aF f]at e
  exact(x b u e).stay (λc v _ q=>q) (λc q=>by rw[aF (aV q d)];exact q) (λc xs q=>by rw[aF (aV q d)];exact q) λc xs q=>by rw[aF (aV q d)];exact q
section
variable{X:Cx}{a0:L9 (Az×Obj)}{Z:St}
structure CompEnd(X:Cx)(a0:List (Az×Obj))(Z:St)(D C:Az)(ys:List V)(H':Hp)(s':S9):Prop where
 inv:Inv X a0 Z (upd H' D (.lst ys)) s'
 ns:∃ m,s'.heap.Ns C m
 fp:iC X a0 (upd H' D (.lst ys)) C
 nD:H' D=none
theorem CompEnd.gone{D C:Az}{ys:L9 V}{H':Hp}{c:H9}{d:St}(I:Inv X a0 d H s')(a:iC X a0 H C)(f:Heap.SameBut C s'.heap c):Inv X a0 d H {s' with heap:=c}:=
 I.turned (it:=C) (t':=s'.toks) (λb o g e=>(f.2 b g).trans e) a.1 a.2.1 a.2.2.2.1 a.2.2.2.2.1 a.2.2.2.2.2
theorem aAM{w:W9}{A:U9}{a:Nat}{x:V9}(e:s.heap.get? l=some {cls:=.type "list",dict:=none,data:=.seq items a})(hz:items.size<=sizeLine)
  (hQ:∀ nn' h',h'.get? l=some {cls:=.type "list",dict:=none,data:=.seq (items.push x) nn'}->Heap.SameBut l s.heap h'->Q .none {s with heap:=h'}) :
  wpAny (model prog w) A (call (.builtin "list.append") [.ref l,x]) Q E s:=by
 refine call_meets F.slot_list_append ⟨_,e,rfl⟩ F.entry_list_append (F.args_list_append_2 _ _) (PySem.list_append l items a x (by ext)) ⟨e,?_⟩
 exact hQ _ _ (BN _ e rfl) (CH ..)
theorem vN{af:E2}{pos:Pos}{M:L9 Az}{tn:Nat->H9->Prop}{J:It}{B:S9}{H2:Hp}
  {RR:V9->Az->Result->S9->Prop} {Q:VK} (hc:X.calm=true) (ad:Caps X scope N js) (P:scope.kind=.function) (s:∀ y∈scope.names,y.2≠.cell)
  (f:∀ x c,cl.lookup x=some c->X.env.cells.lookup x=some c) (ah:∀ x∈scope.names,x.2=.free->∃ c,cl.lookup x.1=some c)
  (I:Inv X a0 Z H2 B) (T:Turn X.prog X.w X.K tg J M it tn) (st2:tn 0 B.heap) (f2:∀ b∈M,iC X a0 H2 b) (n:Nat) (W:Nat->L9 V->Hp->Prop) (hn:n<=sizeLine) (w0:W 0 [] H2)
  (turn:∀ i ys H,W i ys H->ys.length<=i/\((J.stop i H/\∀ p,H p=none->Q (.ref p) (upd H p (.lst ys)))\/(J.go i H/\i < n/\∃ R:O9 V->Hp->Prop,(∀ y H2,R (some y) H2->W (i+1) (ys++[y]) H2)/\(∀ H2,R none H2->W (i+1) ys H2) /\
   ∀ x H',J.yld i H x H'->xO X N scope js tg elt ifs Z x H' R)))
  (br:∀ D C ys H' s',CompEnd X a0 Z D C ys H' s'->Q (.ref D) (upd H' D (.lst ys))->RR (.ref D) C (.ok .next) s') :
  wpAny (model X.prog X.w) X.A (newList []) (λcf s3=>wpAny (model X.prog X.w) X.A (newFunctionEnv scope X.env.globals cl [] X.env.qual none .none (some X.env)) (λcenv s4=>
   codeAny (model X.prog X.w) X.A (.compStart (.ListComp elt [⟨tg,af,ifs,0⟩] scope pos) 0 (.ref it) cf {cenv with scope:=relabel scope X.env}) (RR cf cenv.locals) s4) E s3) E B:=by
 refine CZ (wpAny_newFunctionEnv s (by intro y hy;simp at hy) (λG F h=>?_) P)
 dsimp only at F h ⊢
 generalize aj:B.heap.push {cls:=.type "list",dict:=none,data:=.seq ([]:L9 V9).toArray}=Hh at F h ⊢
 have hC:Hh.objs.size=B.heap.objs.size+1:=by rw[<-aj,BW]
 have Y:B.heap.objs.size≠Hh.objs.size:=by rw[hC];exact BD (ED _)
 have O:B.heap.objs.size<=Hh.objs.size:=by rw[hC];exact Nat.le_succ _
 have S:∀ b o,B.heap.get? b=some o->G.get? b=some o:=λb o e=>h.extBut b o (by rw[hC];exact BD (GH (AT e))) (AE _ (aj▸AE _ e))
 have ao:G.get? B.heap.objs.size=some {cls:=.type "list",dict:=none,data:=.seq ([]:L9 V9).toArray}:=h.extBut _ _ Y (AE _ (aj▸A0 _ rfl))
 have aw:tn 0 G:=T.keep _ _ _ st2 λb a o e=>S b o e
 have ai:∀ b∈M,b < B.heap.objs.size:=λb a=>by
  obtain⟨o,e,_⟩:=T.obj _ _ st2 b a
  exact AT e
 have av:∀ b∈frs X.stack,b < B.heap.objs.size:=λb a=>by
  rcases AW.mp (I.stkSub b a)with z|z
  .rw[z];exact I.lt
  .refine Nat.lt_of_not_le λbj=>I.nofs bj z
 have ay:∀ b∈M,b≠Hh.objs.size:=λb a z=>B4 _ (A3 (ai b a) (z▸O))
 generalize hD:B.heap.objs.size=D at *
 generalize bz:Hh.objs.size=C at *
 let X':=eI X N scope cl C B H2 M
 have be:X'.Ok:=by
  refine⟨I.ok.mod,P,I.ok.glob,I.ok.blt,by show B.heap.objs.size<=C;rw[hD];exact O,λx y c e1 e2=>I.ok.inj x y c (f x c e1) (f y c e2),λx hx=>?_,λx c z=>absurd (show false=true from z) BM,I.ok.hd,I.ok.frames,.inl rfl,λb a=>?_,
   I.bs,AV I.ok.bsz I.sz,λb o e a=>?_,λb a z=>?_,I.stack,I.stkFree⟩
  .have hm:(x,NameKind.free)∈scope.names:=by
    rcases hx with z|z
    .exact f6 (env:=X.env) z (.inl rfl) s
    .exact f6 (env:=X.env) z (.inr rfl) s
   exact ah _ hm rfl
  .exact ⟨ay b a,λx c e=>(f2 b a).2.2.2.2.1 x c (f x c e)⟩
  .rcases (f2 b a).2.2.2.1 with z|z
   .exact I.ok.noex b o e z
   .exact absurd (AT (I.ok.bs b o e).1) (GK.mpr z)
  .rcases AW.mp (I.stkSub b z)with q|q
   .exact (f2 b a).2.1 q
   .exact (f2 b a).2.2.1 q
 have bf:(kR js Z).length=N.length:=by unfold kR;rw[AA,ad.len]
 have freeC:H2 C=none:=I.hok.fresh (by rw[hD];exact O)
 have U:H2 D=none:=I.hok.fresh (by rw[hD];exact AQ _)
 have DnotFs:D∉frs X.stack:=λz=>B4 _ (av D z)
 have DnotFp:D∉M:=λz=>B4 _ (ai D z)
 have I0:∀ tk,Inv X' [] (kR js Z) H2 {B with heap:=G,toks:=tk}:=λtk=>by
  refine⟨be,rfl,I.bare,Un.kept S,⟨_,F,λi x v e1 e2 e3=>?_⟩,λx c e=>?_,freeC,λx c e=>I.freeC x c (f x c e),λp L=>absurd L (by show ¬ p∈([]++[]:L9 (Az×Obj));simp),I.hok.kept S,bf⟩
  .unfold kR at e2
   rw[AC]at e2
   cases q:js[i]? with
   | none=>rw[q]at e2;cases e2
   | some o=>
    rw[q]at e2
    cases o with
    | none=>cases e2
    | some j=>
     have ac:(Z[j]?).join=some v:=BK e2
     obtain⟨c1,c2,c3⟩:=ad.get q e1
     have e4:Z[j]? = some (some v):=by
      cases z:Z[j]? with
      | none=>rw[z]at ac;cases ac
      | some u=>rw[z]at ac;have:u=some v:=ac;rw[this]
     obtain⟨m,hm,hl⟩:=I.loc
     have bi:Vis X.env.scope x:=by
      rcases c2 with z|z
      · exact .inr (.inl z)
      · exact .inr (.inr z)
     obtain⟨u,r,l⟩:=hl j x v c1 e4 bi
     refine⟨u,r,.inr ⟨c3,?_⟩⟩
     have lc:∃ c,X.env.cells.lookup x=some c/\B.heap.IsCell c (some u):=by
      rcases l with ⟨k,_⟩|⟨_,z⟩
      · rcases c2 with z | z <;> (rw [k]at z; cases z)
      · exact z
     obtain⟨c,e5,o,ho,hd⟩:=lc
     have bo:(x,NameKind.free)∈scope.names:=by
      rcases c3 with z|z
      · exact f6 (env := X.env) z (.inl rfl) s
      · exact f6 (env := X.env) z (.inr rfl) s
     obtain⟨c',e6⟩:=ah _ bo rfl
     have e7:=f _ _ e6
     rw[e5]at e7;cases e7
     exact⟨c,e6,o,S c o ho,hd⟩
  .obtain ⟨v,o,ho,hd⟩:=I.cell x c (f x c e)
   exact⟨v,o,S c o ho,hd⟩
 have ae:∀ {H':Hp} {pl:L9 (Az×Obj)},(∀ b∈M,H' b=none)->(∀ b∈M,∀ p∈pl,p.1≠b)->∀ b∈M,iC X' pl H' b:=λ{H' pl} hn hpl b a=>by
  refine⟨hn b a,ay b a,be.exfs b a,.inl a,λx c e=>(f2 b a).2.2.2.2.1 x c (f x c e),λp L=>hpl b a p ?_⟩
  have bv:p∈[]++pl:=L
  simpa using bv
 let LI:Nat->S9->Prop:=λk s'=>∃ i ys its nn Z' H',k=n+1 - i/\i<=n/\W i ys H'/\tn i s'.heap/\(∀ b∈M,H' b=none)/\aT ys its/\cZ (kR js Z) Z' /\
  Inv X' [(D,{cls:=.type "list",dict:=none,data:=.seq its.toArray nn})] Z' H' s'
 have ag:∀ tk,codeAny (model X.prog X.w) X.A (.compLoop (.ListComp elt [⟨tg,af,ifs,0⟩] scope pos) 0 (.ref it) (.ref D) (compEnvC scope cl C X.env)) (RR (.ref D) C) {B with heap:=G,toks:=tk}:=by
  intro tk
  refine aAL LI ?_ (n+1) ⟨0,[],[],0,kR js Z,H2,rfl,BP _,w0,aw,λb a=>(f2 b a).1,.nil,cZ.refl _,?_⟩
  .rintro k s3 ⟨i,ys,its,nn,Z3,H3,rfl,hin,w3,st3,fr3,r3,ks,I3⟩
   obtain⟨ax,tr⟩:=turn i ys H3 w3
   have az:=ae (pl:=[(D,{cls:=.type "list",dict:=none,data:=.seq its.toArray nn})]) fr3 (λb a p L z=>by
    rw[AK.mp L]at z
    exact DnotFp ((show D=b from z)▸a))
   rcases tr with ⟨stop,q⟩|⟨go,bc,RW,bu,bw,step⟩
   .refine thn (T.done X' rfl rfl rfl hc i _ s3 Z3 H3 _ I3 az st3 stop) λr s4 t=>?_
    obtain⟨hr,I4⟩:=t
    subst hr
    show RR (.ref D) C (.ok .next) s4
    obtain⟨pe,pn,p1,p2,p3⟩:=I4.pin (D,{cls:=.type "list",dict:=none,data:=.seq its.toArray nn}) (by show _∈[]++_;simp)
    refine br D C ys H3 s4 ?_ (q D pn)
    have bd:HOk X.prog X.w (upd H3 D (.lst ys)) s4.heap:=HOk.track I4.hok pn ⟨AV ax (AV hin hn),its,nn,r3,pe⟩
    have aq:∀ b u,H2 b=some u->b≠D:=λb u e z=>by rw[z,U]at e;cases e
    have bq:Un (frs X.stack) M H2 (upd H3 D (.lst ys)) B.heap s4.heap:=by
     have ub:=I4.base
     refine⟨ub.keep,ub.slot,λb o e al hx=>?_,ub.there,λb xs e=>?_,λb o u e=>?_,λb ps e=>?_⟩
     .rw[aF (λz=>by have:=AT e;rw[hD,z]at this;exact B4 _ this)]
      exact ub.free b o e al hx
     .rw[aF (aq b _ e)];exact ub.tups b xs e
     .rw[aF (aq b _ e)];exact ub.frzs b o u e
     .rw[aF (aq b _ e)];exact ub.tbls b ps e
    refine⟨I.call' I4.os bq bd I4.bare λb a=>⟨(f2 b a).2.2.2.1,(f2 b a).2.1,(f2 b a).2.2.2.2.1,(f2 b a).2.2.2.2.2⟩,?_,?_,pn⟩
    .obtain ⟨m,hm,_⟩:=I4.loc
     exact⟨m,hm⟩
    .refine I.fpOk (by rw[hD];exact O) ?_
     rw[aF (BL Y)]
     exact I4.free
   .refine thn (T.item X' rfl rfl rfl hc i _ s3 Z3 H3 _ I3 az st3 go) λr s4 t=>?_
    obtain⟨u,hr,h4⟩:=t
    subst hr
    show wpAny _ _ (letOwnedTupleGo tg (.ref it) u) _ _ s4
    refine thn h4 λ_ s5 t=>?_
    obtain⟨x,H5,I5,r5,y5,ak,bx⟩:=t
    obtain⟨g,tt,te,hg,ht,he,hq⟩:=step x H5 y5 cl C B H2 M
    have au:=ae (pl:=[(D,{cls:=.type "list",dict:=none,data:=.seq its.toArray nn})]) bx (λb a p L z=>by
     rw[AK.mp L]at z
     exact DnotFp ((show D=b from z)▸a))
    have bp:=I5.pinned au (T.obj _ _ ak)
    refine thn (hg _ s5 Z3 H5 x u _ bp r5 (hq Z3 ks)) λ_ s6 t=>?_
    obtain⟨Z6,H6,I6,ba,q6⟩:=t
    refine thn (ht _ s6 Z6 H6 _ I6 q6) λb s7 t=>?_
    obtain⟨H7,I7,q7⟩:=t
    have bg:∀ {s':S9} {H':Hp} {Z':St},Inv X' ([(D,{cls:=.type "list",dict:=none,data:=.seq its.toArray nn})]++qJ M s5.heap) Z' H' s'->tn (i+1) s'.heap/\(∀ b∈M,H' b=none):=λ{s' H' Z'} I'=>by
     refine⟨T.keep _ _ _ ak λb a o e=>(I'.pin (b,o) (BZ _ (BZ _ (lU a e)))).1,λb a=>?_⟩
     obtain⟨o,e,d⟩:=T.obj _ _ ak b a
     exact(I'.pin (b,o) (BZ _ (BZ _ (lU a e)))).2.1
    cases b with
    | false=>
     rw[AM BM]at q7 ⊢
     obtain⟨a1,a2⟩:=bg I7
     exact⟨n+1 - (i+1),by ext,i+1,ys,its,nn,Z6,H7,rfl,bc,bw _ q7,a1,a2,r3,ba,I7.unpinned⟩
    | true=>
     rw[AJ rfl]at q7 ⊢
     refine thn (he _ s7 Z6 H7 _ I7 q7) λyv s8 t=>?_
     obtain⟨y,H8,I8,r8,q8⟩:=t
     obtain⟨a1,a2⟩:=bg I8
     have I8u:=I8.unpinned
     obtain⟨pe,pn,p1,p2,p3⟩:=I8u.pin (D,{cls:=.type "list",dict:=none,data:=.seq its.toArray nn}) (by show _∈[]++_;simp)
     have cb:s8.heap.IsList D its.toArray:=PySem.IsL.isList pe
     have bn:its.length<=sizeLine:=by rw[<-r3.length];exact AV ax (AV hin hn)
     refine aAM pe (by simpa using bn) λal h9 e9 bh=>?_
     have I9:Inv X' [] Z6 H8 {s8 with heap:=h9,toks:=s8.toks}:=by
      refine Inv.turned (a0:=[]) (it:=D) (t':=s8.toks) (I8u.pins_of (pins':=[]) λp L=>absurd L (by simp)) (λb o a e=>(bh.2 b a).trans e) pn Y (.inr (by show B.heap.objs.size<=D;rw[hD];exact AQ _)) (λx c e z=>?_) λp L=>absurd L (by show ¬ p∈([]++[]:L9 (Az×Obj));simp)
      obtain⟨v,o,ho,hd⟩:=I.cell x c (f x c e)
      have:=AT ho
      rw[hD,z]at this
      exact B4 _ this
     refine⟨n+1 - (i+1),by ext,i+1,ys++[y],its++[yv],al,Z6,H8,rfl,bc,bu _ _ q8,?_,a2,aT.append r3 (.cons r8 .nil),ba,?_⟩
     .exact T.keep _ _ _ a1 λb a o e=>(bh.2 b (λz=>DnotFp (z▸a))).trans e
     .refine I9.pins_of λp L=>?_
      obtain rfl:=AK.mp L
      exact⟨by simpa using e9,pn,p1,p2,by simp⟩
  .refine (I0 tk).pins_of λp L=>?_
   obtain rfl:=AK.mp L
   exact⟨ao,U,Y,DnotFs,by simp⟩
 exact codeAny_compStart_list (ag _) (T.self X.A 0 _ _ _ aw (ag _))
noncomputable def c9(names:L9 (Str×NameKind))(outer:Str->O9 NameKind):Bool:=
 names.all (λy=>y.2 != .cell) && names.all (λy=>y.2 != .local || names.lookup y.1 == some .local) && names.all (λy=>y.2 != .free || outer y.1 == some .cell || outer y.1 == some .free)
theorem c9.cell{names:L9 (Str×NameKind)}(h:c9 names outer=true):∀ y∈names,y.2≠.cell:=λy a=>by
 unfold c9 at h
 ext
theorem c9.names{names:L9 (Str×NameKind)}(h:c9 names outer=true):∀ y∈names,y.2=.local->names.lookup y.1=some .local:=λy a e=>by
 unfold c9 at h
 ext
theorem c9.free{names:L9 (Str×NameKind)}(h:c9 names outer=true):∀ y∈names,y.2=.free->outer y.1=some .cell\/outer y.1=some .free:=λy a e=>by
 unfold c9 at h
 ext
theorem aN4{b:E2}{pos:Pos}{j:TI}(t:X.calm=true)(c:Caps X scope N js)(hok:c9 scope.names X.env.kindOf=true)
  (hi:PI X tg b j) (a:scope.kind=.function:=by rfl) (hs:∀ x,foldedSetIterable b X.env x=pure x:=by intro _;rfl) :
  PE X (.ListComp elt [⟨tg,b,ifs,0⟩] scope pos) (vM X N scope js tg elt ifs j):=by
 intro a0 s Z H Q I h
 obtain⟨cl,e1,e2,y⟩:=vL (env:=X.env) (scope:=scope) λx p o=>I.ok.has _ (c9.free hok x p o)
 rw[eval_ListComp]
 refine GT (use:=none) rfl hs e1 a (c9.names hok) (thn (hi a0 s Z H _ I h) λv s1 h1=>thn h1 λz E h2=>?_)
 obtain⟨B,fp,tn,J,H2,rfl,u,T,g,f2,n,W,r,k,d⟩:=h2
 refine vN (RR:=λi C=>compPost (model X.prog X.w) X.A X.xe none (EP X a0 Z Q) i C) (Q:=Q) t c a (c9.cell hok) e2 y u T g f2 n W r k d ?_
 intro D C ys H' s' e q
 obtain⟨m,l⟩:=e.ns
 exact⟨m,l,λh' f=>⟨.ref D,_,CompEnd.gone (D:=D) (ys:=ys) (H':=H') e.inv e.fp f,rfl,q⟩⟩
theorem aFD{pos b f:Pos}{F:TI}(hN:X.N.Nodup)(p:X.N[i]? = some x)(hx:Loc X.env.scope x)
  (B:swapsWith (.ListComp elt [⟨tg,c,ifs,0⟩] scope pos) (some (.Name x b)) f.line X.env=pure true) (V:X.calm=true) (j:Caps X scope N js) (hok:c9 scope.names X.env.kindOf=true)
  (hi:PI X tg c F) (d:scope.kind=.function:=by rfl) (l:X.fn x=true\/X.env.scope.names.lookup x=some .local:=by exact .inl rfl) (hs:∀ x,foldedSetIterable c X.env x=pure x:=by intro _;rfl) :
  PS X (.Assign [.Name x b] (.ListComp elt [⟨tg,c,ifs,0⟩] scope pos) f) (kQ (vM X N scope js tg elt ifs F) (kB i)):=by
 intro a0 s Z H D I h
 obtain⟨cl,e1,e2,P⟩:=vL (env:=X.env) (scope:=scope) λx hx l=>I.ok.has _ (c9.free hok x hx l)
 rw[exec_Assign_Name_used _ _ _ _ B]
 refine AB (DO (AB ?_))
 show wpAny _ X.A (do let _ <-comprehension (.ListComp elt [⟨tg,c,ifs,0⟩] scope pos) scope X.env _ (newList []) false (eval c X.env) (some (assign (.Name x b) X.env))) _ _ s
 refine AB (BO (GT (use:=some (assign (.Name x b) X.env)) (Q:=λ_ s'=>SP X a0 D .next s') rfl hs e1 d (c9.names hok)
  (thn (hi a0 s Z H _ I h) λv s1 h1=>thn h1 λU s2 h2=>?_)) (λ_ s' R=>AH (AH R)) λ_ _ e=>e)
 obtain⟨it,fp,tn,J,H2,rfl,Y,T,y,f2,n,W,O,G,k⟩:=h2
 refine vN (RR:=λr C=>compPost (model X.prog X.w) X.A X.xe (some (assign (.Name x b) X.env)) (λ_ s'=>SP X a0 D .next s') r C) (Q:=λv H'=>D.nx (Z.set i (some v)) H') V j d (c9.cell hok) e2 P Y T y f2 n W O G k ?_
 intro L C ys H' s' g q
 show wpAny _ X.A (assign (.Name x b) X.env (.ref L)) _ _ s'
 refine wpAny_assign_Name (yT (v:=.ref L) g.inv hN p hx rfl (λac o sb=>?_) l)
 obtain⟨a,t,M⟩:=sb
 have E:C≠a:=by
  rcases M with z|z
  · rw [z]; exact g.fp.2.1
  · exact λS => g.fp.2.2.2.2.1 x a z S.symm
 obtain⟨m,K⟩:=g.ns
 exact⟨m,K.sameBut t E,λh' u=>⟨_,_,CompEnd.gone (D:=L) (ys:=ys) (H':=H') o g.fp u,q⟩⟩
end
noncomputable def aMS(W:Nat->L9 V->Hp->Prop)(i:Nat)(ys:L9 V):O9 V->Hp->Prop
 | some y,H=>W (i+1) (ys++[y]) H
 | none,H=>W (i+1) ys H
theorem aN5{X:Cx}{J:It}{Z:St}{Q:VK}{n:Nat}{H1:Hp}(W:Nat->L9 V->Hp->Prop)(hz:n<=sizeLine)(f:W 0 [] H1)
  (d:∀ i ys H,i<=n->W i ys H->ys.length<=i) (c:∀ i ys H,i < n->W i ys H->J.go i H) (b:∀ ys H,W n ys H->J.stop n H)
  (step:∀ i x ys H H',i < n->W i ys H->J.yld i H x H'->xO X N scope js tg elt ifs Z x H' (aMS W i ys))
  (done:∀ ys H,W n ys H->∀ p,H p=none->Q (.ref p) (upd H p (.lst ys))) :
  compK X N scope js tg elt ifs Z Q J H1:=by
 refine⟨n,λi ys H=>i<=n/\W i ys H,hz,⟨BP _,f⟩,?_⟩
 rintro i ys H ⟨hi,w⟩
 refine⟨d i ys H hi w,?_⟩
 by_cases a:i < n
 .exact .inr ⟨c i ys H a w,a,aMS W i ys,λy H2 q=>⟨a,q⟩,λH2 q=>⟨a,q⟩,λx H' y=>step i x ys H H' a w y⟩
 .have e:i=n:=by ext
  subst e
  exact .inl ⟨b ys H w,done ys H w⟩
mutual
inductive DatV(K:Frag)(H:Hp):V->Dz->Prop
 | non:DatV K H .non .none
 | bl (b:Bool):DatV K H (.bl b) (.bool b)
 | int (i:Int):DatV K H (.int i) (.int i)
 | str (x:Str):DatV K H (.str x) (.str x)
 | lst {a:Az} {xs:List V} {ds:List Dz}:SqL K H a xs->DatVs K H xs ds->DatV K H (.ref a) (.list ds)
 | tup {a:Az} {xs:List V} {ds:List Dz}:SqT K H a xs->DatVs K H xs ds->DatV K H (.ref a) (.tuple ds)
 | pl {a:Az} {ns:List Int}:H a=some (.lst (ns.map V.int))->DatV K H (.ref a) (.dict [(.list (ns.map .int),.none)])
inductive DatVs(K:Frag)(H:Hp):List V->List Dz->Prop
 | nil:DatVs K H [] []
 | cons {x:V} {d:Dz} {xs:List V} {ds:List Dz}:DatV K H x d->DatVs K H xs ds->DatVs K H (x::xs) (d::ds)
end
section
variable{X:Cx}{a0:L9 (Az×Obj)}{Z:St}{H:Hp}{s:S9}
mutual
theorem DatV.reads(I:Inv X a0 Z H s):∀ {x:V} {d:Dz} {u:V9},DatV X.K H x d->d.canLay0=true->aP x u->∃ as,Reads s.heap u d as
 | _,_,_,.non,_,r=>by cases r;exact⟨_,.none⟩
 | _,_,_,.bl b,_,r=>by cases r;exact⟨_,.bool b⟩
 | _,_,_,.int i,_,r=>by obtain⟨t,rfl⟩:=r;exact⟨_,.int i t⟩
 | _,_,_,.str x,_,r=>by obtain⟨t,rfl⟩:=r;exact⟨_,.str x t⟩
 | _,_,_,.pl _,y,_=>by cases y
 | _,_,_,.lst h ds,y,r=>by
  cases r
  obtain⟨a,f,⟨o,e,c,n,d⟩,g⟩:∃ a:L9 V9,aT _ a/\s.heap.IsList _ a.toArray/\_:=by
   obtain⟨a,f,p,g⟩:=I.list h
   exact⟨a,f,p.isList,g⟩
  obtain⟨as,q⟩:=DatVs.reads I ds y f
  exact⟨_,.list e c d (by simpa using q)⟩
 | _,_,_,.tup h ds,y,r=>by
  cases r
  obtain⟨a,f,p,g⟩:=I.tuple h
  obtain⟨o,e,c,n,d⟩:=p
  obtain⟨as,q⟩:=DatVs.reads I ds y f
  exact⟨_,.tuple e c d (by simpa using q)⟩
theorem DatVs.reads(I:Inv X a0 Z H s):∀ {xs:L9 V} {ds:L9 Dz} {us:L9 V9},DatVs X.K H xs ds->PyData.canLayAll0 ds=true->aT xs us->∃ as,ReadsAll s.heap us ds as
 | _,_,_,.nil,_,r=>by cases r;exact⟨_,.nil⟩
 | _,_,_,.cons (d:=d0) (ds:=ds0) h t,y,r=>by
  have a:(d0.canLay0 && PyData.canLayAll0 ds0)=true:=y
  rw[A1]at a
  cases r with
  | cons r1 r2=>
   obtain⟨as,q⟩:=DatV.reads I h a.1 r1
   obtain⟨bs,b⟩:=DatVs.reads I t a.2 r2
   exact⟨_,.cons q b⟩
end
theorem sE{d:Dz}(h:shaped d=true):d.canLay0=true:=by
 have h':(d.canLay0 && decide (d.depth<=64))=true:=h
 simp_all
theorem aR5(i:X.A.units+64 < cLine):OpR X (compareOp .Eq) (λx y H Q=>∃ d e,DatV X.K H x d/\DatV X.K H y e/\shaped d=true/\shaped e=true/\Q (.bl (PyData.eqv d e)) H):=by
 intro a0 s Z H x y u v Q I g f h
 obtain⟨d,e,j,c,a,b,q⟩:=h
 obtain⟨k,r1⟩:=j.reads I (sE a) g
 obtain⟨bs,r2⟩:=c.reads I (sE b) f
 exact eq_dataH r1 r2 a b i ⟨.bl _,H,I,rfl,q⟩
theorem aR6(i:X.A.units+64 < cLine):OpR X (compareOp .NotEq) (λx y H Q=>∃ d e,DatV X.K H x d/\DatV X.K H y e/\shaped d=true/\shaped e=true/\Q (.bl (!PyData.eqv d e)) H):=by
 intro a0 s Z H x y u v Q I g f h
 obtain⟨d,e,j,c,a,b,q⟩:=h
 obtain⟨k,r1⟩:=j.reads I (sE a) g
 obtain⟨bs,r2⟩:=c.reads I (sE b) f
 exact ne_dataH r1 r2 a b i ⟨.bl _,H,I,rfl,q⟩
end
theorem SqL.same{K:Frag}{H H':Hp}{a:Az}{xs:L9 V}(e:aD H H')(h:SqL K H a xs):SqL K H' a xs:=aD.seq e h
theorem SqT.same{K:Frag}{H H':Hp}{a:Az}{xs:L9 V}(e:aD H H')(h:SqT K H a xs):SqT K H' a xs:=by
 rcases h with (h|⟨o,h⟩)|h
 · exact .inl (.inl (e _ _ h))
 · exact .inl (.inr ⟨o, e _ _ h⟩)
 · exact .inr h
theorem DatV.same{K:Frag}{H H':Hp}(e:aD H H'){x:V}{d:Dz}(h:DatV K H x d):DatV K H' x d:=
 DatV.rec (motive_1:=λx d _=>DatV K H' x d) (motive_2:=λxs ds _=>DatVs K H' xs ds) .non .bl .int .str (λh _ q=>.lst (h.same e) q) (λh _ q=>.tup (h.same e) q) (λh=>.pl (e _ _ h)) .nil (λ_ _ p q=>.cons p q) h
theorem DatVs.same{K:Frag}{H H':Hp}(e:aD H H'){xs:L9 V}{ds:L9 Dz}(h:DatVs K H xs ds):DatVs K H' xs ds:=
 DatVs.rec (motive_1:=λx d _=>DatV K H' x d) (motive_2:=λxs ds _=>DatVs K H' xs ds) .non .bl .int .str (λh _ q=>.lst (h.same e) q) (λh _ q=>.tup (h.same e) q) (λh=>.pl (e _ _ h)) .nil (λ_ _ p q=>.cons p q) h
theorem aD.upd{H:Hp}{a:Az}{o:HO}(h:H a=none):aD H (upd H a o):=λb u e=>by rw[aF (aV e h)];exact e
theorem DatVs.length{K:Frag}{H:Hp}:∀ {xs:L9 V} {ds:L9 Dz},DatVs K H xs ds->xs.length=ds.length
 | _,_,.nil=>rfl
 | _,_,.cons _ t=>by simp[DatVs.length t]
theorem DatVs.append{K:Frag}{H:Hp}:∀ {xs ys:L9 V} {ds es:L9 Dz},DatVs K H xs ds->DatVs K H ys es->DatVs K H (xs++ys) (ds++es)
 | _,_,_,_,.nil,h=>h
 | _,_,_,_,.cons a t,h=>.cons a (DatVs.append t h)
theorem DatVs.get{K:Frag}{H:Hp}:∀ {xs:L9 V} {ds:L9 Dz} {i:Nat} {x:V},DatVs K H xs ds->xs[i]? = some x->∃ d,ds[i]? = some d/\DatV K H x d
 | _,_,_,_,.nil,e=>by simp at e
 | _,_,0,_,.cons a t,e=>by simp at e;subst e;exact⟨_,by simp,a⟩
 | _,_,i+1,x,.cons a t,e=>by
  obtain⟨d,h1,h2⟩:=DatVs.get (i:=i) (x:=x) t (by simpa using e)
  exact⟨d,by simpa using h1,h2⟩
theorem DatVs.get'{K:Frag}{H:Hp}:∀ {xs:L9 V} {ds:L9 Dz} {i:Nat} {d:Dz},DatVs K H xs ds->ds[i]? = some d->∃ x,xs[i]? = some x/\DatV K H x d
 | _,_,_,_,.nil,e=>by simp at e
 | _,_,0,_,.cons a t,e=>by simp at e;subst e;exact⟨_,by simp,a⟩
 | _,_,i+1,x,.cons a t,e=>by
  obtain⟨d,h1,h2⟩:=DatVs.get' (i:=i) (d:=x) t (by simpa using e)
  exact⟨d,by simpa using h1,h2⟩
theorem DatVs.drop{K:Frag}{H:Hp}:∀ {xs:L9 V} {ds:L9 Dz} (n:Nat),DatVs K H xs ds->DatVs K H (xs.drop n) (ds.drop n)
 | _,_,0,h=>h
 | _,_,_+1,.nil=>.nil
 | _,_,n+1,.cons _ t=>DatVs.drop n t
theorem DatVs.take{K:Frag}{H:Hp}:∀ {xs:L9 V} {ds:L9 Dz} (n:Nat),DatVs K H xs ds->DatVs K H (xs.take n) (ds.take n)
 | _,_,0,_=>.nil
 | _,_,_+1,.nil=>.nil
 | _,_,n+1,.cons a t=>.cons a (DatVs.take n t)
end L2
variable{c:Nat}{outer:L9 Env}
namespace SX
open PySem.W
section
variable{prog:P9}{w:W9}{A:U9}{E:V9->S9->Prop}{h:H9}{g:Array GenState}{d:Drawn}{t:Nat}{os:OsState}{K:Frag}
variable{nm q:Str}{C N:Az}{bs bm bmB:L9 V9}{hdct:Bool}{sn:L9 Str}{sub:L9 V9}{ab:Bool}{col:O9 Bool}{dd:O9 Az}{k0 k1 k2 k3 k5:O9 V9}{B newId initId:String}
structure BmOk(B:String)(bm:List V9):Prop where
 hasB:bm.contains (.type B)=true
 hasBase:bm.contains (.type "BaseException")=true
 noAttr:bm.contains (.type "AttributeError")=false
 noName:bm.contains (.type "NameError")=false
theorem vO{M:Model}{x:Sem V9}{Q:Flow->S9->Prop}(T:BmOk B bm)(h:A.handled=none)
  (hx:wpAny M A x (λv s₁=>∃ e od vs,v=.ref e/\s₁.heap.get? C=some (excClassObj nm q C N bs bm hdct sn sub ab col dd k0 k1 k2 k3 k5 newId) /\
   s₁.heap.get? e=some {cls:=.ref C,dict:=od,data:=.fields vs}/\vs[1]? = some .none/\E (.ref e) s₁) E s) :
  wpAny M A (raiseStmt env (some x) none) Q E s:=by
 have b:(Value.ref C::bm).contains (.type "BaseException")=true:=by rw[List.contains_cons,T.hasBase,HR]
 unfold raiseStmt
 refine AB (BO hx (λv s₁ a=>?_) λ_ _ x=>x)
 obtain⟨e,od,vs,rfl,c,f,h1,i⟩:=a
 obtain⟨k,g,d,j,os⟩:=s₁
 repeat (first|with_reducible refine EV f ?_|with_reducible refine EV c ?_|(with_reducible refine FM c ?_;rw[b])|(with_reducible refine B0 f rfl h1 ?_)|wp_step)
 exact wpAny_raiseNew_none h i
end
end SX
variable{o:O9 Obj}{W:Az}
namespace SX
open PySem.W PySem.Builtin PySem.Builtin.ObjectAttr
abbrev jO:L9 V9:=[.type "ValueError",.type "Exception",.type "BaseException",.type "object"]
structure ExcC(K:Frag)(W C:Az):Prop where
 lk:∃ nm q N bs sn sub ab col dd k0 k1 k2 k3 k5,K.lookup C=some (excClassObj nm q C N bs (.ref W::jO) true sn sub ab col dd k0 k1 k2 k3 k5 "ValueError.__new__")
 sa:findIn K (.ref C) "__setattr__"=some (some (.builtin "object.__setattr__"))
 ga:findIn K (.ref C) "__getattribute__"=some (some (.builtin "BaseException.__getattribute__"))
 gh:findIn K (.ref C) "__getattr__"=some none
 cl:findIn K (.ref C) "__class__"=some (some (.builtin "object.__class__"))
 clg:specialIn K (.builtin "object.__class__") "__get__"=some (some (.builtin "getset_descriptor.__get__"))
 clt:takesIn K (.builtin "object.__class__")=some true
 kp:keepIn K (.ref C)=true
theorem aKG(W:Az):BmOk "ValueError" (.ref W::jO):=⟨by simp[jO],by simp[jO],by simp[jO],by simp[jO]⟩
theorem ExcC.cls{C:Az}(c:ExcC K W C):∃ cd:ClassData,clsIn K C=some cd/\cd.hasDict=true/\cd.mro=.ref C::.ref W::jO:=by
 obtain⟨nm,q,N,bs,sn,sub,ab,col,dd,k0,k1,k2,k3,k5,e⟩:=c.lk
 exact⟨_,by unfold clsIn;rw[e],rfl,rfl⟩
theorem ExcC.mro{C:Az}(c:ExcC K W C)(b:V9):mroIn K C b=some ((Value.ref C::.ref W::jO).contains b):=by
 obtain⟨cd,h1,_,a⟩:=c.cls
 unfold mroIn
 ext
section
variable{prog:P9}{w:W9}{A:U9}{E:V9->S9->Prop}{s:S9}{K:Frag}{W C x:Az}{name:Str}{v:V9}{vs:Array V9}
theorem aG7{Q:O9 V9->S9->Prop}(X:K.In s.heap)(c:ExcC K W C)(I:InstAt s.heap x ⟨.ref C,od,.fields vs,#[]⟩ C o)(h:Q (some (.ref C)) {s with toks:=s.toks+1}) :
  wpAny (model prog w) A (getAttr? (.ref x) "__class__") Q E s:=by
 obtain⟨i,g,d,t,os⟩:=s
 obtain⟨cd,b,hdct,f⟩:=c.cls
 have e:=I.type (M:=model prog w)
 have L1:=looks_findIn (M:=model prog w) X c.ga
 have L2:=looks_findIn (M:=model prog w) X c.gh
 have sub:Looks (model prog w) i (isInstance (.ref x) (.type "BaseException")) true:=e.andThen (looks_mroIn X (by rw[c.mro];simp[jO]))
 have l:findObj K C o "__class__"=some (.bind (.builtin "getset_descriptor.__get__") (.builtin "object.__class__")):=by
  unfold findObj
  rw[b,GU,c.cl,GU]
  simp only[c.clg,c.clt,GU]
 have j:=looks_find (M:=model prog w) X I l
 unfold getAttr?
 refine AB (wpAny_mkText ?_)
 unfold getAttrBy?
 refine AB (HN ?_)
 unfold getAttrBy
 refine CT (AB (e.at (AB (L1.at ?_))))
 show wpAny _ _ (getAttrByItsOwn _ _ _ _ _ _) _ _ _
 unfold getAttrByItsOwn
 refine AB ?_
 show wpAny _ _ (typeLookup (.ref C) "__getattr__") _ _ _
 refine L2.at (AB (HN (CT ?_)))
 unfold callGetattribute
 rw[show(false && onTheHeap (Value.builtin "BaseException.__getattribute__"))=false from rfl,AM BM]
 unfold boundAndCalled
 rw[GB.ga.bind]
 refine AB (AH ?_)
 have k:builtinKind "BaseException.__getattribute__"=some .slot:=by decide +kernel
 have a:splitId "BaseException.__getattribute__"=some ("BaseException","__getattribute__"):=by decide +kernel
 refine GJ (codeAny_call_builtin GB.ga.plain PySem.F.entry_bexc_ga (@check_slot (model prog w) _ _ _ "BaseException.__getattribute__" "BaseException" "__getattribute__" (.ref x) [.str "__class__" t] [] _ k a sub (PySem.F.args_bexc_ga (.ref x) (.str "__class__" t)) ?_))
 refine AB (AH (AB (AH ?_)))
 refine AB (e.at (AB (j.at ?_)))
 show wpAny _ _ (holding [.builtin "object.__class__"] (call (.builtin "getset_descriptor.__get__") [.builtin "object.__class__",.ref x,.ref C]) >>= ret) _ _ _
 refine AB (CT (GJ (class_get (s:=⟨i,g,d,t+1,os⟩) X I (by rw[c.mro];simp[jO]) ?_)))
 refine AH ?_
 show wpAny _ _ (handedOut (.ref C)) _ _ _
 exact AH (AH h)
theorem aKH(c:ExcC K W C):KitX K (.ref x) (.ref C) (λh=>InstAt h x ⟨.ref C,od,.fields vs,#[]⟩ C o) where
 ty:=λ_ _ _ I=>I.type
 it:=λ_ _ X _=>by
  obtain⟨nm,q,N,bs,sn,sub,ab,col,dd,k0,k1,k2,k3,k5,e⟩:=c.lk
  intro i g j s' k q
  unfold isType loadHead
  exact AB (wpAny_loadPart (k _ _ (X _ _ e)) (AH q))
 ne:=λh b dd d n sl X a=>by
  obtain⟨nm,q,N,bs,sn,sub,ab,col,dd,k0,k1,k2,k3,k5,e⟩:=c.lk
  refine Bool.eq_false_iff.mpr λq=>?_
  have f:C=b:=Value.ref.inj (beq_iff_eq.mp q)
  subst f
  have z:=(X _ _ e).symm.trans a
  ext
 ca:=λX I k=>aG7 X c I k
theorem vP{o:O9 Obj}{a:V9}{b:Bool}(X:K.In s.heap)(c:ExcC K W C)(I:InstAt s.heap x ⟨.ref C,od,.fields vs,#[]⟩ C o)(e:kitOne K (.ref C) a=some b)(h:∀ tk,Q (.bool b) {s with toks:=tk}) :
 wpAny (model prog w) A (call (.builtin "isinstance") [.ref x,a]) Q E s:=kia_one (aKH c) X I e (λz=>nomatch z) h
end
end SX
variable{o:Obj}{Q:Unit->S9->Prop}{fr:O9 Az}
namespace SX
open PySem.W
def uB(h:H9)(vs:Array V9)(e:Az)(T:O9 Az):Prop:=
 match T with
 | none=>vs[1]? = some .none
 | some t=>vs[1]? = some (.ref t)/\t≠e/\∃ oT ts x,h.get? t=some oT/\oT.data=.fields ts/\ts[3]? = some x
section
variable{M:Model}{A:U9}{E:V9->S9->Prop}{s:S9}
structure Noted(FL:List Az)(e:Az)(T:Option Az)(C:Az)(od:Option Az)(h h':Heap)(T':Option Az):Prop where
 keep:∀ b o,b∉FL->b≠e->(∀ t,T=some t->b≠t)->h.get? b=some o->h'.get? b=some o
 slot:∀ b o,b∈FL->h.get? b=some o->∃ sl,h'.get? b=some {o with slots:=sl}
 exc:∃ vs,h'.get? e=some ⟨.ref C,od,.fields vs,#[]⟩/\uB h' vs e T'
 new:(∃ t,T'=some t/\h.objs.size<=t)\/(T'=T/\T≠none)
 there:∀ t o,T=some t->h.get? t=some o->∃ o',h'.get? t=some o'
theorem aKI{L e C:Az}{T:O9 Az}
  (V:A.frames=some (env::outer)) (Y:s.heap.FunFrames base (env::outer)) (W:env.frame=some L) (K:s.heap.get? e=some ⟨.ref C,od,.fields vs,#[]⟩) (O:uB s.heap vs e T)
  (h:∀ h' T',T'≠none->Noted ((env::outer).filterMap (·.frame)) e T C od s.heap h' T'->Q () {s with heap:=h'}) :
  wpAny M A (noteFrame (.ref e) env) Q E s:=by
 have ae:∀ b∈(env::outer).filterMap (·.frame),∃ o,s.heap.get? b=some o/\∀ vs,o.data≠.fields vs:=λb j=>(Y.mem j).2
 have F:e∉(env::outer).filterMap (·.frame):=λhm=>by
  ext
 have I:1 < vs.size:=by
  unfold uB at O
  ext
 have D:∀ (p:H9) (g:V9) (f:Bool),p.FunFrames base (env::outer)->p.objs.size=s.heap.objs.size->p.get? e=some ⟨.ref C,od,.fields vs,#[]⟩->
   (∀ b o,(∀ t,T=some t->b≠t)->s.heap.get? b=some o->p.get? b=some o)->(∀ t o,T=some t->s.heap.get? t=some o->∃ o',p.get? t=some o'/\t∉(env::outer).filterMap (·.frame)/\t≠e)->
   wpAny M A (do let a <-frameOf env;let r <-entryPlaceOf L f;let b <-EntryCells.newEntry g a .none (rawInt L) .none r;setField (.ref e) 1 b) Q E {s with heap:=p}:=by
  intro p g f R S U kp tp
  refine AB (wpAny_frameOf_fun (s:={s with heap:=p}) V R W λc d=>?_)
  refine AB (wpAny_entryPlaceOf λr B=>?_)
  unfold EntryCells.newEntry newFields
  refine AB (CZ ?_ (B.sizeOk5 _ _ _ _ _))
  have k:c.get? e=some ⟨.ref C,od,.fields vs,#[]⟩:=(d.2.1 e F).trans U
  have l:=AE (h:=c) {cls:=.type "traceback",dict:=none,data:=.fields ([g,.ref L,.none,rawInt L,.none]++(if r.isEmpty then replicate 6 Value.none else r)).toArray} k
  refine ER l rfl I ?_
  have G:c.objs.size≠e:=CJ (AT k)
  have y:=BN (Obj.mapFields (·.setIfInBounds 1 (Value.ref c.objs.size))) l rfl
  have w:=(B2 (c.push {cls:=.type "traceback",dict:=none,data:=.fields ([g,.ref L,.none,rawInt L,.none]++(if r.isEmpty then replicate 6 Value.none else r)).toArray})
   (Obj.mapFields (·.setIfInBounds 1 (Value.ref c.objs.size))) (BL G)).trans (A0 c rfl)
  have n:∀ b o,b≠e->c.get? b=some o->
    ((c.push {cls:=.type "traceback",dict:=none,data:=.fields ([g,.ref L,.none,rawInt L,.none]++(if r.isEmpty then replicate 6 Value.none else r)).toArray}).update e (Obj.mapFields (·.setIfInBounds 1 (Value.ref c.objs.size)))).get? b=some o:=
   λb o v j=>by
    rw[B2 _ _ (BL v)]
    exact AE _ j
  refine h _ (some c.objs.size) (by simp) ⟨λb o j v u q=>?_,λb o j q=>?_,⟨vs.setIfInBounds 1 (.ref c.objs.size),?_,?_⟩,.inl ⟨_,rfl,by rw[d.1,S];exact AQ _⟩,λt o e1 e2=>?_⟩
  .exact n b o v ((d.2.1 b j).trans (kp b o u q))
  .have u:∀ t,T=some t->b≠t:=λt e1 z=>by
    ext
   obtain⟨sl,Z⟩:=d.2.2 b o (kp b o u q)
   ext
  .exact y
  .refine ⟨by simp[I],G,_,_,rawInt L,w,rfl,by first|(simp;done)|(rcases B with rfl|⟨_,_,_,_,_,_,_,rfl⟩<;>simp)⟩
  .obtain ⟨o',Z,z2,z3⟩:=tp t o e1 e2
   exact⟨o',n t o' z3 ((d.2.1 t z2).trans Z)⟩
 unfold noteFrame
 simp only[W]
 cases T with
 | none=>
  refine AB (B0 K rfl O ?_)
  simp_all
 | some t=>
  obtain⟨H,J,oT,ts,x,N,m,P⟩:=O
  have ac:t∉(env::outer).filterMap (·.frame):=λhm=>by
   ext
  refine AB (B0 K rfl H ?_)
  rw[AJ (show(Value.ref t != Value.none)=true from by simp)]
  refine AB (B0 N m P ?_)
  by_cases X:(x == rawInt L)=true
  .rw[AJ X]
   refine AH (h s.heap (some t) (by simp) ⟨λb o _ _ _ q=>q,λb o _ q=>⟨o.slots,q⟩,⟨vs,K,H,J,oT,ts,x,N,m,P⟩,.inr ⟨rfl,by simp⟩,λt' o e1 q=>⟨o,q⟩⟩)
  .rw[AM X]
   refine AB (ER N m (GC.mp P).1 ?_)
   have i:∀ b,b≠t->(s.heap.update t (Obj.mapFields (·.setIfInBounds 3 Value.none))).get? b=s.heap.get? b:=λb j=>B2 _ _ (BL j)
   have af:=BN (Obj.mapFields (·.setIfInBounds 3 Value.none)) N (E7 (DZ m _))
   refine D (s.heap.update t (Obj.mapFields (·.setIfInBounds 3 Value.none))) _ _ (Y.of_keeps λb o j ad=>⟨o,(i b λq=>?_).trans j,rfl⟩) (CH ..).1 ((i e (BL J)).trans K) (λb o j q=>(i b (j t rfl)).trans q) (λt' o e1 q=>?_)
   .grind
   .grind
theorem aFE{e C t:Az}(i:s.heap.get? e=some ⟨.ref C,od,.fields vs,#[]⟩)(g:uB s.heap vs e (some t))
  (h:∀ h',Heap.SameBut t s.heap h'->uB h' vs e (some t)->Q () {s with heap:=h'}):wpAny M A (setFlight (.ref e) fr) Q E s:=by
 obtain⟨b,d,oT,k,x,f,a,j⟩:=g
 unfold setFlight
 refine AB (B0 i rfl b ?_)
 rw[AJ (show(Value.ref t != Value.none)=true from by simp)]
 have c:=(GC.mp j).1
 refine ER f a c (h _ (CH ..) ⟨b,d,_,_,_,BN _ f (E7 (DZ a _)),DZ a _,Array.getElem?_setIfInBounds_self_of_lt c⟩)
end
end SX
variable{ev:V9}
namespace L2
def ExN(e C:Az)(od:O9 Az):HO:=.ext λh=>∃ vs,h.get? e=some ⟨.ref C,od,.fields vs,#[]⟩/\vs[1]? = some .none
def ExO(e C:Az)(od:O9 Az):HO:=.ext λh=>∃ vs,h.get? e=some ⟨.ref C,od,.fields vs,#[]⟩
section
variable{P:P9}{w:W9}{H:Hp}{h:H9}{e C:Az}{od:O9 Az}
theorem aG8(a:h.get? e=some ⟨.ref C,od,.fields vs,#[]⟩):bI P w H h e (ExO e C od):=
 ⟨⟨vs,a⟩,⟨_,a⟩,λh1 h2 ⟨vs,a⟩ k=>⟨vs,k _ a⟩⟩
theorem aAN(ok:HOk P w H h)(q:H e=some (ExO e C od)):∃ vs,h.get? e=some ⟨.ref C,od,.fields vs,#[]⟩:=(ok e _ q).1
end
structure FlyAt(X:Cx)(H:Hp)(h:Heap)(e C:Az)(od:Option Az)(traced:Bool):Prop where
 tr:H e=some (ExO e C od)
 tb:∃ vs T,h.get? e=some ⟨.ref C,od,.fields vs,#[]⟩/\SX.uB h vs e T/\(∀ t,T=some t->H t=none/\X.s₀.heap.objs.size<=t/\∀ p∈X.pn,p.1≠t)/\(traced=true->T≠none)
def Fly(X:Cx)(E:XK)(ev:V9)(s':S9):Prop:=∃ e C od Z H',ev=.ref e/\Inv X [] Z H' s'/\FlyAt X H' s'.heap e C od false/\E (.ref C) (some e) H'
abbrev Cx.fly(X:Cx)(E:XK):Cx:=X.wish (Fly X E)
def nH(X:Cx):Prop:=X.stack=X.env::X.outer/\X.env.frame=some X.env.locals
section
variable{X:Cx}{Z:St}{H:Hp}{s:S9}{e C:Az}{od:O9 Az}{b:Bool}
theorem aAO(I:Inv X [] Z H s){t:Az}{oT:Obj}{b:Array V9}(e:s.heap.get? t=some oT)(f:oT.data=.fields b):t≠X.env.locals/\(∀ x c,X.env.cells.lookup x=some c->c≠t):=by
 refine⟨λz=>?_,λx c q z=>?_⟩
 .obtain ⟨m,⟨o,es,g,d,a,_⟩,_⟩:=I.loc
  simp_all
 .obtain ⟨v,o,d,a⟩:=I.cell x c q
  simp_all
theorem pA{E':V9->S9->Prop}(hO:nH X)(I:Inv X [] Z H s)(f:FlyAt X H s.heap e C od b)(h:∀ s',Inv X [] Z H s'->FlyAt X H s'.heap e C od true->Q () s') :
  wpAny (model X.prog X.w) X.A (noteFrame (.ref e) X.env) Q E' s:=by
 obtain⟨g,y⟩:=hO
 obtain⟨vs,T,W,B,hT,_⟩:=f.tb
 have G:X.A.frames=some (X.env::X.outer):=by rw[<-g];exact I.ok.frames
 have hl:s.heap.FunFrames X.base (X.env::X.outer):=by have:=I.stack;rw[g]at this;exact this
 have k:(X.env::X.outer).filterMap (·.frame)=X.env.locals::X.fs:=by rw[EG,y];rfl
 refine SX.aKI (T:=T) G hl y W B λh' R D N=>?_
 rw[k]at N
 have trk:∀ c u,H c=some u->c∉X.env.locals::X.fs:=λc u q z=>by
  have:=I.stkFree c (by unfold frs;rw[g,k];exact z)
  ext
 have nT:∀ c u,H c=some u->∀ t,T=some t->c≠t:=λc u q t e1 z=>by
  ext
 have j:HOk X.prog X.w H h':=λc u q=>by
  by_cases d:c=e
  .subst d
   rw[f.tr]at q;cases q
   obtain⟨i,a,_⟩:=N.exc
   exact aG8 a
  .refine (I.hok c u q).stay (λO v J a=>N.keep O v ?_ ?_ ?_ a) (λ_ q=>q) (λ_ _ q=>q) λ_ _ q=>q
   .grind
   .rcases J with z|z
    .grind
    .intro P;rw[P,f.tr]at z;cases z
   .grind
 have I':Inv X [] Z H {s with heap:=h',gens:=s.gens,drawn:=s.drawn,toks:=s.toks}:=by
  refine I.step (ch:=T.toList) (λc d=>?_) (λc o h1 h2 E q n=>?_) (λc o h1 h2 E q n=>N.slot c o (AS _ h2) q) (λ_ _ _ _ n=>n) (λc o E q=>?_) (λ_ _ q=>q) (λ_ _ _ q=>q) (λ_ _ q=>q) (λm M=>?_) j I.bare
  .have e1:T=some c:=by cases T<;>simp at d;rw[d]
   obtain⟨t1,S,t3⟩:=hT c e1
   rw[e1]at B
   obtain⟨_,_,oT,ts,x,K,F,_⟩:=B
   obtain⟨a1,a2⟩:=aAO I K F
   ext
  .refine N.keep c o ?_ ?_ ?_ q
   .grind
   .intro z;rw[z,f.tr]at n;cases n
   .grind
  .by_cases d:c=e
   .subst d
    obtain⟨i,a,_⟩:=N.exc
    ext
   .by_cases L:c∈X.env.locals::X.fs
    .obtain ⟨sl,a⟩:=N.slot c o L q
     ext
    .exact ⟨o,N.keep c o L d (λt e1 z=>E (by rw[e1,z];simp)) q⟩
  .obtain ⟨o,es,U,Y,r⟩:=M
   obtain⟨sl,a⟩:=N.slot _ o AU Y
   exact⟨_,es,U,a,r⟩
 refine h _ I' ⟨f.tr,?_⟩
 obtain⟨i,a,V⟩:=N.exc
 refine⟨i,R,a,V,λt e1=>?_,λ_=>D⟩
 rcases N.new with ⟨S,e2,l⟩|⟨e2,_⟩
 .rw[e1]at e2;cases e2
  refine⟨I.hok.fresh l,AV I.sz l,λp hp z=>?_⟩
  have:=AT (I.pin p (CP _ hp)).1
  ext
 .grind
theorem oC{D:V9->S9->Prop}{A:U9}(I:Inv X [] Z H s)(f:FlyAt X H s.heap e C od true)(h:∀ s',Inv X [] Z H s'->FlyAt X H s'.heap e C od true->Q () s') :
  wpAny (model X.prog X.w) A (setFlight (.ref e) fr) Q D s:=by
 obtain⟨vs,T,m,i,r,B⟩:=f.tb
 cases T with
 | none=>exact absurd rfl (B rfl)
 | some t=>
  obtain⟨n,j,l⟩:=r t rfl
  refine SX.aFE m i λh' k a=>?_
  obtain⟨_,d,oT,F,x,c,g,_⟩:=i
  obtain⟨z,u⟩:=aAO I c g
  have v:Inv X [] Z H {s with heap:=h'}:=I.turned (t':=s.toks) (it:=t) (λb o E q=>(k.2 b E).trans q) n z (.inr j) u λp y=>l p (by simpa using y)
  exact h _ v ⟨f.tr,vs,some t,(k.2 e (BL d)).trans m,a,λt' e1=>by cases e1;exact⟨n,j,l⟩,λ_=>by simp⟩
theorem aG9{Q:V9->S9->Prop}{b:V9->S9->Prop}{A:U9}(f:FlyAt X H s.heap e C od true)(h:∀ t,Q (.ref t) s):wpAny (model X.prog X.w) A (field (.ref e) 1) Q b s:=by
 obtain⟨vs,T,d,a,g,c⟩:=f.tb
 cases T with
 | none=>exact absurd rfl (c rfl)
 | some t=>exact B0 d rfl a.1 (h t)
theorem kS{E:XK}(h:nH X):PassesOwn (model X.prog X.w) X.A X.env (Fly X E):=by
 rintro l s' ⟨e,C,od,Z,H,rfl,I,f,q⟩
 refine pA h I f λk i f2=>?_
 unfold cameBackBy
 refine AB (aG9 f2 λt=>?_)
 rw[AM (by simp)]
 exact oC i f2 λj g d=>⟨e,C,od,Z,H,rfl,g,⟨d.tr,let ⟨vs,T,a,b,c,_⟩:=d.tb;⟨vs,T,a,b,c,λz=>nomatch z⟩⟩,q⟩
end
def CXe(P:P9)(w:W9):CXT:=λouter H s E ev s'=>∃ e C od H',ev=.ref e/\s'.os=s.os/\AllBare s'.gens/\Un (frs outer) [] H H' s.heap s'.heap/\HOk P w H' s'.heap/\H' e=some (ExO e C od) /\
 (∃ vs T,s'.heap.get? e=some ⟨.ref C,od,.fields vs,#[]⟩/\SX.uB s'.heap vs e T/\∀ t,T=some t->H' t=none/\s.heap.objs.size<=t)/\E (.ref C) (some e) H'
section
variable{X:Cx}
theorem lV{E f:XK}(i:∀ c e H,E c e H->f c e H):lK (CXe X.prog X.w) (X.fly f) E:=by
 rintro a0 Z H s m s' I ⟨e,C,od,H',rfl,os,bare,un,hok,he,⟨vs,T,q1,q2,q3⟩,q⟩
 have a:Inv X a0 Z H s:=I.unwish
 have j:Inv X [] Z H s:=a.pins_of λp d=>absurd d (by simp)
 have k:Inv X [] Z H' s':=j.call' os un hok bare (λb l=>absurd l (by simp))
 refine⟨e,C,od,Z,H',rfl,k,⟨he,vs,T,q1,q2,λt e1=>?_,λz=>nomatch z⟩,i _ _ _ q⟩
 obtain⟨h,g⟩:=q3 t e1
 refine⟨h,AV a.sz g,λp d z=>?_⟩
 have:=AT (a.pin p (CP _ d)).1
 ext
theorem PSs.unfly{E:XK}{st:L9 Stmt}{t:TS}(h:PSs (X.fly E) st t)(hx:∀ e s',Fly X E e s'->X.xe e s'):PSs X st t:=λa0 s Z H D I a=>
 BO (h a0 s Z H D (I.wish _) a) (λf s' q=>SP.unwish q) hx
end
theorem yY{w:W9}{A:U9}{H:Hp}{E:XK}
  (h:Fly (jB (CXe P w) P w K mg base N qual scope f cd A outer s H E) E ev s'):(jB (CXe P w) P w K mg base N qual scope f cd A outer s H E).xe ev s':=by
 obtain⟨e,C,od,Z,H',rfl,I,i,q⟩:=h
 show wpAny (model P w) _ (leaving _ (.ref e)) _ _ s'
 unfold leaving
 have j:nH (jB (CXe P w) P w K mg base N qual scope f cd A outer s H E):=⟨rfl,rfl⟩
 refine AB (pA j I i λm k f2=>oC k f2 λl d g=>?_)
 obtain⟨vs,T,a,b,c,_⟩:=g.tb
 exact⟨e,C,od,H',rfl,d.os,d.bare,d.base,d.hok,g.tr,⟨vs,T,a,b,λt e1=>⟨(c t e1).1,(c t e1).2.1⟩⟩,q⟩
section
variable{P:P9}{w:W9}{K:Frag}{mg:Str->O9 V9}{base:H9}
theorem Fun.okX{fd:FuncData}{sp:Sp}(F:Fun K x qual st f fd)(S:FnScope N ps (aJ st))(len:∀ vs H Q E,sp vs H Q E->vs.length=ps.length)
  (a:∀ (cdv:V9) (A:U9) (outer:L9 Env) (s:S9) (H:Hp) (vs:L9 V) (Q:VK) (E:XK),Room k (A.deeper (envOfC qual (aJ st) s.heap.objs.size f cdv))->sp vs H Q E->
   ∃ t,PSs ((jB (CXe P w) P w K mg base N qual (aJ st) f cdv A outer s H E).fly E) (bE st) t/\t {nx:=λ_ H'=>Q .non H',rt:=Q} (start N vs) H):FnOk P w K mg base (CXe P w) (k+1) f fd ps sp:=by
 obtain⟨g,od,kV,doc,pm,i,cdv,ct,e,rfl,d,c⟩:=F.ex
 refine aE7 d c S len λA outer s H vs Q E hr b=>?_
 obtain⟨t,h,q⟩:=a cdv A outer s H vs Q E hr b
 exact⟨t,h.unfly λ_ _ z=>yY z,q⟩
end
inductive TyX(K:Frag)(H:Hp):V->V9->Prop where
 | pl {x:V} {t:V9} (h:TyOf K H x t):TyX K H x t
 | exc {a W C:Az} {d:Az} {fs:List (Str×V)} (c:SX.ExcC K W C) (e:H a=some (ExO a C (some d))) (ed:H d=some (.xd fs)):TyX K H (.ref a) (.ref C)
 | exc0 {a W C:Az} (c:SX.ExcC K W C) (e:H a=some (ExO a C none)):TyX K H (.ref a) (.ref C)
def aFF:V->O9 V9
 | .ty n=>some (.type n)
 | .ref a=>some (.ref a)
 | _=>none
theorem xP{x:V}(h:aFF x=some v)(r:aP x u):u=v:=by
 cases x with
 | ty n=>cases h;exact r
 | ref a=>cases h;exact r
 | _=>cases h
theorem lB{X:Cx}:iG X (.builtin "isinstance") (λxs H Q=>∃ x c t cv b,xs=[x,c]/\TyX X.K H x t/\aFF c=some cv/\kitOne X.K t cv=some b/\Q (.bl b) H):=by
 intro a0 s Z H xs us Q I r h
 obtain⟨x,c,t,cv,b,rfl,k,n,e,q⟩:=h
 obtain⟨u,v,rfl,j,m⟩:=sC r
 obtain rfl:=xP n m
 cases k with
 | pl k=>exact aGZ I j k e λl=>⟨.bl b,H,I.tok _,rfl,q⟩
 | @exc a W C d fs cc ea ed=>
  cases(show u=Value.ref a from j)
  obtain⟨vs,i⟩:=aAN I.hok ea
  obtain⟨mA,g,r⟩:=(show bI X.prog X.w H s.heap d (.xd fs)from I.hok d _ ed)
  obtain⟨od,f,_⟩:=yU g
  exact SX.vP (o:=some od) I.kIn cc ⟨i,rfl,rfl,f⟩ e λl=>⟨.bl b,H,I.tok _,rfl,q⟩
 | @exc0 a W C cc ea=>
  cases(show u=Value.ref a from j)
  obtain⟨vs,i⟩:=aAN I.hok ea
  exact SX.vP (o:=none) I.kIn cc ⟨i,rfl,rfl,True.intro⟩ e λl=>⟨.bl b,H,I.tok _,rfl,q⟩
end L2
variable{fr:L9 Str}
namespace SX
open PySem.W
structure ExcAny(K:Frag)(C:Az)(bm:List V9):Prop where
 lk:∃ nm q N bs hd sn sub ab col dd k0 k1 k2 k3 k5 newId,K.lookup C=some (excClassObj nm q C N bs bm hd sn sub ab col dd k0 k1 k2 k3 k5 newId)
 base:bm.contains (.type "BaseException")=true
theorem ExcC.any{C:Az}(c:ExcC K W C):ExcAny K C (.ref W::jO):=by
 obtain⟨nm,q,N,bs,sn,sub,ab,col,dd,k0,k1,k2,k3,k5,e⟩:=c.lk
 exact⟨⟨_,_,_,_,_,_,_,_,_,_,_,_,_,_,_,_,e⟩,(aKG W).hasBase⟩
theorem aCW{M:Model}{A:U9}{C:Az}{a h:L9 V9}{e:Az}{k:Obj}{Q:Bool->S9->Prop}(X:K.In s.heap)(c:ExcAny K C a)(w:ExcAny K W h)
  (D:s.heap.get? e=some k) (b:k.cls=.ref C) (j:Q ((Value.ref C::a).contains (.ref W)) s):wpAny M A (excMatches (.ref e) (.ref W)) Q E s:=by
 obtain⟨nm,q,N,bs,R,sn,sub,ab,col,dd,k0,k1,k2,k3,k5,P,O⟩:=c.lk
 obtain⟨z,T,U,p,r,L,l,v,n,B,u,J,y,G,H,o,I⟩:=w.lk
 have x:=X _ _ O
 have m:=X _ _ I
 have i:(Value.ref W::h).contains (.type "BaseException")=true:=by rw[List.contains_cons,w.base,HR]
 have f:=tc_notTuple
 obtain⟨S,g,d,t,os⟩:=s
 unfold excMatches
 repeat (first|(with_reducible refine EV D ?_;rw[b])|with_reducible refine EV m ?_|(with_reducible refine FM m ?_;rw[i])|with_reducible refine FM x ?_|wp_step)
 cases F:(Value.ref C::a).contains (.ref W)<;>(rw[F]at j;wp_walk;exact j)
end SX
variable{ds:L9 Dz}
namespace L2
variable{H:Hp}
abbrev Cx.pnw(X:Cx)(pn:L9 (Az×Obj)):Cx:={X with pn:=pn}
noncomputable abbrev Cx.inH(X:Cx)(e:Az):Cx:={X with A:=X.A.mark (some (.ref e)),calm:=false,xe:=λ_ _=>False}
section
variable{X:Cx}{a0:L9 (Az×Obj)}{Z:St}{H:Hp}{s:S9}{e:Az}
theorem Cx.Ok.pnw{X:Cx}(ok:X.Ok)(pn:L9 (Az×Obj)):(X.pnw pn).Ok:=
 ⟨ok.mod,ok.kind,ok.glob,ok.blt,ok.above,ok.inj,ok.has,ok.cab,ok.hd,ok.frames,ok.stk,ok.exf,ok.bs,ok.bsz,ok.noex,ok.exfs,ok.funs,ok.frf⟩
theorem Cx.Ok.unpn{X:Cx}{pn:L9 (Az×Obj)}(ok:(X.pnw pn).Ok):X.Ok:=
 ⟨ok.mod,ok.kind,ok.glob,ok.blt,ok.above,ok.inj,ok.has,ok.cab,ok.hd,ok.frames,ok.stk,ok.exf,ok.bs,ok.bsz,ok.noex,ok.exfs,ok.funs,ok.frf⟩
theorem Inv.toPn(I:Inv X a0 Z H s):Inv (X.pnw (X.pn++a0)) [] Z H s:=
 ⟨I.ok.pnw _,I.os,I.bare,I.base,I.loc,I.cell,I.free,I.freeC,λp a=>I.pin p (by
  have z:p∈(X.pn++a0)++[]:=a
  rw[C0]at z
  exact z),I.hok,I.len⟩
theorem Inv.ofPn(I:Inv (X.pnw (X.pn++a0)) pl Z H s):Inv X a0 Z H s:=
 ⟨I.ok.unpn,I.os,I.bare,I.base,I.loc,I.cell,I.free,I.freeC,λp a=>I.pin p (CP _ a),I.hok,I.len⟩
theorem SP.ofPn{D:iF}{f:Flow}(h:SP ((X.pnw (X.pn++a0)).wish E) pl D f s'):SP X a0 D f s':=by
 cases f with
 | next=>obtain⟨a,b,c,d⟩:=h;exact⟨a,b,c.unwish.ofPn,d⟩
 | brk=>obtain⟨a,b,c,d⟩:=h;exact⟨a,b,c.unwish.ofPn,d⟩
 | cont=>obtain⟨a,b,c,d⟩:=h;exact⟨a,b,c.unwish.ofPn,d⟩
 | ret u=>obtain⟨v,a,b,c,d⟩:=h;exact⟨v,a,b,c.unwish.ofPn,d⟩
theorem Cx.Ok.inH{X:Cx}(ok:X.Ok)(e:Az):(X.inH e).Ok:=
 ⟨ok.mod,ok.kind,ok.glob,ok.blt,ok.above,ok.inj,ok.has,ok.cab,(λz=>nomatch z),ok.frames,ok.stk,ok.exf,ok.bs,ok.bsz,ok.noex,ok.exfs,ok.funs,ok.frf⟩
theorem Inv.inH(I:Inv X a0 Z H s)(e:Az):Inv (X.inH e) a0 Z H s:=
 ⟨I.ok.inH e,I.os,I.bare,I.base,I.loc,I.cell,I.free,I.freeC,I.pin,I.hok,I.len⟩
theorem Inv.ofH(ok:X.Ok)(I:Inv (X.inH e) a0 Z H s):Inv X a0 Z H s:=
 ⟨ok,I.os,I.bare,I.base,I.loc,I.cell,I.free,I.freeC,I.pin,I.hok,I.len⟩
end
structure DefAt(K:Frag)(mg:Str->Option V9)(x:Str)(st:Stmt)(ps:List Str):Prop where
 ex:∃ f fd,Fun K x x st f fd/\jK K fd ps []/\mg x=some (.ref f)
def Calls(P:P9)(w:W9)(K:Frag)(mg:Str->O9 V9)(base:H9)(CX:CXT)(k:Nat)(x:Str)(ps:L9 Str)(sp:Sp):Prop:=
 ∃ f fd,FnOk P w K mg base CX k f fd ps sp/\jK K fd ps []/\mg x=some (.ref f)/\keepIn K (.ref f)=true
section
variable{P:P9}{w:W9}{K:Frag}{mg:Str->O9 V9}{base:H9}{x:Str}{st:Stmt}{N ps:L9 Str}{k:Nat}{sp:Sp}
theorem DefAt.ok(D:DefAt K mg x st ps)(S:FnScope N ps (aJ st))(len:∀ vs H Q E,sp vs H Q E->vs.length=ps.length)
  (a:∀ (f:Az) (cdv:V9) (A:U9) (outer:L9 Env) (s:S9) (H:Hp) (vs:L9 V) (Q:VK) (E:XK),Room k (A.deeper (envOfC x (aJ st) s.heap.objs.size f cdv))->sp vs H Q E->
   ∃ t,PSs (jB CX0 P w K mg base N x (aJ st) f cdv A outer s H E).nox (bE st) t/\t {nx:=λ_ H'=>Q .non H',rt:=Q} (start N vs) H):Calls P w K mg base CX0 (k+1) x ps sp:=by
 obtain⟨f,fd,F,b,m⟩:=D.ex
 exact⟨f,fd,F.ok S len (a f),b,m,F.kp⟩
theorem DefAt.okX(D:DefAt K mg x st ps)(S:FnScope N ps (aJ st))(len:∀ vs H Q E,sp vs H Q E->vs.length=ps.length)
  (a:∀ (f:Az) (cdv:V9) (A:U9) (outer:L9 Env) (s:S9) (H:Hp) (vs:L9 V) (Q:VK) (E:XK),Room k (A.deeper (envOfC x (aJ st) s.heap.objs.size f cdv))->sp vs H Q E->
   ∃ t,PSs ((jB (CXe P w) P w K mg base N x (aJ st) f cdv A outer s H E).fly E) (bE st) t/\t {nx:=λ_ H'=>Q .non H',rt:=Q} (start N vs) H):Calls P w K mg base (CXe P w) (k+1) x ps sp:=by
 obtain⟨f,fd,F,b,m⟩:=D.ex
 exact⟨f,fd,F.okX S len (a f),b,m,F.kp⟩
theorem Calls.imp{CX:CXT}{a:Sp}(C:Calls P w K mg base CX k x ps sp)(h:∀ vs H Q E,a vs H Q E->sp vs H Q E):Calls P w K mg base CX k x ps a:=by
 obtain⟨f,fd,F,b,m,c⟩:=C
 exact⟨f,fd,F.imp h,b,m,c⟩
end
section
variable{X:Cx}{CX:CXT}{k:Nat}{x:Str}{ps:L9 Str}{sp:Sp}{E:XK}{p pos:Pos}{e:E2}{es:L9 E2}{t:TA}
theorem aMT(C:Calls X.prog X.w X.K X.mg X.base CX k x ps sp)(hr:Room k X.A)(g:Gl X x)(hx:lK CX X E)(c:PA X (e::es) t)(a:(x == ("__debug__":Str))=false:=by decide)
  (he:starEach (e::es) X.env=(false,eval e X.env)::starEach es X.env:=by rfl) (hpl:(backTo pos (starEach es X.env)).any (·.1)=false:=by rfl):PE X (.Call (.Name x p) (e::es) [] pos) (sD sp [] E t):=by
 obtain⟨f,fd,F,b,m,d⟩:=C
 exact aNV F hr g m d b .nil hx c a he hpl
end
theorem DatV.tup_of{v:V}(h:DatV K H v (.tuple ds)):∃ a xs,v=.ref a/\SqT K H a xs/\DatVs K H xs ds:=by
 cases h with
 | tup h1 h2=>exact⟨_,_,rfl,h1,h2⟩
theorem DatV.lst_of{v:V}(h:DatV K H v (.list ds)):∃ a xs,v=.ref a/\SqL K H a xs/\DatVs K H xs ds:=by
 cases h with
 | lst h1 h2=>exact⟨_,_,rfl,h1,h2⟩
theorem DatV.int_of{v:V}{i:Int}(h:DatV K H v (.int i)):v=.int i:=by cases h;rfl
theorem DatV.str_of{v:V}{i:Str}(h:DatV K H v (.str i)):v=.str i:=by cases h;rfl
theorem DatVs.cons_of{xs:L9 V}{d:Dz}(h:DatVs K H xs (d::ds)):∃ x t,xs=x::t/\DatV K H x d/\DatVs K H t ds:=by
 cases h with
 | cons h1 h2=>exact⟨_,_,rfl,h1,h2⟩
theorem DatVs.nil_of{xs:L9 V}(h:DatVs K H xs []):xs=[]:=by cases h;rfl
theorem cZ.nil:cZ [] []:=⟨rfl,λ_ _ h=>by simp at h⟩
theorem cZ.own{τ Y:St}{u:O9 V}(h:cZ τ Y):cZ (none::τ) (u::Y):=⟨by simp[h.1],λi v e=>by
 cases i with
 | zero=>simp at e
 | succ i=>simpa using h.2 i v (by simpa using e)⟩
theorem cZ.nil_of{Z:St}(h:cZ [] Z):Z=[]:=ET.mp h.1
def SqS(K:Frag)(H:Hp)(a:Az)(xs:L9 V):Prop:=SqL K H a xs\/SqT K H a xs
theorem PI.or{X:Cx}{a:E2}{w1 w2:TI}(h1:PI X tg a w1)(h2:PI X tg a w2):PI X tg a (λZ H R=>w1 Z H R\/w2 Z H R):=λa0 s Z H R I h=>h.elim (h1 a0 s Z H R I) (h2 a0 s Z H R I)
def aWQ(K:Frag)(tl:TE):TI:=λZ H R=>tl Z H λx H1=>∃ a,x=.ref a/\(((∃ xs,SqL K H1 a xs)/\R (Itl K a) H1)\/((∃ xs,SqT K H1 a xs)/\R (Itt K a) H1))
theorem aHA{X:Cx}{l:E2}{tl:TE}(j:PE X l tl):PI X tg l (aWQ X.K tl):=by
 intro a0 s Z H R I h
 refine thn (j a0 s Z H _ I h) λv s1 f=>?_
 obtain⟨x,H1,c,r1,n⟩:=f
 obtain⟨a,e,q⟩:=n
 subst e
 cases r1
 rcases q with ⟨⟨xs,g⟩,q⟩|⟨⟨xs,g⟩,q⟩
 .obtain ⟨d,m,p,k⟩:=c.list g
  refine wpAny_pyIter_list p.isList ?_
  refine⟨s1.heap.objs.size,[s1.heap.objs.size],_,_,H1,rfl,c.kept (t':=s1.toks) λb o e=>AE _ e,aGS a _,⟨_,A0 _ rfl,rfl,rfl⟩,λb i=>?_,q⟩
  obtain rfl:=AK.mp i
  exact c.fpOk (AQ _) (c.hok.fresh (AQ _))
 .obtain ⟨d,m,p,k⟩:=c.tuple g
  refine wpAny_pyIter_tuple (show s1.heap.IsTuple a d.toArray from p) ?_
  refine⟨s1.heap.objs.size,[s1.heap.objs.size],_,_,H1,rfl,c.kept (t':=s1.toks) λb o e=>AE _ e,aE3 a _,⟨_,A0 _ rfl,rfl,rfl⟩,λb i=>?_,q⟩
  obtain rfl:=AK.mp i
  exact c.fpOk (AQ _) (c.hok.fresh (AQ _))
def aU6(i j:Int):Prop:=0 < j/\j < 2 ^ 64
theorem aKJ{X:Cx}:OpR X (binaryOp .FloorDiv) (rI aU6 λi j=>.int (i / j)):=opI λi j _ _ _ _ _ a q=>by
 have h1:(0:Int) < j:=a.1
 have h2:j < 2 ^ 64:=a.2
 have b:j.natAbs < 2 ^ 64:=by ext
 have c:j.natAbs.log2 < 64:=(Nat.log2_lt (by ext)).mpr b
 exact floordiv_int (by ext) (by rw[Int.fdiv_eq_ediv_of_nonneg i (by ext)];exact q) (.inl (PyProof.noPylong_of_log2 (by ext)))
theorem aU7{X:Cx}{w:W9}:lK (CXe P w) X E0:=by
 rintro a0 Z H s a s' I ⟨e,C,od,H',rfl,os,bare,un,hok,he,hv,q⟩
 ext
section
variable{X:Cx}
def aWR:V->O9 Int->O9 Int->Hp->VK->Prop:=λx lo hi H Q=>∃ z,x=.str z/\z.length<=sizeLine/\Q (.str (Txt.slice z lo hi)) H
theorem aDA{o:O9 Int}(h:IsPart v o):∃ l:O9 (Int×Tok),partValue l=v/\l.map (·.1)=o:=by
 cases h with
 | none=>exact⟨none,rfl,rfl⟩
 | int i t=>exact⟨some (i,t),rfl,rfl⟩
theorem aR7:SlR X aWR:=by
 intro a0 s Z H x v n p lo hi sl Q I e k i c h
 obtain⟨z,rfl,d,q⟩:=h
 obtain⟨t,rfl⟩:=e
 obtain⟨l,rfl,g⟩:=aDA i
 obtain⟨u,rfl,j⟩:=aDA c
 obtain⟨o,m,f,b⟩:=k
 refine⟨"str",_,PyProof.Rows.slot_str_getitem.lookup,rfl,?_⟩
 refine wpAny_getItem_str_slice (l:=l) (u:=u) (st:=none) ⟨o,m,f,b⟩ rfl ?_
 have le:=Txt.slice_le z lo hi
 unfold Txt.slice at q le
 unfold sliceMade slicePicked
 rw[g,j]
 simp only[EC,GD,Option.map_none,GS]at q le ⊢
 by_cases a:((Builtin.Str.strSliceIndices lo hi 1 z.length).length == z.length)=true
 .rw[AJ a]at q ⊢
  exact⟨.str z,H,I,⟨t,rfl⟩,q⟩
 .rw[AM a]at q le ⊢
  exact⟨AV le d,.str _,H,I.tok _,⟨_,rfl⟩,q⟩
def aHB:V->L9 V->Hp->VK->Prop:=λx vs H Q=>∃ z y i rest,x=.str z/\vs=[.str y]/\Builtin.Str.occurrences z y 0 z.length 1=i::rest/\Q (.int i) H
theorem aKK:MtR X "str.index" aHB:=by
 intro a0 s Z H x vs v us Q I a b h
 obtain⟨z,y,i,rest,rfl,rfl,d,q⟩:=h
 obtain⟨t,rfl⟩:=a
 obtain⟨u,rfl,c,rfl⟩:=b.one
 exact call_gives F.slot_str_index rfl F.entry_str_index (F.args_str_index_2 _ _) (gives_str_index z y t c i rest d) ⟨.int i,H,I.tok _,⟨_,rfl⟩,q⟩
end
theorem aAP{X:Cx}:iG X (.builtin "isinstance") (λxs H Q=>∃ a ys c cv b,xs=[.ref a,c]/\SqT X.K H a ys/\aFF c=some cv/\kitOne X.K (.type "tuple") cv=some b/\Q (.bl b) H):=by
 intro a0 s Z H xs us Q I r h
 obtain⟨a,ys,c,cv,b,rfl,g,j,e,q⟩:=h
 obtain⟨u,v,rfl,i,f⟩:=sC r
 obtain rfl:=xP j f
 cases(show u=Value.ref a from i)
 obtain⟨d,_,⟨o,h1,h2,_⟩,_⟩:=I.tuple g
 exact B5 kitx_tuple I.kIn ⟨o,h1,h2⟩ e (λz=>nomatch z) λk=>⟨.bl b,H,I.tok _,rfl,q⟩
structure RoomH(k:Nat)(A:Around):Prop where
 dp:A.depth+3 * k+5 < recursionLimit
 un:A.units+16 * k+200 < cLine
theorem Room.h{A:U9}(r:Room k A):RoomH k A:=⟨r.dp,r.un⟩
structure FnOkH(P:Program)(w:World)(K:Frag)(mg:Str->Option V9)(base:Heap)(k:Nat)(f:Az)(fd:FuncData)(ps:List Str)(sp:Sp):Prop where
 len:∀ vs H Q E,sp vs H Q E->vs.length=ps.length
 run:∀ (A:Around) (outer:List Env) (s:S9) (H:Hp) (args:Args) (us:List V9) (vs:List V) (Q:VK),RoomH k A->Env0 P w K mg base A outer s H->BindsTo s fd args (ps.zip us)->aT vs us->sp vs H Q E0->
  codeAny (model P w) A (.call (.ref f) args) (CR CX0 outer P w H s Q E0) s
theorem FnOkH.ok{w:W9}{fd:FuncData}{sp:Sp}(F:FnOkH P w K mg base k f fd ps sp)(a:∀ vs H Q E,sp vs H Q E->sp vs H Q E0):FnOk P w K mg base CX0 k f fd ps sp:=
 ⟨F.len,λA outer s H args us vs Q E hr d g b c=>EM (F.run A outer s H args us vs Q hr.h d g b (a _ _ _ _ c)) λr s' h=>by
  cases r with
  | error e=>exact h
  | ok fl=>cases fl<;>exact h⟩
end L2
variable{g:Array (O9 V9)}{xs:L9 Dz}
namespace Mc
inductive Tn where
 | n (i:Int)|w (x:Str)
noncomputable def Tn.d:Tn->Dz
 | .n i=>.int i
 | .w x=>.str x
structure Rw where
 l:Tn
 c:List (Int×Int)
 r:Tn
def cellD(c:Int×Int):Dz:=.tuple [.int c.1,.int c.2]
def a6(r:Rw):Dz:=.tuple [r.l.d,.tuple (r.c.map cellD),r.r.d]
def aE(rs:L9 Rw):Dz:=.tuple (rs.map a6)
inductive CellsAt(K:Frag)(H:Hp):List V->List (Int×Int)->Prop
 | nil:CellsAt K H [] []
 | cons {q:Az} {a b:Int} {xs:List V} {cs:List (Int×Int)} (h:SqS K H q [.int a,.int b]) (t:CellsAt K H xs cs):CellsAt K H (.ref q::xs) ((a,b)::cs)
noncomputable def Tn.ok:Tn->Prop
 | .n _=>True
 | .w x=>PyData.strOk x=true
def Rw.ok(r:Rw):Prop:=r.l.ok/\r.r.ok
theorem xQ:∀ {xs:L9 Dz},(∀ x∈xs,x.canLay0=true)->PyData.canLayAll0 xs=true
 | [],_=>by rfl
 | x::t,h=>by
  show(x.canLay0 && PyData.canLayAll0 t)=true
  rw[h x (AU ..),xQ λy a=>h y (AS _ a)];rfl
theorem qO:∀ {xs:L9 Dz},(∀ x∈xs,x.depth<=n)->PyData.depthAll xs<=n
 | [],_=>BP _
 | x::t,h=>by
  show max x.depth (PyData.depthAll t)<=n
  exact Nat.max_le.mpr ⟨h x (AU ..),qO λy a=>h y (AS _ a)⟩
def Sh(n:Nat)(d:Dz):Prop:=d.canLay0=true/\d.depth<=n
theorem fE(h:∀ x∈xs,Sh n x):Sh (n+1) (.tuple xs):=⟨xQ λx a=>(h x a).1,by
 have:=qO λx a=>(h x a).2
 show PyData.depthAll xs+1<=n+1
 ext⟩
theorem sh_lst(h:∀ x∈xs,Sh n x):Sh (n+1) (.list xs):=⟨xQ λx a=>(h x a).1,by
 have:=qO λx a=>(h x a).2
 show PyData.depthAll xs+1<=n+1
 ext⟩
theorem jG(n:Nat)(i:Int):Sh n (.int i):=⟨rfl,BP _⟩
theorem qP(n:Nat)(h:PyData.strOk x=true):Sh n (.str x):=⟨h,BP _⟩
theorem aMU(n:Nat){t:Tn}(h:t.ok):Sh n t.d:=by
 cases t with
 | n i=>exact jG n i
 | w x=>exact qP n h
theorem Sh.shaped{n:Nat}{d:Dz}(h:Sh n d)(a:n<=64):shaped d=true:=by
 show(d.canLay0 && decide (d.depth<=64))=true
 rw[h.1,AY (AV h.2 a)];rfl
section
variable{K:Frag}{H:Hp}
theorem cells_of:∀ {xs:L9 V} {cs:L9 (Int×Int)},DatVs K H xs (cs.map cellD)->CellsAt K H xs cs
 | xs,[],h=>by obtain rfl:=h.nil_of;exact .nil
 | xs,c::cs,h=>by
  obtain⟨x,t,rfl,h1,h2⟩:=h.cons_of
  obtain⟨a,ys,rfl,g,d⟩:=h1.tup_of
  obtain⟨j,t0,rfl,i,e⟩:=d.cons_of
  obtain⟨l,k,rfl,f,b⟩:=e.cons_of
  obtain rfl:=b.nil_of
  obtain rfl:=i.int_of
  obtain rfl:=f.int_of
  exact .cons (.inr g) (cells_of h2)
end
section
variable{K:Frag}{h:H9}{mg:Str->O9 V9}
theorem mM{i:V9}{e:O9 Az}{kV d:V9}(X:K.In h)(G:h.Ns mainGlobals mg)
  (a:nsIn K mainGlobals x=some (some (.ref f))) (l:K.lookup f=some ⟨i,od,.func (fnOf x x (fZ st) (bE st) (aJ st) .none kV doc pm e d ct),g⟩)
  (c:codeIn K d x=true) (k:keepIn K (.ref f)=true)
  (b:∀ (kV doc pm:V9) (e:O9 Az) (d ct:V9) (us:L9 V9),us.length=ps.length->bindArgs (fnOf x x (fZ st) (bE st) (aJ st) .none kV doc pm e d ct) ⟨us,[]⟩=pure (ps.zip us)):DefAt K mg x st ps:=by
 have F:=aG6 (st:=st) l c k
 exact⟨f,_,F,F.binds b,E4 X G a⟩
end
section
variable{K:Frag}{h:H9}{mg:Str->O9 V9}
theorem aN6{C N:Az}{bs sub:L9 V9}{nm q:Str}{ab:Bool}{sn:L9 Str}{col:O9 Bool}{dd:O9 Az}{k0 k1 k2 k3 k5:O9 V9}(l:K.lookup C=some (excClassObj nm q C N bs (.ref W::SX.jO) true sn sub ab col dd k0 k1 k2 k3 k5 "ValueError.__new__"))
 (c:findIn K (.ref C) "__setattr__"=some (some (.builtin "object.__setattr__"))) (f:findIn K (.ref C) "__getattribute__"=some (some (.builtin "BaseException.__getattribute__"))) (d:findIn K (.ref C) "__getattr__"=some none) (cl:findIn K (.ref C) "__class__"=some (some (.builtin "object.__class__")))
 (b:specialIn K (.builtin "object.__class__") "__get__"=some (some (.builtin "getset_descriptor.__get__"))) (a:takesIn K (.builtin "object.__class__")=some true) (e:keepIn K (.ref C)=true):SX.ExcC K W C:=⟨⟨_,_,_,_,_,_,_,_,_,_,_,_,_,_,l⟩,c,f,d,cl,b,a,e⟩
end
noncomputable def bA(n c:Nat):Bool:=decide (97<=c/\c < 97+n)
theorem aN7(h1:1<=n)(h2:n<=3):(Txt.slice "abc" none (some (n:Int))).cps.toList=[97,98,99].take n:=by
 obtain rfl|rfl|rfl:n=1\/n=2\/n=3:=by ext
 all_goals decide +kernel
theorem aHC(h:bA 3 c=true):∃ r,Builtin.Str.occurrences "abc" ⟨#[c]⟩ 0 ("abc":Str).length 1=(c - 97)::r:=by
 have h:=BH h
 refine⟨[],?_⟩
 obtain rfl|rfl|rfl:c=97\/c=98\/c=99:=by ext
 all_goals decide +kernel
end Mc
variable{st:Int×Int}{h':H9}{φ:H9->Prop}
namespace L2
variable{H:Hp}
section
variable{κ:Type}[DecidableEq κ]
theorem KV.length{ce:L9 (κ×V)}{vs:L9 (κ×V9)}(r:KV ce vs):ce.length=vs.length:=Paired.length r
end
theorem aMV{w:W9}{k:Key}(r:aP (kV k) u):(cX P w).is k u=true:=by
 cases k with
 | inl i=>obtain⟨t,e⟩:=(show ∃ t,u=Value.int i t from r);subst e;exact aCU P w i t
 | inr x=>obtain⟨t,e⟩:=(show ∃ t,u=Value.str x t from r);subst e;exact aCV P w x t
section
variable{X:Cx}{a0:L9 (Az×Obj)}{Z:St}{H:Hp}{s:S9}{a:Az}{y v:V}{u r:V9}{o:O9 V}{A:U9}{E:V9->S9->Prop}
theorem Inv.big(I:Inv X a0 Z H s):sysModules < s.heap.objs.size:=by
 have h:mainGlobals < s.heap.objs.size:=(I.mod.glob.keeps I.bk).lt
 exact DI (by decide) h
theorem mC{c:HO}(I:Inv X a0 Z H s)(d:Mut (H a))(g:Heap.SameBut a s.heap h')(f:∃ q,h'.get? a=some q)(new:bI X.prog X.w (upd H a c) h' a c) :
  Inv X a0 Z (upd H a c) {s with heap:=h',toks:=t'}:=
 I.write (x:=a) (e:=a) d (.inl rfl) (λb q h z=>(g.2 b h).trans z) f new
end
def aR8(i:E2):Prop:=∀ ov iv,subscripted i false ov iv=operate [ov,iv] (getItem ov iv)
theorem aN8{w:W9}{A:U9}{b a:E2}{pos:Pos}{T id:String}{Q:V9->S9->Prop}
  (k:typeLookup (.type T) "__getitem__"=pure (some (.builtin id))) (l:aR8 a)
  (h:wpAny (model prog w) A (eval b env) (λo s₁=>wpAny (model prog w) A (eval a env) (λi s₂=>s₂.TypeIs o T/\wpAny (model prog w) A (getItem o i) Q E s₂) E s₁) E s) :
  wpAny (model prog w) A (eval (.Subscript b a pos) env) Q E s:=by
 refine Subscript_ (BO h (λo s₁ g=>BO g (λi s₂ c=>?_) λ_ _ x=>x) λ_ _ x=>x)
 obtain⟨j,c⟩:=c
 unfold subscriptTail
 refine AB ?_
 rw[getitemInPython_of_ne j.not_modules]
 refine AB (E8 j k ?_)
 have e:wpAny (model prog w) A (subscripted a false o i) (λr d=>wpAny (model prog w) A (letTemporaryGo b o r >>= λ_=>pure r) Q E d) E s₂:=by
  rw[l o i]
  exact wpAny_operating (BO c (λr d f=>AB (wpAny_letTemporaryGo (AH f))) λ_ _ x=>x)
 first
  | exact AH (AB e)
  | exact AB (AH (AB e))
  | exact AB e
structure M1(X:Cx)(o:Expr)(m:Str)(apos:Pos)(e:Expr)(cpos:Pos):Prop where
 base:attributeBase o m X.env (eval o X.env)=eval o X.env
 few:((backTo cpos (starEach [e] X.env)).all (λx=>!x.1) && (backToKw cpos (keywordEach [] X.env)).all (λx=>x.1.isSome)
  && decide (([e]:List Expr).length+([]:List Keyword).length+(if ([]:List Keyword).isEmpty then 0 else 1) < 30))=true
 line:(apos.endLine == cpos.line)=true
 trees:backTo cpos (starEach [e] X.env)=[(false,eval e X.env)]
structure M2(X:Cx)(o:Expr)(m:Str)(apos:Pos)(e f:Expr)(cpos:Pos):Prop where
 base:attributeBase o m X.env (eval o X.env)=eval o X.env
 few:((backTo cpos (starEach [e,f] X.env)).all (λx=>!x.1) && (backToKw cpos (keywordEach [] X.env)).all (λx=>x.1.isSome)
  && decide (([e,f]:List Expr).length+([]:List Keyword).length+(if ([]:List Keyword).isEmpty then 0 else 1) < 30))=true
 line:(apos.endLine == cpos.line)=true
 trees:backTo cpos (starEach [e,f] X.env)=[(false,eval e X.env),(false,eval f X.env)]
def aAQ(K:Frag)(H:Hp)(ks:L9 (L9 Key×Az)):Prop:=∀ p∈ks,SqT K H p.2 (p.1.map kV)
theorem SqT.ext{q:Az}{o:HO}{xs:L9 V}(h:SqT K H q xs)(b:H a=some (.ext φ)):SqT K (upd H a o) q xs:=by
 rcases h with (h|⟨u,h⟩)|h
 .refine .inl (.inl ?_)
  rw[aF (λz=>by rw[z,b]at h;cases h)];exact h
 .refine .inl (.inr ⟨u,?_⟩)
  rw[aF (λz=>by rw[z,b]at h;cases h)];exact h
 .exact .inr h
theorem SqL.ext{q:Az}{o:HO}{xs:L9 V}(h:SqL K H q xs)(b:H a=some (.ext φ)):SqL K (upd H a o) q xs:=by
 rcases h with (h|⟨u,h⟩)|h
 .refine .inl (.inl ?_)
  rw[aF (λz=>by rw[z,b]at h;cases h)];exact h
 .refine .inl (.inr ⟨u,?_⟩)
  rw[aF (λz=>by rw[z,b]at h;cases h)];exact h
 .exact .inr h
mutual
theorem DatV.ext{o:HO}(ha:H a=some (.ext φ)):∀ {x:V} {d:Dz},DatV K H x d->DatV K (upd H a o) x d
 | _,_,.non=>.non
 | _,_,.bl b=>.bl b
 | _,_,.int i=>.int i
 | _,_,.str x=>.str x
 | _,_,.lst h ds=>.lst (h.ext ha) (DatVs.ext ha ds)
 | _,_,.tup h ds=>.tup (h.ext ha) (DatVs.ext ha ds)
 | _,_,.pl h=>.pl (by rw[aF (λz=>by rw[z,ha]at h;cases h)];exact h)
theorem DatVs.ext{o:HO}(ha:H a=some (.ext φ)):∀ {xs:L9 V} {ds:L9 Dz},DatVs K H xs ds->DatVs K (upd H a o) xs ds
 | _,_,.nil=>.nil
 | _,_,.cons h t=>.cons (DatV.ext ha h) (DatVs.ext ha t)
end
theorem aAQ.ext{K:Frag}{H:Hp}{a:Az}{φ:H9->Prop}{o:HO}{b:L9 (L9 Key×Az)}(h:aAQ K H b)(c:H a=some (.ext φ)):aAQ K (upd H a o) b:=λp d=>SqT.ext (h p d) c
end L2
variable{ps:L9 (Int×Int)}{z:L9 Nat}{sg:Nat}
namespace Mc
variable{rs:L9 Rw}
def Tn.good(n:Int):Tn->Prop
 | .n i=>0<=i/\i < n
 | .w x=>x="by"\/x="out"
def mO(n:Int)(c:Int×Int):Prop:=0<=c.1/\c.1 < n/\(c.2=1\/c.2 = -1)
def Rw.good(n:Int)(r:Rw):Prop:=r.l.good n/\r.r.good n/\∀ c∈r.c,mO n c
theorem Tn.good.ok{n:Int}{t:Tn}(h:t.good n):t.ok:=by
 cases t with
 | n i=>trivial
 | w x=>
  rcases h with rfl|rfl
  · exact(show PyData.strOk _ = true by decide +kernel)
  · exact(show PyData.strOk _ = true by decide +kernel)
theorem Rw.good.ok{n:Int}{r:Rw}(h:r.good n):r.ok:=⟨h.1.ok,h.2.1.ok⟩
structure Mach(rs:List Rw)(sg:Nat):Prop where
 len:1<=rs.length
 len2:rs.length<=1000
 sg1:1<=sg
 sg3:sg<=3
 row:∀ r∈rs,r.good rs.length/\r.c.length=sg
def aQ(sg:Nat)(z:L9 Nat):Prop:=z.length<=1000/\∀ c∈z,bA sg c=true
noncomputable def rowAt(rs:L9 Rw)(q:Int):Rw:=rs.getD q.toNat ⟨.n 0,[],.n 0⟩
noncomputable def aR(rs:L9 Rw)(z:L9 Nat)(st:Int×Int):Tn×Int:=
 if st.1=0 then((rowAt rs st.2).l,1)else if st.1=(z.length:Int)+1 then((rowAt rs st.2).r,-1)else
  (.n ((rowAt rs st.2).c.getD (z.getD (st.1.toNat - 1) 97 - 97) (0,0)).1,((rowAt rs st.2).c.getD (z.getD (st.1.toNat - 1) 97 - 97) (0,0)).2)
def c8(rs:L9 Rw)(z:L9 Nat)(st:Int×Int):O9 (Int×Int):=
 match (aR rs z st).1 with
 | .w _=>none
 | .n q=>some (st.1+(aR rs z st).2,q)
def iX(rs:L9 Rw)(z:L9 Nat)(st:Int×Int):Prop:=0<=st.1/\st.1<=(z.length:Int)+1/\0<=st.2/\st.2 < (rs.length:Int)
theorem cC{rs:L9 Rw}{q:Int}(h0:0<=q)(h1:q < rs.length):rs[q.toNat]? = some (rowAt rs q):=by
 have h:q.toNat < rs.length:=by ext
 unfold rowAt
 simp_all
theorem aDB(S:aQ sg z)(V:iX rs z st)(h0:st.1≠0)(h1:st.1≠(z.length:Int)+1):∃ c,z[st.1.toNat - 1]? = some c/\bA sg c=true/\z.getD (st.1.toNat - 1) 97=c:=by
 obtain⟨a,b,_,_⟩:=V
 have d:st.1.toNat - 1 < z.length:=by ext
 refine⟨z[st.1.toNat - 1],by simp[d],S.2 _ (E5 d),by rw[AL,AI d];rfl⟩
theorem aAR(M:Mach rs sg)(S:aQ sg z)(V:iX rs z st)(h0:st.1≠0)(h1:st.1≠(z.length:Int)+1) :
  ∃ c,(rowAt rs st.2).c[z.getD (st.1.toNat - 1) 97 - 97]? = some c/\(rowAt rs st.2).c.getD (z.getD (st.1.toNat - 1) 97 - 97) (0,0)=c/\mO rs.length c:=by
 obtain⟨c,_,b,e⟩:=aDB S V h0 h1
 rw[e]
 have b:=BH b
 have hr:=M.row _ (AG (cC V.2.2.1 V.2.2.2))
 have a:c - 97 < (rowAt rs st.2).c.length:=by rw[hr.2];ext
 refine⟨(rowAt rs st.2).c[c - 97],by simp[a],by rw[AL,AI a];rfl,hr.1.2.2 _ (E5 a)⟩
theorem vQ{f:Int×Int}(M:Mach rs sg)(S:aQ sg z)(V:iX rs z st)(h:c8 rs z st=some f):iX rs z f:=by
 have hr:=M.row _ (AG (cC V.2.2.1 V.2.2.2))
 obtain⟨a,b,c,d⟩:=id V
 unfold c8 aR at h
 by_cases i:st.1=0
 .simp only[AJ i]at h
  have g:=hr.1.1
  cases e:(rowAt rs st.2).l with
  | w x=>rw[e]at h;cases h
  | n q=>
   rw[e]at h g
   cases h
   exact⟨by show 0<=st.1+1;ext,by show st.1+1<=_;ext,g.1,g.2⟩
 .by_cases h1:st.1=(z.length:Int)+1
  .simp only[AM i,AJ h1]at h
   have g:=hr.1.2.1
   cases e:(rowAt rs st.2).r with
   | w x=>rw[e]at h;cases h
   | n q=>
    rw[e]at h g
    cases h
    exact⟨by show 0<=st.1 + -1;ext,by show st.1 + -1<=_;ext,g.1,g.2⟩
  .obtain ⟨o,_,e,g⟩:=aAR M S V i h1
   simp only[AM i,AM h1]at h
   rw[e]at h
   cases h
   obtain⟨k,j,m⟩:=g
   refine⟨?_,?_,k,j⟩
   .grind
   .grind
theorem qQ:∀ (N:Nat) (l:L9 Nat),l.Nodup->(∀ x∈l,x < N)->l.length<=N
 | 0,l,_,h=>by
  cases l with
  | nil=>exact AQ _
  | cons a t=>exact absurd (h a (by simp)) (by ext)
 | N+1,l,hn,h=>by
  have ih:=qQ N (l.erase N) (hn.erase N) (λx b=>by
   have:=(hn.mem_erase_iff).mp b
   have h2:=h x this.2
   ext)
  ext
theorem pB{l:L9 (Int×Int)}(s:l.Nodup)(i:∀ st∈l,iX rs z st):l.length<=(z.length+2) * rs.length:=by
 have tn:∀ x y:Int,0<=x->0<=y->x.toNat=y.toNat->x=y:=by ext
 have lt:∀ (x:Int) (n:Nat),x < n->0<=x->x.toNat < n:=by ext
 have u:∀ (x:Int) (n:Nat),x<=n+1->x.toNat+1<=n+2:=by ext
 have h:=qQ ((z.length+2) * rs.length) (l.map λst=>st.1.toNat * rs.length+st.2.toNat) ?_ ?_
 .rwa [AA]at h
 .unfold Nodup
  rw[List.pairwise_map]
  refine GV (λ{a b} ha hb hab e=>hab ?_) s
  obtain⟨m,k,f,j⟩:=i a ha
  obtain⟨t,v,o,p⟩:=i b hb
  have c:=lt _ _ j f
  have d:=lt _ _ p o
  have q:=CW (BP _) c
  have e1:=DB (· / rs.length) e
  have e2:=DB (· % rs.length) e
  simp only[Nat.mul_comm _ rs.length,Nat.mul_add_div q,Nat.mul_add_mod,Nat.div_eq_of_lt c,Nat.div_eq_of_lt d,DT c,DT d,Nat.add_zero]at e1 e2
  exact Prod.ext (tn _ _ m t e1) (tn _ _ f o e2)
 .intro x r
  obtain⟨st,g,rfl⟩:=AN.mp r
  obtain⟨m,k,f,j⟩:=i st g
  have:=Nat.mul_le_mul_right rs.length (u _ _ k)
  rw[Nat.add_mul,Nat.one_mul]at this
  exact A3 (FN (lt _ _ j f) _) this
noncomputable def sG(rs:L9 Rw)(z:L9 Nat):Nat->L9 (Int×Int)->Int×Int->L9 (Int×Int)
 | 0,ps,st=>ps++[st]
 | k+1,ps,st=>if st∈ps then ps++[st]else match c8 rs z st with
  | none=>ps++[st]
  | some st'=>sG rs z k (ps++[st]) st'
def kC(rs:L9 Rw)(z:L9 Nat):Nat:=(z.length+2) * rs.length
def lX(rs:L9 Rw)(z:L9 Nat):L9 (Int×Int):=sG rs z (kC rs z) [] (0,0)
structure Way(rs:List Rw)(z:List Nat)(ps:List (Int×Int))(st:Int×Int)(k:Nat):Prop where
 nd:ps.Nodup
 val:∀ s∈ps++[st],iX rs z s
 num:ps.length+k=kC rs z
 res:sG rs z k ps st=lX rs z
theorem Way.start(M:Mach rs sg):Way rs z [] (0,0) (kC rs z) where
 nd:=D8
 val:=λs a=>by
  obtain rfl:s=(0,0):=by simpa using a
  have:=M.len
  exact⟨C5 _,by show(0:Int)<=_;ext,C5 _,by show(0:Int) < _;ext⟩
 num:=by simp
 res:=rfl
theorem Way.here(W:Way rs z ps st k):iX rs z st:=W.val st (by simp)
theorem Way.stop(W:Way rs z ps st k)(h:st∈ps):ps++[st]=lX rs z:=by
 rw[<-W.res]
 cases k with
 | zero=>rfl
 | succ k=>unfold sG;rw[AJ h]
theorem Way.more(W:Way rs z ps st k)(h:st∉ps):∃ j,k=j+1:=by
 have d:(ps++[st]).Nodup:=by
  rw[DA]
  exact⟨W.nd,by simp,λa c b g e=>by rw[AK.mp g]at e;exact h (e▸c)⟩
 have:=pB d W.val
 rw[A2]at this
 have f:=W.num
 unfold kC at f
 simp only[BG,BR]at this
 exact⟨k - 1,by ext⟩
theorem Way.ends(W:Way rs z ps st k)(h:st∉ps)(e:c8 rs z st=none):ps++[st]=lX rs z:=by
 obtain⟨j,rfl⟩:=W.more h
 rw[<-W.res]
 unfold sG
 rw[AM h,e]
theorem Way.next{c:Int×Int}(M:Mach rs sg)(S:aQ sg z)(W:Way rs z ps st (k+1))(h:st∉ps)(e:c8 rs z st=some c):Way rs z (ps++[st]) c k where
 nd:=by
  rw[DA]
  exact⟨W.nd,by simp,λa d b g e=>by rw[AK.mp g]at e;exact h (e▸d)⟩
 val:=λs f=>by
  rcases A7.mp f with q|q
  · exact W.val s q
  · rw [AK.mp q]; exact vQ M S W.here e
 num:=by rw[A2];have:=W.num;simp;ext
 res:=by
  rw[<-W.res]
  conv=>rhs;unfold sG
  rw[AM h,e]
end Mc
variable{ps:L9 Str}
namespace L2
theorem oD:∀ {ys:L9 Str} {us:L9 V9},aT (ys.map V.str) us->StrsAre us ys
 | [],_,.nil=>.nil
 | y::ys,_,.cons r t=>by obtain⟨t',rfl⟩:=r;exact .cons y t' (oD t)
def aMW(K:Frag):V->L9 V->Hp->VK->Prop:=λx vs H Q=>∃ (sep:Str) (a:Az) (ys:L9 Str),x=.str sep/\vs=[.ref a]/\SqL K H a (ys.map V.str)/\(ys.map λy=>y.length).sum+ys.length * sep.length<=16777216/\Q (.str (Txt.join sep ys)) H
theorem aDC{X:Cx}:MtR X "str.join" (aMW X.K):=by
 intro a0 s Z H x vs v us Q I f g h
 obtain⟨c,a,ys,rfl,rfl,i,e,q⟩:=h
 obtain⟨t,rfl⟩:=f
 obtain⟨u,rfl,j⟩:=g.one
 cases(show u=Value.ref a from j)
 obtain⟨b,r,d,_⟩:=I.list i
 exact join_list (items:=b.toArray) d.isList (by simpa using oD r) e λl k=>⟨.str _,H,I.tok _,⟨_,rfl⟩,q⟩
end L2
variable{y:Str}{m:Nat}{S:Type}
namespace Mc
noncomputable def one(c:Nat):Str:=⟨#[c]⟩
theorem aHD(cs:L9 Nat):∀ (a:Array Nat),(foldl (λcf p=>cf++("":Str).cps++p.cps) a (cs.map one)).toList=a.toList++cs:=by
 induction cs with
 | nil=>intro a;simp
 | cons c t ih=>
  intro a
  rw[AZ,DN,ih]
  have:("":Str).cps = #[]:=rfl
  rw[this]
  simp[one]
theorem aKL(cs:L9 Nat):(Txt.join "" (cs.map one)).cps.toList=cs:=by
 unfold Txt.join Builtin.Str.glued
 cases cs with
 | nil=>rfl
 | cons c t=>
  show(foldl _ (one c).cps (t.map one)).toList=_
  rw[aHD];rfl
theorem aDD(cs:L9 Nat):((cs.map one).map λy=>y.length).sum=cs.length:=by
 induction cs with
 | nil=>rfl
 | cons c t ih=>rw[AZ,AZ,List.sum_cons,ih,BG];show 1+_=_;ext
theorem aN9(h:x.cps.toList=y.cps.toList):x=y:=by
 cases x;cases y
 simp_all
theorem aDE(cs:L9 Nat):Txt.join "" (cs.map one)=⟨cs.toArray⟩:=aN9 (by rw[aKL])
theorem aOA{k:Int}(h1:1<=sg)(d:sg<=3):∃ c,atI ("abc":Str).cps.toList (k % (sg:Int))=some c/\bA sg c=true:=by
 have b:=CB k (show(sg:Int)≠0 by ext)
 have h2:=BY k (show(0:Int) < sg by ext)
 obtain⟨j,a⟩:∃ j:Nat,k % (sg:Int)=j:=⟨(k % (sg:Int)).toNat,by ext⟩
 rw[a]at b h2 ⊢
 refine⟨97+j,?_,AY (by ext)⟩
 obtain rfl|rfl|rfl:j=0\/j=1\/j=2:=by ext
 all_goals decide +kernel
section
variable{S O:Type}
inductive Ex(st:S->Option (S⊕O)):Nat->S->O->Prop
 | out {s:S} {o:O} (h:st s=some (.inr o)):Ex st 0 s o
 | go {s s':S} {o:O} {n:Nat} (h:st s=some (.inl s')) (t:Ex st n s' o):Ex st (n+1) s o
inductive Rc(st:S->Option (S⊕O)):Nat->S->S->Prop
 | nil {s:S}:Rc st 0 s s
 | cons {s s' s'':S} {n:Nat} (h:st s=some (.inl s')) (t:Rc st n s' s''):Rc st (n+1) s s''
variable{st:S->O9 (S⊕O)}
theorem Ex.det{s:S}{o o':O}(a:Ex st n s o)(b:Ex st c s o'):n=c/\o=o':=by
 induction a generalizing c o' with
 | out h=>
  cases b with
  | out h'=>rw[h]at h';cases h';exact⟨rfl,rfl⟩
  | go h' t=>rw[h]at h';cases h'
 | go h t ih=>
  cases b with
  | out h'=>rw[h]at h';cases h'
  | go h' t'=>
   ext
theorem Rc.ex{s s':S}{o:O}(a:Rc st k s s')(b:Ex st n s o):∃ n',n=n'+k/\Ex st n' s' o:=by
 induction a generalizing n with
 | nil=>exact⟨n,rfl,b⟩
 | cons h t ih=>
  cases b with
  | out h'=>rw[h]at h';cases h'
  | go h' t'=>
   ext
theorem Rc.to{s s':S}{o:O}(a:Rc st k s s')(b:Ex st n s' o):Ex st (n+k) s o:=by
 induction a with
 | nil=>exact b
 | cons h t ih=>exact .go h (ih b)
theorem Rc.snoc{s s' b:S}(a:Rc st k s s')(h:st s'=some (.inl b)):Rc st (k+1) s b:=by
 induction a with
 | nil=>exact .cons h .nil
 | cons h' t ih=>exact .cons h' (ih h)
theorem Rc.round{s:S}{o:O}(a:Rc st (m+1) s s):¬ Ex st n s o:=λb=>by
 obtain⟨c,e,q⟩:=a.ex b
 have:=(b.det q).1
 ext
def Res(st:S->O9 (S⊕O))(s:S)(r:O9 O):Prop:=∀ o,r=some o↔∃ n,Ex st n s o
theorem Res.det{s:S}{r c:O9 O}(a:Res st s r)(b:Res st s c):r=c:=by
 apply Option.ext
 intro o
 exact(a o).trans (b o).symm
theorem Res.out{s:S}{o:O}(h:st s=some (.inr o)):Res st s (some o):=λo'=>by
 constructor
 · intro e; cases e; exact⟨0, .out h⟩
 · rintro ⟨n, q⟩; rw [((Ex.out h).det q).2]
theorem Res.step{s s':S}{r:O9 O}(h:st s=some (.inl s'))(a:Res st s' r):Res st s r:=λo=>by
 rw[a o]
 constructor
 .rintro ⟨n,q⟩;exact⟨n+1,.go h q⟩
 .rintro ⟨n,q⟩
  cases q with
  | out h'=>rw[h]at h';cases h'
  | go h' t=>rw[h]at h';cases h';exact⟨_,t⟩
theorem Res.round{s:S}(a:Rc st (m+1) s s):Res st s none:=λo=>by
 constructor
 · simp_all
 · rintro ⟨n, q⟩; exact absurd q a.round
open Classical in
def a5(st:S->O9 (S⊕O))(s:S):O9 O:=if h:∃ o n,Ex st n s o then some h.choose else none
theorem jX(st:S->O9 (S⊕O))(s:S):Res st s (a5 st s):=λo=>by
 unfold a5
 by_cases h:∃ o n,Ex st n s o
 .rw[dif_pos h]
  obtain⟨n,q⟩:=h.choose_spec
  constructor
  · ext
  · rintro ⟨n', q'⟩; rw [(q.det q').2]
 .grind
theorem Res.eq{s:S}{r:O9 O}(a:Res st s r):r=a5 st s:=a.det (jX st s)
theorem aCX{b:Type}{a:b->O9 (b⊕O)}{s:S}{s':b}(h:∀ o,(∃ n,Ex st n s o)↔∃ n,Ex a n s' o):a5 st s=a5 a s':=
 Option.ext λo=>((jX st s) o).trans ((h o).trans ((jX a s') o).symm)
structure Und2(st:S->Option (S⊕O))(s0:S)(ps:List S)(s:S):Prop where
 nd:ps.Nodup
 back:∀ p∈ps,∃ m,Rc st (m+1) p s
 res:∀ r,Res st s r->Res st s0 r
theorem Und2.start{a:S}:Und2 st a [] a:=⟨D8,λp b=>by simp at b,λr h=>h⟩
theorem Und2.next{c s s':S}{ps:L9 S}(U:Und2 st c ps s)(g:s∉ps)(h:st s=some (.inl s')):Und2 st c (ps++[s]) s' where
 nd:=by
  rw[DA]
  exact⟨U.nd,by simp,λa d b i e=>by rw[AK.mp i]at e;exact g (e▸d)⟩
 back:=λp f=>by
  rcases A7.mp f with q|q
  · obtain⟨m, r⟩ := U.back p q; exact⟨m + 1, r.snoc h⟩
  · rw [AK.mp q]; exact⟨0, .cons h .nil⟩
 res:=λr a=>U.res r (a.step h)
theorem Und2.met{a s:S}{ps:L9 S}(U:Und2 st a ps s)(h:s∈ps):a5 st a=none:=by
 obtain⟨m,r⟩:=U.back s h
 exact((U.res _ (Res.round r)).eq).symm
theorem Und2.outs{a s:S}{ps:L9 S}{o:O}(U:Und2 st a ps s)(h:st s=some (.inr o)):a5 st a=some o:=((U.res _ (Res.out h)).eq).symm
end
abbrev Th:=O9 (Int×Int)
structure Tb where
 f:List Th
 a:List Th
theorem qR(f:S->Nat)(N:Nat)(l:L9 S)(g:l.Nodup)(c:∀ s∈l,f s < N)(hi:∀ a∈l,∀ b∈l,f a=f b->a=b):l.length<=N:=by
 have h:=qQ N (l.map f) ?_ ?_
 .rw[AA]at h;exact h
 .unfold Nodup
  rw[List.pairwise_map]
  exact GV (λ{a b} ha hb hab e=>hab (hi a ha b hb e)) g
 .intro x d
  obtain⟨s,i,rfl⟩:=AN.mp d
  exact c s i
theorem aAS{O:Type}{st:S->O9 (S⊕O)}{s s':S}(h:st s=some (.inl s')):a5 st s=a5 st s':=(((jX st s').step h).eq).symm
theorem jY{O:Type}{st:S->O9 (S⊕O)}{s:S}{o:O}(h:st s=some (.inr o)):a5 st s=some o:=((Res.out h).eq).symm
end Mc
variable{c:Az}{n:Str}{vs:L9 V9}{cs:L9 Az}{cm:Str->O9 V9}{ns:L9 Int}
namespace L2
variable{H H':Hp}{params:Arguments}
def Its(z:Str):It:=⟨λi _=>i < z.cps.size,λi H x H'=>H'=H/\∃ c,z.cps[i]? = some c/\x=.str ⟨#[c]⟩,λi _=>i=z.cps.size⟩
theorem aAT{w:W9}(z:Str)(t:Tok)(T:String)(G:∀ A:U9,A.handled=none->∀ it,Walks P w A it [it] [it] z.cps.size (SignAt z) λi h=>h.IsStrIter it T z t i)
  (f:∀ (A:U9) (it:Az) (i:Nat) (s:S9) (Q E:V9->S9->Prop),s.heap.IsStrIter it T z t i->Q (.ref it) s->wpAny (model P w) A (pyIter (.ref it)) Q E s)
  (x:["enumerate","zip","dict_itemiterator","dict_reverseitemiterator","odict_iterator","itertools.zip_longest","itertools.pairwise"].contains T=false) (it:Az):Turn P w K tg (Its z) [it] it (λi h=>h.IsStrIter it T z t i) where
 mem:=by simp
 obj:=λi h st b a=>by
  obtain rfl:b=it:=by simpa using a
  obtain⟨o,e,c,d⟩:=st
  simp_all
 keep:=λi h h' st k=>by
  obtain⟨o,e,c,d⟩:=st
  exact⟨o,k it (by simp) o e,c,d⟩
 item:=by
  intro X D y B r i a0 s Z H E I m st j
  subst D y B
  obtain⟨F,f1,f2,C,q,u⟩:=m it (by simp)
  refine(G X.A (I.ok.hd r) it).item i s _ E j st λv h' g L l p=>?_
  obtain⟨c,tc,n,rfl⟩:=L
  have J:Inv X a0 Z H {s with heap:=h',toks:=g}:=I.turned (t':=g) (it:=it) (λb o a e=>p b o (by simpa using a) e) F f1 C q u
  obtain⟨o,e,M,d⟩:=id l
  exact⟨_,rfl,z0 (s:={s with heap:=h',toks:=g}) e M d x ⟨.str ⟨#[c]⟩,H,J,⟨_,rfl⟩,⟨rfl,c,n,rfl⟩,l,λb a=>(m b a).1⟩⟩
 done:=by
  intro X D y B r i a0 s Z H E I m st j
  subst D y B
  obtain⟨F,f1,f2,C,q,u⟩:=m it (by simp)
  have j:i=z.cps.size:=j
  subst j
  exact(G X.A (I.ok.hd r) it).done s _ E st λh' g p=>⟨rfl,I.turned (t':=g) (it:=it) (λb o a e=>p b o (by simpa using a) e) F f1 C q u⟩
 self:=λA i s Q E st h=>f A it i s Q E st h
def aWS(te:TE):TI:=λZ H R=>te Z H λx H1=>∃ z,x=.str z/\R (Its z) H1
theorem aHE{X:Cx}{l:E2}{tl:TE}(n:PE X l tl):PI X tg l (aWS tl):=by
 intro a0 s Z H R I h
 refine thn (n a0 s Z H _ I h) λv s1 f=>?_
 obtain⟨x,H1,k,r1,p⟩:=f
 obtain⟨z,e,q⟩:=p
 subst e
 obtain⟨t,rfl⟩:=r1
 refine wpAny_pyIter_strU ?_
 have d:Inv X a0 Z H1 {s1 with heap:=s1.heap.push {cls:=.type (strIterType z),data:=.fields #[.str z t,.int 0 0]}}:=k.kept (t':=s1.toks) λb o e=>AE _ e
 have st:(s1.heap.push {cls:=.type (strIterType z),data:=.fields #[.str z t,.int 0 0]}).IsStrIter s1.heap.objs.size (strIterType z) z t 0:=⟨_,A0 _ rfl,rfl,rfl⟩
 have a:∀ b∈[s1.heap.objs.size],iC X a0 H1 b:=λb r=>by
  obtain rfl:=AK.mp r
  exact k.fpOk (AQ _) (k.hok.fresh (AQ _))
 by_cases m:(z.cps.all λx=>decide (x < 128))=true
 .have j:strIterType z="str_ascii_iterator":=by unfold strIterType;rw[AJ m]
  rw[j]at st d ⊢
  exact⟨s1.heap.objs.size,[s1.heap.objs.size],_,_,H1,rfl,d,aAT z t "str_ascii_iterator" (λA g c=>Walks.strAscii g c z t) (λA c i s Q E st h=>wpAny_pyIter_striter_ascii st h) (by decide) _,st,a,q⟩
 .have j:strIterType z="str_iterator":=by unfold strIterType;rw[AM m]
  rw[j]at st d ⊢
  exact⟨s1.heap.objs.size,[s1.heap.objs.size],_,_,H1,rfl,d,aAT z t "str_iterator" (λA g c=>Walks.strWide g c z t) (λA c i s Q E st h=>wpAny_pyIter_striter_wide st h) (by decide) _,st,a,q⟩
theorem xR:∀ {xs:L9 V} {ys:L9 V9},xs.length=ys.length->(∀ (i:Nat) x y,xs[i]? = some x->ys[i]? = some y->aP x y)->aT xs ys
 | [],[],_,_=>.nil
 | [],_::_,h,_=>by simp at h
 | _::_,[],h,_=>by simp at h
 | x::xs,y::ys,h,f=>.cons (f 0 x y rfl rfl) (xR (by simpa using h) λi a b h1 h2=>f (i+1) a b (by simpa using h1) (by simpa using h2))
structure InK(env:Env)(s₀:S9)(m cm:Str->Option V9)(s:S9):Prop where
 ic:InCall s₀ env.locals m s
 cell:∀ n c,env.cells.lookup n=some c->s.heap.IsCell c (cm n)
 inj:∀ n n' c,env.cells.lookup n=some c->env.cells.lookup n'=some c->n=n'
 ne:∀ n c,env.cells.lookup n=some c->c≠env.locals
 up:∀ n c,env.kindOf n=some .cell->env.cells.lookup n=some c->env.locals < c
section
variable{M:Model}{A:U9}{E:V9->S9->Prop}{s₀ s:S9}{m cm:Str->O9 V9}{env:Env}
theorem InK.stL(x:InK env s₀ m cm s)(j:env.scope.kind=.function)(i:env.kindOf n=some .local)
  (h:∀ s',InK env s₀ (λy=>if y=n then some v else m y) cm s'->Q () s'):wpAny M A (storeName env n v) Q E s:=by
 refine wpAny_storeName_local i x.ic.ns (λh' d a=>h _ ⟨⟨?_,d,λb o e=>?_,x.ic.fresh⟩,λk c g=>?_,x.inj,x.ne,x.up⟩) (by rw[j];rfl)
 .obtain ⟨f,l,rfl⟩:=x.ic.same
  ext
 .exact a.extBut b o (BD (A3 (AT e) x.ic.fresh)) (x.ic.keep b o e)
 .exact (x.cell k c g).sameBut a (x.ne k c g)
theorem InK.stC(x:InK env s₀ m cm s)(q:env.scope.kind=.function)(j:env.kindOf n=some .cell)
  (i:env.cells.lookup n=some c)
  (h:∀ s',InK env s₀ m (λy=>if y=n then some v else cm y) s'->Q () s'):wpAny M A (storeName env n v) Q E s:=by
 have g:=x.up n c j i
 refine wpAny_storeName_cell q j i (x.cell n c i) λh' r a=>h _ ⟨⟨?_,x.ic.ns.sameBut a (BD g),λb o e=>?_,x.ic.fresh⟩,λk l f=>?_,x.inj,x.ne,x.up⟩
 .obtain ⟨p,t,rfl⟩:=x.ic.same
  ext
 .exact a.extBut b o (BD (DI (A3 (AT e) x.ic.fresh) g)) (x.ic.keep b o e)
 .by_cases d:k=n
  .grind
  .rw[AM d]
   exact(x.cell k l f).sameBut a λe=>d (x.inj k n l f (e▸i))
theorem InK.binds(f:Str×V9->PUnit->Sem (ForInStep PUnit))(i:∀ n v u,f (n,v) u=(do storeName env n v;pure (.yield ⟨⟩)))(g:env.scope.kind=.function) :
  ∀ (binds:L9 (Str×V9)) (m cm:Str->O9 V9) (s:S9) (Q:PUnit->S9->Prop),InK env s₀ m cm s->
   (∀ x∈binds,env.kindOf x.1=some .local\/(env.kindOf x.1=some .cell/\(env.cells.lookup x.1).isSome=true))->
   (∀ s',InK env s₀ (bindL env.kindOf binds m) (bindC env.kindOf binds cm) s'->Q ⟨⟩ s')->wpAny M A (forIn binds ⟨⟩ f) Q E s
 | [],m,cm,s,Q,x,_,h=>by rw[FR];exact AH (h s x)
 | (n,v)::r,m,cm,s,Q,x,hkind,h=>by
  rw[DM,i]
  have hr:∀ y∈r,env.kindOf y.1=some .local\/(env.kindOf y.1=some .cell/\(env.cells.lookup y.1).isSome=true):=λy l=>hkind y (AS _ l)
  rcases hkind (n,v) AU with d|⟨d,j⟩
  .refine AB (AB (x.stL g d λs' k=>AH (InK.binds f i g r _ _ s' Q k hr λa b=>h a ?_)))
   unfold bindL bindC;rw[AJ d,AJ d];exact b
  .obtain ⟨c,j⟩:=GQ.mp j
   have e:¬ env.kindOf n=some .local:=by rw[d];decide
   refine AB (AB (x.stC g d j λs' k=>AH (InK.binds f i g r _ _ s' Q k hr λa b=>h a ?_)))
   unfold bindL bindC;rw[AM e,AM e];exact b
end
theorem jZ:∀ (names:L9 (Str×NameKind)) (n:Nat) (cf:L9 (Str×Az)),cellsFrom n names cf=cellsFrom n names []++cf
 | [],_,_=>rfl
 | (x,k)::r,n,cf=>by
  unfold cellsFrom
  split
  · rw [jZ r (n + 1) ((x, n) :: cf), jZ r (n + 1) [(x, n)], EW]; rfl
  · exact jZ r n cf
theorem nI:∀ (names:L9 (Str×NameKind)) (n:Nat) {x:Str} {c:Az},(x,c)∈cellsFrom n names []->(x,NameKind.cell)∈names
 | [],_,_,_,h=>by simp[cellsFrom]at h
 | (y,k)::r,n,x,c,h=>by
  unfold cellsFrom at h
  split at h
  .rename_i a
   rw[jZ]at h
   rcases A7.mp h with h|h
   · exact AS _ (nI r _ h)
   · simp_all
  .exact AS _ (nI r _ h)
theorem uC:∀ {l l':L9 (Str×α)},(l++l').lookup x=(l.lookup x).or (l'.lookup x)
 | [],l'=>by simp
 | (y,v)::r,l'=>by
  ext
theorem qS{l:L9 (Str×α)}(h:∀ v,(x,v)∉l):l.lookup x=none:=by ext
noncomputable def bS(qual:Str)(scope:Scope)(L f:Az)(cd:V9)(cl:L9 (Str×Az)):Env:=newEnv scope L mainGlobals (cellsFrom (L+1) scope.names cl) (qual++".<locals>.") (some f) cd none builtinsNs
structure ClAt(h:Heap)(scope:Scope)(cl:List (Str×Az))(cm:Str->Option V9):Prop where
 cell:∀ n c,cl.lookup n=some c->h.IsCell c (cm n)
 inj:∀ n n' c,cl.lookup n=some c->cl.lookup n'=some c->n=n'
 off:∀ y∈scope.names,y.2=.cell->cl.lookup y.1=none
section
variable{M:Model}{A:U9}{E:V9->S9->Prop}{s:S9}
theorem aDF{binds:L9 (Str×V9)}{cm:Str->O9 V9}{Q:Env->S9->Prop}
  (u:scope.kind=.function) (C:ClAt s.heap scope cl cm)
  (k:∀ x∈binds,scope.names.lookup x.1=some .local\/scope.names.lookup x.1=some .cell)
  (y:∀ s',InK (bS qual scope s.heap.objs.size f cd cl) s (bindL (bS qual scope s.heap.objs.size f cd cl).kindOf binds λ_=>none) (bindC (bS qual scope s.heap.objs.size f cd cl).kindOf binds λn=>if (cl.lookup n).isSome then cm n else none) s'->Q (bS qual scope s.heap.objs.size f cd cl) s') :
  wpAny M A (newFunctionEnv scope mainGlobals cl binds (qual++".<locals>.") (some f) cd none builtinsNs) Q E s:=by
 simp only[newFunctionEnv,Option.isSome_none,CY,D0]
 refine AB (wpAny_alloc ?_)
 refine AB (wpAny_layCells _ (λname kind cells=>by cases l:kind == NameKind.cell<;>simp[l]) _ _ _ _ ?_)
 have ok:=cellsFrom_ok scope.names (s.heap.push {cls:=.type "frame",data:=.dict #[]}) (s.heap.objs.size+1) [] ⟨λ_ _ v=>(nomatch v),List.Pairwise.nil⟩ (by rw[BW];exact AQ _)
 rw[BW]at ok
 rw[show({s with heap:=s.heap.push {cls:=.type "frame",data:=.dict #[]}}:S9).heap.objs.size=s.heap.objs.size+1 from BW ..]
 have j:∀ b o,s.heap.get? b=some o->(pushCells (s.heap.push {cls:=.type "frame",data:=.dict #[]}) scope.names).get? b=some o:=λb o e=>pushCells_keeps _ _ b o (AE _ e)
 have h:(bS qual scope s.heap.objs.size f cd cl).cells=cellsFrom (s.heap.objs.size+1) scope.names []++cl:=jZ _ _ _
 have i:∀ n c,(bS qual scope s.heap.objs.size f cd cl).cells.lookup n=some c->((cellsFrom (s.heap.objs.size+1) scope.names []).lookup n=some c/\cl.lookup n=none)\/((cellsFrom (s.heap.objs.size+1) scope.names []).lookup n=none/\cl.lookup n=some c):=λn c e=>by
  rw[h,uC]at e
  cases q:(cellsFrom (s.heap.objs.size+1) scope.names []).lookup n with
  | none=>rw[q]at e;exact .inr ⟨rfl,by simpa using e⟩
  | some d=>
   rw[q]at e
   have m:some d=some c:=by simpa using e
   cases m
   exact .inl ⟨rfl,C.off (n,.cell) (nI _ _ (BB q)) rfl⟩
 have big:∀ n c,(cellsFrom (s.heap.objs.size+1) scope.names []).lookup n=some c->s.heap.objs.size < c:=λn c e=>(ok.empty n c (BB e)).2
 have a:∀ n c,cl.lookup n=some c->c < s.heap.objs.size:=λn c e=>(C.cell n c e).lt
 refine AB (InK.binds (s₀:=s) (env:=bS qual scope s.heap.objs.size f cd cl)
  _ (λ_ _ _=>rfl) u binds (λ_=>none) (λn=>if (cl.lookup n).isSome then cm n else none) _ _
  ⟨⟨⟨_,_,rfl⟩,(Heap.Ns.new s.heap (.type "frame")).keeps (pushCells_keeps _ _),j,AQ _⟩,λn c e=>?_,λn t c e m=>?_,λn c e=>?_,λn c z e=>?_⟩
  (λx w=>?_) λs' x=>AH (y s' x))
 .rcases i n c e with ⟨q,g⟩|⟨q,g⟩
  .rw[g];exact(ok.empty n c (BB q)).1
  .rw[g];exact(C.cell n c g).keeps j
 .rcases i n c e with ⟨q,g⟩|⟨q,g⟩<;>rcases i t c m with ⟨r,p⟩|⟨r,p⟩
  .exact name_of_addr ok.apart (BB q) (BB r)
  .exact absurd (big _ _ q) (GK.mpr (B7 (a _ _ p)))
  .exact absurd (big _ _ r) (GK.mpr (B7 (a _ _ g)))
  .exact C.inj n t c g p
 .show c≠s.heap.objs.size
  rcases i n c e with ⟨q,g⟩|⟨q,g⟩
  .exact CJ (big _ _ q)
  .exact BD (a _ _ g)
 .show s.heap.objs.size < c
  rcases i n c e with ⟨q,g⟩|⟨q,g⟩
  .exact big _ _ q
  .rw[C.off (n,.cell) (BB z) rfl]at g;cases g
 .rcases k x w with q|q
  .exact .inl q
  .refine .inr ⟨q,?_⟩
   obtain⟨c,e⟩:=mK (n:=s.heap.objs.size+1) q
   rw[h,uC,e];rfl
end
noncomputable def hid(cs:L9 Az)(H:Hp):Hp:=λb=>if b∈cs then none else H b
noncomputable def shw(cs:L9 Az)(H H':Hp):Hp:=λb=>if b∈cs then H b else H' b
theorem oE(h:b∈cs):hid cs H b=none:=AJ h
theorem bB(h:b∉cs):hid cs H b=H b:=AM h
theorem qT(h:b∈cs):shw cs H H' b=H b:=AJ h
theorem dH(h:b∉cs):shw cs H H' b=H' b:=AM h
theorem iP(h:H b=none):hid cs H b=none:=by
 by_cases q:b∈cs
 · exact oE q
 · rw [bB q]; exact h
theorem pC{o:HO}(h:hid cs H b=some o):H b=some o/\b∉cs:=by
 by_cases q:b∈cs
 · rw [oE q]at h; cases h
 · rw [bB q]at h; exact⟨h, q⟩
def FnO(f:Az)(o:Obj):HO:=.ext λh=>h.get? f=some o
def dI(c:Az)(o:Obj)(v:V):HO:=.frz o (.ext λh=>∃ u,aP v u/\h.IsCell c (some u))
section
variable{P:P9}{w:W9}{H:Hp}{h:H9}
theorem FnO.get{f:Az}{o:Obj}(x:HOk P w H h)(e:H f=some (FnO f o)):h.get? f=some o:=(x f _ e).1
theorem dI.get{c:Az}{o:Obj}{v:V}(x:HOk P w H h)(e:H c=some (dI c o v)):h.get? c=some o/\∃ u,aP v u/\h.IsCell c (some u):=⟨(x c _ e).1,(x c _ e).2.1⟩
theorem FnO.ok(e:h.get? f=some o):bI P w H h f (FnO f o):=⟨e,⟨o,e⟩,λh1 h2 q k=>k o q⟩
theorem dI.ok{v:V}(r:aP v u)(e:h.get? c=some o)(a:o.data=.cell (some u)):bI P w H h c (dI c o v):=
 ⟨e,⟨u,r,o,e,a⟩,⟨o,e⟩,λh1 h2 ⟨u,r,o,b,a⟩ k=>⟨u,r,o,k o b,a⟩⟩
end
def Celd(cs:L9 Az)(H:Hp):Prop:=∀ c∈cs,∃ o v,H c=some (dI c o v)
theorem Celd.out{cs:L9 Az}{H:Hp}(h:Celd cs H){b:Az}{o:HO}(e:H b=some o)(n:∀ o' v,o≠dI b o' v):b∉cs:=λz=>by
 obtain⟨o',v,q⟩:=h b z
 ext
theorem HOk.hid{w:W9}{h:H9}(x:HOk P w H h)(a:Celd cs H):HOk P w (hid cs H) h:=λb u e=>by
 obtain⟨e1,_⟩:=pC e
 exact(x b u e1).stay (λ_ _ _ q=>q) (λc q=>by rw[bB (a.out q λ_ v z=>nomatch z)];exact q) (λc _ q=>by rw[bB (a.out q λ_ v z=>nomatch z)];exact q) λc _ q=>by rw[bB (a.out q λ_ v z=>nomatch z)];exact q
structure CloScope(N ps fr:List Str)(sc:Scope):Prop where
 kind:sc.kind=.function
 co:sc.isCoroutine=false
 gen:sc.isGenerator=false
 nd:N.Nodup
 pre:N.take (ps++fr).length=ps++fr
 par:∀ x∈ps,sc.names.lookup x=some .local\/sc.names.lookup x=some .cell
 cap:∀ x∈fr,sc.names.lookup x=some .free
 only:∀ y∈sc.names,y.2=.free->y.1∈fr
 off:∀ y∈sc.names,y.2=.cell->y.1∉fr
structure CapAt(H:Hp)(fr:List Str)(cl:List (Str×Az))(vs:List V):Prop where
 len:vs.length=fr.length
 only:∀ n c,cl.lookup n=some c->n∈fr
 inj:∀ n n' c,cl.lookup n=some c->cl.lookup n'=some c->n=n'
 at':∀ (i:Nat) x v,fr[i]? = some x->vs[i]? = some v->∃ c o,cl.lookup x=some c/\H c=some (dI c o v)
theorem CapAt.get{H:Hp}{fr:L9 Str}{cl:L9 (Str×Az)}{vs:L9 V}(a:CapAt H fr cl vs){n:Str}{c:Az}(e:cl.lookup n=some c):∃ o v,H c=some (dI c o v):=by
 obtain⟨i,hi,b⟩:=E9.mp (a.only n c e)
 obtain⟨d,o,f,q⟩:=a.at' i n (vs[i]'(by rw[a.len];exact hi)) (by rw[AI hi,b]) (AI _)
 ext
noncomputable def aO(fr:L9 Str)(cl:L9 (Str×Az)):L9 Az:=fr.filterMap λx=>cl.lookup x
theorem CapAt.celd{vs:L9 V}(a:CapAt H fr cl vs):Celd (aO fr cl) H:=λc b=>by
 obtain⟨x,_,e⟩:=DH.mp b
 exact a.get e
theorem CapAt.same{H':Hp}{vs:L9 V}(a:CapAt H fr cl vs)(s:aD H H'):CapAt H' fr cl vs:=⟨a.len,a.only,a.inj,λi x v h1 h2=>let ⟨c,o,e,q⟩:=a.at' i x v h1 h2;⟨c,o,e,s _ _ q⟩⟩
noncomputable def iY(CX:CXT)(P:P9)(w:W9)(K:Frag)(mg:Str->O9 V9)(base:H9)(N fr:L9 Str)(qual:Str)(scope:Scope)(f:Az)(cd:V9)(cl:L9 (Str×Az))(A:U9)(outer:L9 Env)(s:S9)(H:Hp)(E:XK):Cx where
 prog:=P
 w:=w
 K:=K
 mg:=mg
 base:=base
 A:=A.deeper (bS qual scope s.heap.objs.size f cd cl)
 N:=N
 s₀:=s
 H₀:=hid (aO fr cl) H
 env:=bS qual scope s.heap.objs.size f cd cl
 outer:=outer
 stack:=bS qual scope s.heap.objs.size f cd cl::outer
 ex:=[]
 calm:=true
 fn:=λx=>(cl.lookup x).isNone
 pn:=[]
 xe:=λe s'=>wpAny (model P w) (A.deeper (bS qual scope s.heap.objs.size f cd cl)) (leaving (bS qual scope s.heap.objs.size f cd cl) e) (λ_ s''=>CX outer H s E e s'') (λe' s''=>CX outer H s E e' s'') s'
section
variable{CX:CXT}{P:P9}{w:W9}{K:Frag}{mg:Str->O9 V9}{base:H9}{N ps fr:L9 Str}{qual:Str}{scope:Scope}{f:Az}{cd:V9}{cl:L9 (Str×Az)}{A:U9}{outer:L9 Env}{s s1:S9}{H:Hp}{E:XK}{us:L9 V9}{vs cvs:L9 V}
theorem aDG{h:H9}(hok:HOk P w H h)(C:CapAt H fr cl cvs):∃ cm:Str->O9 V9,(∀ n c,cl.lookup n=some c->∃ v u,(∃ o,H c=some (dI c o v))/\aP v u/\cm n=some u/\h.IsCell c (some u)):=by
 have a:∀ n,∃ x:O9 V9,∀ c,cl.lookup n=some c->∃ v u,(∃ o,H c=some (dI c o v))/\aP v u/\x=some u/\h.IsCell c (some u):=λn=>by
  cases e:cl.lookup n with
  | none=>exact⟨none,λc z=>nomatch z⟩
  | some c=>
   obtain⟨o,v,q⟩:=C.get e
   obtain⟨_,u,r,z⟩:=dI.get hok q
   exact⟨some u,λd b=>by cases b;exact⟨v,u,⟨o,q⟩,r,rfl,z⟩⟩
 exact⟨λn=>(a n).choose,λn c e=>(a n).choose_spec c e⟩
theorem pD{L:Nat}:(bS qual scope L f cd cl).cells.lookup n=((cellsFrom (L+1) scope.names []).lookup n).or (cl.lookup n):=by
 rw[show(bS qual scope L f cd cl).cells=cellsFrom (L+1) scope.names []++cl from jZ _ _ _,uC]
theorem sH{L:Nat}(S:CloScope N ps fr scope)(C:CapAt H fr cl cvs)(e:cl.lookup n=some c):(bS qual scope L f cd cl).cells.lookup n=some c:=by
 rw[pD,qS λv a=>S.off (n,.cell) (nI _ _ a) rfl (C.only n c e)]
 simpa using e
theorem vR(S:CloScope N ps fr scope)(C:CapAt H fr cl cvs)(Q:A.handled=none)(e0:Env0 P w K mg base A outer s H)(M:vs.length=ps.length)(r:aT vs us)
  (Z:∀ n c,cl.lookup n=some c->∃ v u,(∃ o,H c=some (dI c o v))/\aP v u/\cm n=some u/\s.heap.IsCell c (some u))
  (x:InK (bS qual scope s.heap.objs.size f cd cl) s (bindL (bS qual scope s.heap.objs.size f cd cl).kindOf (ps.zip us) λ_=>none) (bindC (bS qual scope s.heap.objs.size f cd cl).kindOf (ps.zip us) λn=>if (cl.lookup n).isSome then cm n else none) s1) :
  Inv (iY CX P w K mg base N fr qual scope f cd cl A outer s H E) [] (start N (vs++cvs)) (hid (aO fr cl) H) s1:=by
 have X:(ps++fr).length<=N.length:=by have:=DB length S.pre;rw[BC]at this;ext
 have ac:(vs++cvs).length=(ps++fr).length:=by rw[A2,A2,M,C.len]
 obtain⟨h1,tk,rfl,F⟩:=x.ic.done
 have g:∀ b:Az,b∉(iY CX P w K mg base N fr qual scope f cd cl A outer s H E).ex:=λb z=>absurd (show b∈([]:L9 Az)from z) (by simp)
 have D:∀ y c,cl.lookup y=none->(bS qual scope s.heap.objs.size f cd cl).cells.lookup y=some c->s.heap.objs.size < c:=λy c n e=>by
  rw[pD,n]at e
  have m:(cellsFrom (s.heap.objs.size+1) scope.names []).lookup y=some c:=by simpa using e
  have ok:=cellsFrom_ok scope.names (s.heap.push {cls:=.type "frame",data:=.dict #[]}) (s.heap.objs.size+1) [] ⟨λ_ _ R=>(nomatch R),List.Pairwise.nil⟩ (by rw[BW];exact AQ _)
  rw[BW]at ok
  exact(ok.empty y c (BB m)).2
 refine⟨⟨e0.mod,S.kind,rfl,rfl,AQ _,λy z c h1 h2=>x.inj y z c h1 h2,λy l=>?_,λy c G h=>?_,λ_=>Q,Around.frames_deeper e0.frames,.inr ⟨rfl,rfl⟩,λb z=>absurd z (g b),λb o e=>⟨(e0.bs b o e).1,iP (e0.bs b o e).2⟩,e0.bsz,λb _ _=>g b,λb z=>absurd z (g b),e0.funs,λb Y=>iP (e0.frf b Y)⟩,
  rfl,e0.bare,Un.kept F,⟨_,x.ic.ns,λi y v h1 h2 h3=>?_⟩,λy c h=>⟨_,x.cell y c h⟩,iP (e0.hok.fresh (AQ _)),λy c h=>?_,λp d=>absurd (show p∈([]:L9 (Az×Obj))from d) (by simp),(e0.hok.hid C.celd).kept F,?_⟩
 .have l:scope.names.lookup y=some .cell\/scope.names.lookup y=some .free:=l
  rcases l with l|l
  .obtain ⟨c,e⟩:=mK (n:=s.heap.objs.size+1) l
   exact⟨c,by show(bS qual scope s.heap.objs.size f cd cl).cells.lookup y=_;rw[pD,e];rfl⟩
  .obtain ⟨i,hi,U⟩:=E9.mp (S.only _ (BB l) rfl)
   obtain⟨c,_,e,_⟩:=C.at' i y (cvs[i]'(by rw[C.len];exact hi)) (by rw[AI hi,U]) (AI _)
   exact⟨c,sH S C e⟩
 .have G:(cl.lookup y).isNone=true:=G
  exact B7 (D y c (Option.isNone_iff_eq_none.mp G) h)
 .have hi:i < (vs++cvs).length:=by
   unfold start at h2
   by_cases hi:i < (vs++cvs).length
   .exact hi
   .rw[CA (by simpa using hi)]at h2
    rw[GY]at h2
    split at h2<;>cases h2
  have t:(vs++cvs)[i]? = some v:=by
   unfold start at h2
   rw[BV (by simpa using hi),AC]at h2
   cases e:(vs++cvs)[i]? with
   | none=>rw[e]at h2;cases h2
   | some a=>rw[e]at h2;cases h2;rfl
  have d:(ps++fr)[i]? = some y:=by
   rw[<-S.pre,EN (by ext)];exact h1
  have I:(ps++fr).Nodup:=by rw[<-S.pre];exact S.nd.sublist (List.take_sublist _ _)
  have B:ps.Nodup:=(DA.mp I).1
  by_cases J:i < ps.length
  .rw[BV (by ext)]at t
   rw[BV J]at d
   obtain⟨u,O,T⟩:=r.get t
   refine⟨u,T,?_⟩
   rcases S.par y (AG d)with k|k
   .exact .inl ⟨k,qL B d O k⟩
   .obtain ⟨c,e⟩:=mK (n:=s.heap.objs.size+1) k
    have m:(bS qual scope s.heap.objs.size f cd cl).cells.lookup y=some c:=by rw[pD,e];rfl
    refine .inr ⟨.inl k,c,m,?_⟩
    have q:=x.cell y c m
    rw[qM B d O (by show scope.names.lookup y≠_;rw[k];decide)]at q
    exact q
  .rw[CA (by ext)]at t
   rw[CA (by ext)]at d
   rw[M]at t
   obtain⟨c,o,e,q⟩:=C.at' _ y v d t
   obtain⟨_,W,r2,V⟩:=dI.get e0.hok q
   have m:=sH (qual:=qual) (f:=f) (cd:=cd) (L:=s.heap.objs.size) S C e
   have j:scope.names.lookup y=some .free:=S.cap y (AG d)
   refine⟨W,r2,.inr ⟨.inr j,c,m,?_⟩⟩
   exact V.keeps F
 .cases e:cl.lookup y with
  | none=>exact iP (e0.hok.fresh (B7 (D y c e h)))
  | some c'=>
   have h':=sH (qual:=qual) (f:=f) (cd:=cd) (L:=s.heap.objs.size) S C e
   have h:(bS qual scope s.heap.objs.size f cd cl).cells.lookup y=some c:=h
   rw[h]at h';cases h'
   exact oE (DH.mpr ⟨y,C.only y c e,e⟩)
 .unfold start
  show _=N.length
  rw[A2,AA,D7]
  ext
theorem uD{Z:St}(S:CloScope N ps fr scope)(C:CapAt H fr cl cvs)(e0:Env0 P w K mg base A outer s H)(J:Inv (iY CX P w K mg base N fr qual scope f cd cl A outer s H E) a0 Z H' s') :
  (∀ c∈aO fr cl,H' c=none)/\Un (frs outer) [] H (shw (aO fr cl) H H') s.heap s'.heap/\HOk P w (shw (aO fr cl) H H') s'.heap:=by
 have un:Un (frs outer) [] (hid (aO fr cl) H) H' s.heap s'.heap:=J.base
 have d:∀ c∈aO fr cl,H' c=none:=λc k=>by
  obtain⟨x,_,e⟩:=DH.mp k
  exact J.freeC x c (sH S C e)
 have out:∀ b,H b=none->b∉aO fr cl:=λb n z=>by
  obtain⟨o,v,q⟩:=C.celd b z
  simp_all
 refine⟨d,⟨λb o e n h1 h2=>un.keep b o e (iP n) h1 h2,λb o e n h1 h2=>un.slot b o e (iP n) h1 h2,λb o e n h2=>by rw[dH (out b n)];exact un.free b o e (iP n) h2,un.there,
  λb xs q=>?_,λb o u q=>?_,λb ps q=>?_⟩,λb u e=>?_⟩
 .have a:=C.celd.out q λ_ v z=>nomatch z
  rw[dH a];exact un.tups b xs (by rw[bB a];exact q)
 .by_cases a:b∈aO fr cl
  .rw[qT a];exact q
  .rw[dH a];exact un.frzs b o u (by rw[bB a];exact q)
 .have a:=C.celd.out q λ_ v z=>nomatch z
  rw[dH a];exact un.tbls b ps (by rw[bB a];exact q)
 .by_cases a:b∈aO fr cl
  .rw[qT a]at e
   obtain⟨o,v,q⟩:=C.celd b a
   rw[q]at e;cases e
   obtain⟨i,u,r,l,g,j⟩:=dI.get e0.hok q
   rw[i]at g;cases g
   exact dI.ok r (un.keep b o i (oE a) (λz=>by have:=e0.frf b z;rw[q]at this;cases this) (by simp)) j
  .rw[dH a]at e
   have h:∀ c o,H' c=some o->c∉aO fr cl:=λc o q z=>by rw[d c z]at q;cases q
   exact(J.hok b u e).stay (λ_ _ _ q=>q) (λc q=>by rw[dH (h c _ q)];exact q) (λc _ q=>by rw[dH (h c _ q)];exact q) λc _ q=>by rw[dH (h c _ q)];exact q
end
section
variable{P:P9}{w:W9}{K:Frag}{mg:Str->O9 V9}{base:H9}{N ps fr:L9 Str}{qual:Str}{scope:Scope}{f:Az}{cd:V9}{cl:L9 (Str×Az)}{A:U9}{outer:L9 Env}{s:S9}{H:Hp}{E:XK}{cvs:L9 V}
theorem vS(S:CloScope N ps fr scope)(C:CapAt H fr cl cvs)(e0:Env0 P w K mg base A outer s H)
  (h:Fly (iY (CXe P w) P w K mg base N fr qual scope f cd cl A outer s H E) (λc e H'=>(∀ a∈aO fr cl,H' a=none)->E c e (shw (aO fr cl) H H')) ev s'):(iY (CXe P w) P w K mg base N fr qual scope f cd cl A outer s H E).xe ev s':=by
 obtain⟨e,l,od,Z,H',rfl,I,m,q⟩:=h
 show wpAny (model P w) _ (leaving _ (.ref e)) _ _ s'
 unfold leaving
 have j:nH (iY (CXe P w) P w K mg base N fr qual scope f cd cl A outer s H E):=⟨rfl,rfl⟩
 refine AB (pA j I m λr k f2=>oC k f2 λp g i=>?_)
 obtain⟨vs,T,a,b,c,_⟩:=i.tb
 obtain⟨d,un,hok⟩:=uD S C e0 g
 have n:∀ c o,H' c=some o->c∉aO fr cl:=λc o q z=>by rw[d c z]at q;cases q
 refine⟨e,l,od,_,rfl,g.os,g.bare,un,hok,by rw[dH (n _ _ i.tr)];exact i.tr,⟨vs,T,a,b,λt e1=>⟨?_,(c t e1).2.1⟩⟩,q d⟩
 rw[dH]
 .exact (c t e1).1
 .intro z
  obtain⟨o,v,q⟩:=C.celd t z
  exact absurd (A3 (e0.hok.lt q) (c t e1).2.1) (B4 _)
end
structure ClSt where
 name:Str
 qual:Str
 params:Arguments
 body:FuncBody
 scope:Scope
noncomputable def ClSt.fd(S:ClSt)(cl:L9 (Str×Az))(doc pm:V9)(c:Az)(ct:V9):FuncData:=
 {name:=S.name,qualname:=S.qual,params:=S.params,body:=S.body,scope:=S.scope,globals:=mainGlobals,closure:=cl,defaults:=.none,kwdefaults:=.none,doc:=doc,pyModule:=pm,annotations:=none,code:=.ref c,closureTuple:=ct,builtins:=builtinsNs}
abbrev ClSt.obj(S:ClSt)(cl:L9 (Str×Az))(doc pm:V9)(c:Az)(ct:V9):Obj:={cls:=.type "function",data:=.func (S.fd cl doc pm c ct)}
section
variable{P:P9}{w:W9}{K:Frag}{mg:Str->O9 V9}{base:H9}{N ps fr:L9 Str}{S:ClSt}{f c:Az}{cl:L9 (Str×Az)}{A:U9}{outer:L9 Env}{s:S9}{H:Hp}{E:XK}{Q:VK}{cvs vs:L9 V}{us:L9 V9}{args:Args}{doc pm ct:V9}{k:Nat}
theorem aAU(Sc:CloScope N ps fr S.scope):∀ y∈ps.zip us,S.scope.names.lookup y.1=some .local\/S.scope.names.lookup y.1=some .cell:=λ⟨n,v⟩ a=>Sc.par n (EI a).1
theorem aHF{h:H9}(hok:HOk P w H h)(Sc:CloScope N ps fr S.scope)(C:CapAt H fr cl cvs)(d:∀ n c,cl.lookup n=some c->∃ v u,(∃ o,H c=some (dI c o v))/\aP v u/\cm n=some u/\h.IsCell c (some u)):ClAt h S.scope cl cm where
 cell:=λn c e=>by
  ext
 inj:=C.inj
 off:=λy a b=>by
  cases e:cl.lookup y.1 with
  | none=>rfl
  | some c=>exact absurd (C.only _ _ e) (Sc.off y a b)
theorem aHG(hb:S.body=.stmts body)(F:H f=some (FnO f (S.obj cl doc pm c ct)))(L:H c=some (.cod S.qual))(Sc:CloScope N ps fr S.scope)(C:CapAt H fr cl cvs)(hr:Room (k+1) A)
  (e0:Env0 P w K mg base A outer s H) (l:BindsTo s (S.fd cl doc pm c ct) args (ps.zip us)) (r:aT vs us) (D:vs.length=ps.length)
  (d:Room k (A.deeper (bS S.qual S.scope s.heap.objs.size f (.ref c) cl))->∃ t,PSs ((iY (CXe P w) P w K mg base N fr S.qual S.scope f (.ref c) cl A outer s H E).fly λc e H'=>(∀ a∈aO fr cl,H' a=none)->E c e (shw (aO fr cl) H H')) body t /\
   t {nx:=λ_ H'=>(∀ a∈aO fr cl,H' a=none)->Q .non (shw (aO fr cl) H H'),rt:=λv H'=>(∀ a∈aO fr cl,H' a=none)->Q v (shw (aO fr cl) H H')} (start N (vs++cvs)) (hid (aO fr cl) H)) :
  codeAny (model P w) A (.call (.ref f) args) (CR (CXe P w) outer P w H s Q E) s:=by
 have y:s.heap.NoLimit:=e0.mod.nolimit.keeps λb o e=>(e0.bs b o e).1
 obtain⟨cm,i⟩:=aDG e0.hok C
 have p:s.heap.CodeRec (.ref c) S.qual:=e0.hok c _ L
 refine codeAny_call_function hr.depth (FnO.get e0.hok F) rfl Sc.co Sc.gen hb p (l _ _ _ _ ?_)
 refine aDF (cm:=cm) Sc.kind (aHF e0.hok Sc C i) (aAU Sc) λs1 x=>?_
 refine⟨y.keeps x.ic.keep,codeAny_func ?_⟩
 obtain⟨t,B,M⟩:=d (hr.deeper _)
 have I:Inv (iY (CXe P w) P w K mg base N fr S.qual S.scope f (.ref c) cl A outer s H E) [] (start N (vs++cvs)) (hid (aO fr cl) H) s1:=vR Sc C hr.hd e0 D r i x
 have m:=B.unfly λ_ _ z=>vS Sc C e0 z
 refine BO (m [] s1 _ _ _ I M) (λO s' g=>?_) λe s' g=>g
 have h:∀ {j:St} {H':Hp} {v:V} {u:V9},Inv (iY (CXe P w) P w K mg base N fr S.qual S.scope f (.ref c) cl A outer s H E) [] j H' s'->aP v u->((∀ a∈aO fr cl,H' a=none)->Q v (shw (aO fr cl) H H'))->CE outer P w H s Q u s':=
  λ{j H' v u} J n q=>by
   obtain⟨G,un,hok⟩:=uD Sc C e0 J
   exact⟨v,_,J.os,J.bare,un,hok,n,q G⟩
 cases O with
 | ret u=>
  obtain⟨v,j,H',J,n,q⟩:=g
  exact h J n q
 | next=>
  obtain⟨j,H',J,q⟩:=g
  exact h (v:=V.non) (u:=Value.none) J rfl q
 | brk=>
  obtain⟨_,_,_,q⟩:=g
  exact False.elim q
 | cont=>
  obtain⟨_,_,_,q⟩:=g
  exact False.elim q
theorem aKM{body:E2}(hb:S.body=.expr body)(y:H f=some (FnO f (S.obj cl doc pm c ct)))(B:H c=some (.cod S.qual))(Sc:CloScope N ps fr S.scope)(C:CapAt H fr cl cvs)(hr:Room (k+1) A)
  (e0:Env0 P w K mg base A outer s H) (h:BindsTo s (S.fd cl doc pm c ct) args (ps.zip us)) (r:aT vs us) (n:vs.length=ps.length)
  (d:Room k (A.deeper (bS S.qual S.scope s.heap.objs.size f (.ref c) cl))->∃ t,PE ((iY (CXe P w) P w K mg base N fr S.qual S.scope f (.ref c) cl A outer s H E).fly λc e H'=>(∀ a∈aO fr cl,H' a=none)->E c e (shw (aO fr cl) H H')) body t /\
   t (start N (vs++cvs)) (hid (aO fr cl) H) λv H'=>(∀ a∈aO fr cl,H' a=none)->Q v (shw (aO fr cl) H H')) :
  codeAny (model P w) A (.call (.ref f) args) (CR (CXe P w) outer P w H s Q E) s:=by
 have l:s.heap.NoLimit:=e0.mod.nolimit.keeps λb o e=>(e0.bs b o e).1
 obtain⟨cm,g⟩:=aDG e0.hok C
 have i:s.heap.CodeRec (.ref c) S.qual:=e0.hok c _ B
 refine PySem.W.kla_callFunE hr.depth (FnO.get e0.hok y) rfl Sc.co Sc.gen hb i (h _ _ _ _ ?_)
 refine aDF (cm:=cm) Sc.kind (aHF e0.hok Sc C g) (aAU Sc) λs1 x=>?_
 refine⟨l.keeps x.ic.keep,PySem.W.kla_codeExpr ?_⟩
 obtain⟨t,m,D⟩:=d (hr.deeper _)
 have I:Inv (iY (CXe P w) P w K mg base N fr S.qual S.scope f (.ref c) cl A outer s H E) [] (start N (vs++cvs)) (hid (aO fr cl) H) s1:=vR Sc C hr.hd e0 n r g x
 refine BO (m [] s1 _ _ _ (I.wish _) D) (λu s' j=>?_) λe s' j=>vS Sc C e0 j
 obtain⟨v,H',J,p,q⟩:=j
 obtain⟨z,un,hok⟩:=uD Sc C e0 J.unwish
 exact⟨v,_,J.os,J.bare,un,hok,p,q z⟩
end
theorem aFG:∀ (names:L9 (Str×NameKind)) (cf:L9 (Str×Az)),(∀ x∈names,x.2=.free->∃ c,env.cells.lookup x.1=some c)->
  (∀ x c,cf.lookup x=some c->env.cells.lookup x=some c)->
  ∃ cl,(forIn names cf λx r=>(if (x.2 == NameKind.free)=true then(do let a <-cellOf env x.1;pure (ForInStep.yield ((x.1,a)::r)))else pure (ForInStep.yield r)):Sem (L9 (Str×Az)))=pure cl /\
   (∀ x c,cl.lookup x=some c->env.cells.lookup x=some c)/\(∀ x∈names,x.2=.free->∃ c,cl.lookup x.1=some c)/\(∀ x c,cf.lookup x=some c->∃ c',cl.lookup x=some c') /\
   (∀ x c,cl.lookup x=some c->(∃ c',cf.lookup x=some c')\/(x,NameKind.free)∈names):=by
 intro names
 induction names with
 | nil=>intro cf _ h;exact⟨cf,rfl,h,λx p=>absurd p (by simp),λx c e=>⟨c,e⟩,λx c e=>.inl ⟨c,e⟩⟩
 | cons x r ih=>
  intro cf g h
  obtain⟨n,k⟩:=x
  by_cases m:k=.free
  .subst m
   obtain⟨c,f⟩:=g (n,.free) AU rfl
   have f:env.cells.lookup n=some c:=f
   obtain⟨cl,e1,e2,j,i,l⟩:=ih ((n,c)::cf) (λy b=>g y (AS _ b)) (λy d e=>by
    rw[CS]at e
    cases q:y == n with
    | true=>rw[q]at e;cases e;have:=G9 q;subst this;exact f
    | false=>rw[q]at e;exact h y d e)
   refine⟨cl,?_,e2,λy b o=>?_,λy d e=>?_,λy d e=>?_⟩
   .rw[DM]
    simp only[EC,CU]
    unfold cellOf
    simp only[f,pure_bind]
    exact e1
   .rcases AW.mp b with z|z
    · simp_all
    · ext
   .by_cases q:y=n
    · simp_all
    · exact i y d (by rw [CS, DY q]; exact e)
   .grind
  .obtain ⟨cl,e1,e2,j,i,l⟩:=ih cf (λy b=>g y (AS _ b)) h
   ext
structure ClOf(cells:List (Str×Az))(sc:Scope)(cl:List (Str×Az)):Prop where
 of:∀ x c,cl.lookup x=some c->cells.lookup x=some c
 all:∀ x∈sc.names,x.2=.free->∃ c,cl.lookup x.1=some c
 only:∀ x c,cl.lookup x=some c->(x,NameKind.free)∈sc.names
theorem aAV(b:∀ x∈scope.names,x.2=.free->∃ c,env.cells.lookup x.1=some c) :
  ∃ cl,closureFor scope env=pure cl/\ClOf env.cells scope cl:=by
 obtain⟨cl,e1,e2,a,_,d⟩:=aFG scope.names [] b (λx c e=>by simp at e)
 refine⟨cl,?_,e2,a,λx c e=>?_⟩
 .unfold closureFor
  ext
 .grind
theorem aHH{pos:Pos}{r:L9 V9}(l:L9 V9)(h:TriplesOk l):codeAmong pos (l++r)=(codeAmong pos l).or (codeAmong pos r):=by
 fun_induction TriplesOk l with
 | case1=>simp[codeAmong]
 | case2 a t b u x rest ih=>
  simp only[CD,codeAmong]
  split
  · rfl
  · exact ih h
 | case3 l h1 h2=>exact h.elim
structure Tb(mg:Str->Option V9)(base:Heap)(c0 P0:Az):Prop where
 hd:CodeHd base c0 P0
 bt:∃ bm ob,mg "__builtins__"=some (.ref bm)/\bm≠builtinsNs/\base.get? bm=some ob/\ob.cls=.type "module"/\ob.dict=some builtinsNs/\ob.data=.plain
section
variable{X:Cx}{a0:L9 (Az×Obj)}{Z:St}{H:Hp}{s:S9}{c0 P0:Az}{qs:L9 (Pos×Str)}{pos:Pos}{q:Str}
theorem aHI{ps:Array V9}{h:H9}(x:HOk X.prog X.w H h)(o:H P0=some (.tbl qs))(t:h.get? P0=some (tabObj ps))(l:TriplesOk ps.toList)(f:∀ p∈qs,codeAmong p.1 ps.toList=none\/∃ c,codeAmong p.1 ps.toList=some (.ref c)/\H c=some (.cod p.2))
  (B:∀ p∈qs,p.1.line=pos.line->p.1.col=pos.col->p.2=q) (A:codeAmong pos ps.toList=none) (a:H c=none) (hx:Heap.ExtBut P0 h h') (j:h'.CodeRec (.ref c) q) (i:h'.get? P0=some (tabObj (ps ++ #[rawInt pos.line,rawInt pos.col,.ref c]))) :
  HOk X.prog X.w (upd H c (.cod q)) h':=λb u e=>by
 have y:P0≠c:=λz=>by rw[<-z,o]at a;cases a
 by_cases s:b=c
 .subst s;rw[aN]at e;cases e;exact j
 .rw[aF s]at e
  by_cases k:b=P0
  .subst k
   rw[o]at e;cases e
   refine⟨_,i,?_,λp m=>?_⟩
   .rw[Array.toList_append];exact TriplesOk_snoc _ _ _ _ l
   .rw[Array.toList_append,aHH _ l]
    rcases f p m with z|⟨d,z,n⟩
    .rw[z]
     show(codeAmong p.1 [rawInt pos.line,rawInt pos.col,.ref c])=none\/_
     by_cases g:p.1.line=pos.line/\p.1.col=pos.col
     .refine .inr ⟨c,?_,?_⟩
      .show codeAmong p.1 [rawInt pos.line,rawInt pos.col,.ref c]=_
       rw[<-g.1,<-g.2]
       exact codeAmong_snoc [] trivial rfl
      .rw[B p m g.1 g.2];exact aN
     .refine .inl ?_
      simp only[codeAmong,rawInt]
      ext
    .refine .inr ⟨d,by rw[z];rfl,?_⟩
     rw[aF (aV n a)];exact n
  .refine (x b u e).stay (λd v C r=>hx d v ?_ r) (λd r=>by rw[aF (aV r a)];exact r) (λd _ r=>by rw[aF (aV r a)];exact r) λd _ r=>by rw[aF (aV r a)];exact r
   ext
def Mkd(H:Hp)(q:Str)(c:Az)(H1:Hp):Prop:=(H c=some (.cod q)/\H1=H)\/(H c=none/\H1=upd H c (.cod q))
theorem aDH {S : ClSt} {M : Model} {A : U9} {E : V9 -> S9 -> Prop} {Q : V9 -> S9 -> Prop} {g : Nat} (I : Inv X a0 Z H s) (d : X.env.code = .ref c0) (T : Tb X.mg X.base c0 P0) (hP : H P0 = some (.tbl qs)) (hq : (pos, S.qual) ∈ qs)
    (hu : ∀ p ∈ qs, p.1.line = pos.line -> p.1.col = pos.col -> p.2 = S.qual) (D : ∀ x ∈ S.scope.names, x.2 = .free -> ∃ c, X.env.cells.lookup x.1 = some c)
    (h : ∀ f c cl doc pm ct H1 s', Mkd H S.qual c H1 -> H1 f = none -> ClOf X.env.cells S.scope cl -> Inv X a0 Z (upd H1 f (FnO f (S.obj cl doc pm c ct))) s' -> Q (.ref f) s') :
    wpAny M A (makeFunction S.name S.qual S.params S.body S.scope X.env [] [] [] pos g) Q E s := by
  obtain⟨cl, q, R⟩ := aAV D
  obtain⟨ps, i, J, t⟩ := (show bI X.prog X.w H s.heap P0 (.tbl qs)from I.hok P0 _ hP)
  have C : CodeHd s.heap c0 P0 := T.hd.keeps I.bk
  have F : s.heap.Ns mainGlobals X.mg := I.mod.glob.keeps I.bk
  have K : mainGlobals ≠ P0 := λz => by
    obtain⟨o, es, ep, e, hd, _⟩ := F
    ext
  obtain⟨bm, ob, b1, b2, b3, b4, b5, b6⟩ := T.bt
  have B := I.bk _ _ b3
  have ad : bm ≠ P0 := λz => by rw [z, i]at B; cases B; cases b4
  have ac : bm ≠ mainGlobals := λz => by
    obtain⟨o, es, ep, e, hd, _⟩ := F
    simp_all
  have V : s.heap.BuiltinsAt X.mg P0 := ⟨bm, ob, b1, b2, ac, ad, B, b4, b5, b6⟩
  rcases t _ hq with y | ⟨c, hf, hc⟩
  · have k : ∀ (j : Az) (a doc : V9) (h' : H9) (m : Tok), Heap.ExtBut P0 s.heap h' -> s.heap.objs.size <= j -> j < h'.objs.size -> h'.CodeRec (.ref j) S.qual -> h'.get? P0 = some (tabObj (ps ++ #[rawInt pos.line, rawInt pos.col, .ref j])) ->
        Q (.ref h'.objs.size) { s with heap := h'.push (S.obj cl doc ((X.mg "__name__").getD .none) j a), toks := m } := by
      intro j a doc h' m U v L O P
      have Y : H j = none := I.hok.fresh v
      have r : HOk X.prog X.w (upd H j (.cod S.qual)) h' := aHI I.hok hP i J t hu y Y U O P
      have l : (upd H j (.cod S.qual)) h'.objs.size = none := r.fresh (AQ _)
      refine h h'.objs.size j cl doc ((X.mg "__name__").getD .none) a _ _ (.inr ⟨Y, rfl⟩) l R ?_
      have G : ∀ b o, H b = some o -> b ≠ j /\ b ≠ h'.objs.size := λb o e => ⟨aV e Y, λz => by
        rw [z]at e
        rw [aF (CJ L), e]at l; cases l⟩
      have nP : ∀ b, H b = none -> b ≠ P0 := λb n z => by rw [z, hP]at n; cases n
      refine I.un ⟨λb o e n _ _ => AE _ (U b o (nP b n) e), λb o e n _ _ => ⟨o.slots, AE _ (U b o (nP b n) e)⟩, λb o e n _ => ?_, λb o e _ => ?_, λb xs e => ?_, λb o u e => ?_, λb qs e => ?_⟩ ?_
      · have hb := AT e
        rw [aF (BD (A3 hb (AV v (B7 L)))), aF (BD (A3 hb v))]; exact n
      · by_cases z : b = P0
        · subst z; exact⟨_, AE _ P⟩
        · exact⟨o, AE _ (U b o z e)⟩
      · rw [aF (G b _ e).2, aF (G b _ e).1]; exact e
      · rw [aF (G b _ e).2, aF (G b _ e).1]; exact e
      · rw [aF (G b _ e).2, aF (G b _ e).1]; exact e
      · exact r.laid (λb u e => AE _ e) (AQ _) (FnO.ok (A0 _ rfl))
    obtain⟨name, qual, params, body, scope⟩ := S
    cases body with
    | stmts body => exact PySem.W.makeFunction_K q I.ok.glob F d C i J y K V k
    | expr body => exact PySem.W.kla_makeFunction q I.ok.glob F d C i J y K V λj a h' m => k j a .none h' m
  · have k : ∀ (a doc : V9) (h' : H9) (m : Tok), (∀ b o, s.heap.get? b = some o -> h'.get? b = some o) -> s.heap.objs.size <= h'.objs.size ->
        Q (.ref h'.objs.size) { s with heap := h'.push (S.obj cl doc ((X.mg "__name__").getD .none) c a), toks := m } := by
      intro a doc h' m hk N
      refine h h'.objs.size c cl doc ((X.mg "__name__").getD .none) a H _ (.inl ⟨hc, rfl⟩) (I.hok.fresh N) R ?_
      exact I.laid (λb u e => AE _ (hk b u e)) N (FnO.ok (A0 _ rfl))
    obtain⟨name, qual, params, body, scope⟩ := S
    cases body with
    | stmts body => exact PySem.W.makeFunction_hit q I.ok.glob F d C i J hf V k
    | expr body => exact PySem.W.kla_makeFunctionHit q I.ok.glob F d C i J hf V λa h' m => k a .none h' m
def tMk(cells:L9 (Str×Az))(S:ClSt)(P0:Az)(qs:L9 (Pos×Str)):TE:=λZ H Q=>H P0=some (.tbl qs)/\∀ f c cl doc pm ct H1,Mkd H S.qual c H1->H1 f=none->ClOf cells S.scope cl->Q (.ref f) (upd H1 f (FnO f (S.obj cl doc pm c ct)))
theorem vT(b:X.env.code=.ref c0)(T:Tb X.mg X.base c0 P0)(d:qualnameIn X.env x x=q)(w:(pos,q)∈qs)
  (B:∀ p∈qs,p.1.line=pos.line->p.1.col=pos.col->p.2=q) (a:∀ y∈scope.names,y.2=.free->X.env.kindOf y.1=some .cell\/X.env.kindOf y.1=some .free)
  (k:params.defaults=[]) (j:params.kw_defaults=[]) (m:annTrees params none X.env=[])
  (hN:X.N.Nodup) (hi:X.N[i]? = some x) (hx:Loc X.env.scope x) (n:X.fn x=true\/X.env.scope.names.lookup x=some .local:=by exact .inl rfl) :
  PS X (.FunctionDef x params body [] none [] scope none x pos) (kQ (tMk X.env.cells ⟨x,q,params,.stmts body,scope⟩ P0 qs) (kB i)):=by
 intro a0 s Z H D I h
 obtain⟨A,h⟩:=h
 refine PySem.W.nestDef_K k j m ?_
 rw[d]
 refine aDH (S:=⟨x,q,params,.stmts body,scope⟩) I b T A w B (λy u e=>I.ok.has _ (a y u e)) λf c cl doc pm ct H1 s' l r t o=>?_
 exact o8 o hN hi hx (v:=.ref f) rfl (λz g=>⟨_,_,g,h f c cl doc pm ct H1 l r t⟩) n
theorem aHJ{body:E2}(b:X.env.code=.ref c0)(T:Tb X.mg X.base c0 P0)(e:X.env.qual++("<lambda>":Str)=q)(n:(pos,q)∈qs)
  (r:∀ p∈qs,p.1.line=pos.line->p.1.col=pos.col->p.2=q) (a:∀ y∈scope.names,y.2=.free->X.env.kindOf y.1=some .cell\/X.env.kindOf y.1=some .free)
  (d:defaultsOf params X.env=([],[])) :
  PE X (.Lambda params body scope pos) (tMk X.env.cells ⟨"<lambda>",q,params,.expr body,scope⟩ P0 qs):=by
 intro a0 s Z H Q I h
 obtain⟨o,h⟩:=h
 refine PySem.W.kla_eval d ?_
 rw[e]
 exact aDH (S:=⟨"<lambda>",q,params,.expr body,scope⟩) I b T o n r (λy m g=>I.ok.has _ (a y m g)) λf c cl doc pm ct H1 s' i k l j=>⟨.ref f,_,j,rfl,h f c cl doc pm ct H1 i k l⟩
end
abbrev Cv:=L9 (Az×Obj×V)
noncomputable def pub(cv:Cv)(H:Hp):Hp:=λb=>match cv.lookup b with
 | some p=>some (dI b p.1 p.2)
 | none=>H b
noncomputable def cJ(cv:Cv):L9 Az:=cv.map (·.1)
theorem hZ{c:Cv}:b∈cJ c↔∃ p,c.lookup b=some p:=by
 unfold cJ
 induction c with
 | nil=>simp
 | cons a r ih=>
  obtain⟨x,p⟩:=a
  rw[AZ,AW,ih,CS]
  by_cases h:b=x
  .subst h;simp
  .rw[DY h]
   simp[h]
theorem qU{a:Cv}{H:Hp}{p:Obj×V}(h:a.lookup b=some p):pub a H b=some (dI b p.1 p.2):=by unfold pub;rw[h]
theorem dJ{a:Cv}(h:b∉cJ a):pub a H b=H b:=by
 unfold pub
 cases e:a.lookup b with
 | none=>rfl
 | some p=>exact absurd (hZ.mpr ⟨p,e⟩) h
theorem kT{a:Cv}(c:∀ b∈cJ a,H b=none):aD H (pub a H):=λb o e=>by
 rw[dJ λz=>by rw[c b z]at e;cases e];exact e
theorem aMX{w:W9}{fs:L9 Az}{d:Cv}{H1:Hp}{h:H9}(j:∀ b∈cJ d,H b=none)(k:HOk P w (pub d H) h)(un:Un fs [] (pub d H) H1 h h')(hk1:HOk P w H1 h') :
  Un fs [] H (hid (cJ d) H1) h h'/\HOk P w (hid (cJ d) H1) h':=by
 have inn:∀ b,b∈cJ d->∃ o v,h.get? b=some o/\h'.get? b=some o/\H1 b=some (dI b o v):=λb a=>by
  obtain⟨⟨o,v⟩,e⟩:=hZ.mp a
  have z:=qU (H:=H) e
  have i:=un.frzs b o _ z
  exact⟨o,v,(dI.get k z).1,(dI.get hk1 i).1,i⟩
 have out:∀ b u,H b=some u->b∉cJ d:=λb u e z=>by rw[j b z]at e;cases e
 refine⟨⟨λb o e n h1 h2=>?_,λb o e n h1 h2=>?_,λb o e n h2=>?_,un.there,λb xs q=>?_,λb o u q=>?_,λb ps q=>?_⟩,λb u e=>?_⟩
 .by_cases a:b∈cJ d
  .grind
  .exact un.keep b o e (by rw[dJ a];exact n) h1 h2
 .by_cases a:b∈cJ d
  .obtain ⟨o',v,g,l,_⟩:=inn b a
   rw[e]at g;cases g;exact⟨o.slots,l⟩
  .exact un.slot b o e (by rw[dJ a];exact n) h1 h2
 .by_cases a:b∈cJ d
  .exact oE a
  .rw[bB a];exact un.free b o e (by rw[dJ a];exact n) h2
 .have a:=out b _ q
  rw[bB a];exact un.tups b xs (by rw[dJ a];exact q)
 .have a:=out b _ q
  rw[bB a];exact un.frzs b o u (by rw[dJ a];exact q)
 .have a:=out b _ q
  rw[bB a];exact un.tbls b ps (by rw[dJ a];exact q)
 .obtain ⟨e1,a⟩:=pC e
  have f:∀ c o,H1 c=some o->(∀ o' v,o≠dI c o' v)->c∉cJ d:=λc o q n z=>by
   ext
  exact(hk1 b u e1).stay (λ_ _ _ q=>q) (λc q=>by rw[bB (f c _ q λ_ _ z=>nomatch z)];exact q) (λc _ q=>by rw[bB (f c _ q λ_ _ z=>nomatch z)];exact q) λc _ q=>by rw[bB (f c _ q λ_ _ z=>nomatch z)];exact q
structure PubRel(X:Cx)(Z:St)(H:Hp)(js:List Nat)(cv:Cv):Prop where
 at':∀ b o v,cv.lookup b=some (o,v)->∃ x j,j∈js/\X.N[j]? = some x/\X.env.cells.lookup x=some b/\Z[j]? = some (some v)
 all:∀ j∈js,∃ x c o v,X.N[j]? = some x/\X.env.cells.lookup x=some c/\Z[j]? = some (some v)/\cv.lookup c=some (o,v)
 free:∀ b∈cJ cv,H b=none
 inj:∀ x y c,X.env.cells.lookup x=some c->X.env.cells.lookup y=some c->x=y
section
variable{X:Cx}{a0:L9 (Az×Obj)}{Z:St}{H:Hp}{s:S9}
def aAW(X:Cx)(Z:St)(j:Nat):Prop:=∃ x v,X.N[j]? = some x/\X.env.kindOf x=some .cell/\X.fn x=true/\Z[j]? = some (some v)
theorem aHK(I:Inv X a0 Z H s):∀ (js:L9 Nat),(∀ j∈js,aAW X Z j)->∃ cv,PubRel X Z H js cv/\∀ b o v,cv.lookup b=some (o,v)->(∃ u,s.heap.get? b=some o/\o.data=.cell (some u)/\aP v u)/\X.s₀.heap.objs.size<=b/\∃ x,X.env.cells.lookup x=some b
 | [],_=>⟨[],⟨λb o v e=>by simp at e,λj hj=>by simp at hj,λb hb=>by simp[cJ]at hb,I.ok.inj⟩,λb o v e=>by simp at e⟩
 | j::js,hj=>by
  obtain⟨cv,R,ok⟩:=aHK I js λA h'=>hj A (AS _ h')
  obtain⟨x,v,n,f,O,q⟩:=hj j AU
  obtain⟨m,T,K⟩:=I.loc
  obtain⟨u,r,l⟩:=K j x v n q (.inr (.inl f))
  rcases l with ⟨g,_⟩|⟨_,c,d,o,J,F⟩
  .rw[f]at g;cases g
  .have h:=I.ok.cab x c O d
   by_cases i:c∈cJ cv
   .obtain ⟨⟨o',a⟩,e⟩:=hZ.mp i
    obtain⟨p,A,Q,E,D,B⟩:=R.at' c o' a e
    have t:x=p:=I.ok.inj x p c d D
    subst t
    refine⟨cv,⟨λb o v e=>?_,λk f=>?_,R.free,R.inj⟩,ok⟩
    .obtain ⟨x,j,h1,h2⟩:=R.at' b o v e
     exact⟨x,j,AS _ h1,h2⟩
    .rcases AW.mp f with z|z
     .subst z
      obtain⟨U,r2,V⟩:=K A x a E B (.inr (.inl (by assumption)))
      obtain⟨⟨N,M,L,S⟩,_⟩:=ok c o' a e
      rw[J]at M;cases M
      rw[F]at L
      have:u=N:=by cases L;rfl
      subst this
      have y:v=a:=aP.inj r S
      subst y
      exact⟨x,c,_,v,n,d,q,e⟩
     .exact R.all k z
   .refine ⟨(c,o,v)::cv,⟨λb o' a e=>?_,λk f=>?_,λb hb=>?_,R.inj⟩,λb o' a e=>?_⟩
    .rw[CS]at e
     by_cases hb:b=c
     .subst hb
      simp only[EC]at e
      cases e
      exact⟨x,j,AU,n,d,q⟩
     .rw[DY hb]at e
      obtain⟨x,j,h1,h2⟩:=R.at' b o' a e
      exact⟨x,j,AS _ h1,h2⟩
    .rcases AW.mp f with z|z
     .subst z
      exact⟨x,c,o,v,n,d,q,by rw[CS];simp⟩
     .obtain ⟨p,G,o',a,h1,h2,P,w⟩:=R.all k z
      refine⟨p,G,o',a,h1,h2,P,?_⟩
      rw[CS,DY (show G≠c from λz=>by rw[z]at w;exact i (hZ.mpr ⟨_,w⟩))];exact w
    .have C:b=c\/b∈cJ cv:=by simpa[cJ] using hb
     rcases C with z|z
     .subst z;exact I.freeC x b d
     .exact R.free b z
    .rw[CS]at e
     by_cases hb:b=c
     .subst hb
      simp only[EC]at e
      cases e
      exact⟨⟨u,J,F,r⟩,h,x,d⟩
     .rw[DY hb]at e
      exact ok b o' a e
theorem aOB(I:Inv X a0 Z H s){js:L9 Nat}{d:Cv}(R:PubRel X Z H js d)(ok:∀ b o v,d.lookup b=some (o,v)->(∃ u,s.heap.get? b=some o/\o.data=.cell (some u)/\aP v u)/\X.s₀.heap.objs.size<=b/\∃ x,X.env.cells.lookup x=some b) :
  Env0 X.prog X.w X.K X.mg X.base X.A X.stack s (pub d H) where
 frames:=I.ok.frames
 mod:=I.ok.mod
 bs:=λb o e=>⟨(I.bs b o e).1,by
  rw[dJ]
  .exact (I.bs b o e).2
  .intro z
   obtain⟨⟨o',v⟩,q⟩:=hZ.mp z
   have h1:=(ok b o' v q).2.1
   have h2:=AT e
   exact absurd (A3 h2 (AV I.ok.bsz h1)) (B4 _)⟩
 bsz:=AV I.ok.bsz I.sz
 funs:=I.stack
 frf:=λb a=>by
  rw[dJ]
  .exact I.stkFree b a
  .intro z
   obtain⟨⟨o',v⟩,q⟩:=hZ.mp z
   obtain⟨_,h1,x,g⟩:=ok b o' v q
   rcases AW.mp (I.stkSub b a)with f|f
   .exact I.cne x b g f
   .obtain ⟨_,o,h,_⟩:=I.ok.funs.mem f
    exact absurd (A3 (AT h) h1) (B4 _)
 hok:=λb u e=>by
  by_cases a:b∈cJ d
  .obtain ⟨⟨o,v⟩,q⟩:=hZ.mp a
   rw[qU q]at e;cases e
   obtain⟨⟨u,h1,h2,i⟩,_⟩:=ok b o v q
   exact dI.ok i h1 h2
  .rw[dJ a]at e
   exact(I.hok b u e).stay (λ_ _ _ q=>q) (λc q=>kT R.free _ _ q) (λc _ q=>kT R.free _ _ q) λc _ q=>kT R.free _ _ q
 bare:=I.bare
def aHL(X:Cx)(js:L9 Nat)(sp:Sp)(E:XK)(t:TA):TE:=λZ H Q=>t Z H λvs H1=>(∀ j∈js,aAW X Z j)/\∀ cv,PubRel X Z H1 js cv->sp vs (pub cv H1) (λv H2=>Q v (hid (cJ cv) H2)) (λc e H2=>E c e (hid (cJ cv) H2)/\∀ a,e=some a->a∉cJ cv)
theorem vU{sp:Sp}{E:XK}{p pos:Pos}{t:TA}{js:L9 Nat}(C:Calls X.prog X.w X.K X.mg X.base (CXe X.prog X.w) k x ps sp)(hr:Room k X.A)(M:Gl X x)(hx:lK (CXe X.prog X.w) X E)(J:PA X (e::es) t)(l:(x == ("__debug__":Str))=false:=by decide)
  (he:starEach (e::es) X.env=(false,eval e X.env)::starEach es X.env:=by rfl) (hpl:(backTo pos (starEach es X.env)).any (·.1)=false:=by rfl):PE X (.Call (.Name x p) (e::es) [] pos) (aHL X js sp E t):=by
 obtain⟨f,fd,F,b,m,L⟩:=C
 intro a0 s Z H Q I h
 refine CN (mB I M m ?_ l)
 refine DX (h₀:=X.base) I.ok.mod.kin L (thn (J pos a0 s Z H _ I h) λus s1 ⟨vs,H1,g,r,z,q⟩=>⟨g.kIn,?_⟩) he hpl
 obtain⟨o,R,ok⟩:=aHK g js z
 have i:=q o R
 have e0:=aOB g R ok
 have N:us.length=ps.length:=by rw[<-r.length];exact F.len _ _ _ _ i
 have B:=b s1 us g.kIn (by simpa using N)
 rw[C0]at B
 refine GJ (EM (F.run X.A X.stack s1 _ ⟨us,[]⟩ us vs _ _ hr e0 B r i) λU s' j=>?_)
 cases U with
 | error ev=>
  obtain⟨e,C,od,H',rfl,os,c,un,hok,n,⟨y,T,S,P,D⟩,W,O⟩:=j
  obtain⟨d,a⟩:=aMX R.free e0.hok un hok
  refine hx a0 Z H1 s1 (.ref e) s' g ⟨e,C,od,hid (cJ o) H',rfl,os,c,d,a,?_,⟨y,T,S,P,λt e1=>?_⟩,W⟩
  .rw[bB (O e rfl)];exact n
  .exact ⟨iP (D t e1).1,(D t e1).2⟩
 | ok fl=>
  cases fl with
  | ret u=>
   obtain⟨v,H',os,c,un,hok,G,V⟩:=j
   obtain⟨d,a⟩:=aMX R.free e0.hok un hok
   exact g.after ⟨v,hid (cJ o) H',os,c,d,a,G,V⟩
  | next=>exact False.elim j
  | brk=>exact False.elim j
  | cont=>exact False.elim j
end
noncomputable def aAX(Ps:L9 Az)(qs:L9 (Pos×Str)):Hp:=λb=>if b∈Ps then some (.tbl qs)else none
def aAY(mg:Str->O9 V9)(h base:H9)(T:Hp)(qs:L9 (Pos×Str))(xs:L9 Str):Prop:=
 ∀ x∈xs,∃ c0 P0,T P0=some (.tbl qs)/\Tb mg base c0 P0/\∀ f o fd,mg x=some (.ref f)->h.get? f=some o->o.data=.func fd->fd.code=.ref c0
theorem aHM{w:W9}{mb:Str->O9 V9}{CX:CXT}{fa:Az}{fd:FuncData}{c:S9}{qs:L9 (Pos×Str)}{xs:L9 Str}{tb:Str->Az×Az}
  (Y:∀ x∈xs,CodeHd c.heap (tb x).1 (tb x).2/\c.heap.get? (tb x).2=some (tabObj #[])) (ai:∀ x∈xs,∀ f o fd,mg x=some (.ref f)->c.heap.get? f=some o->o.data=.func fd->fd.code=.ref (tb x).1)
  (ak:∃ bm ob,mg "__builtins__"=some (.ref bm)/\bm≠builtinsNs/\c.heap.get? bm=some ob/\ob.cls=.type "module"/\ob.dict=some builtinsNs/\ob.data=.plain) (hNT:noTabs K=true)
  (KX:K.In c.heap) (R:c.heap.Ns mainGlobals mg) (hb:c.heap.Ns builtinsNs mb) (ad:∀ x:Str,x≠"__name__"->mb x=bootBuiltins x) (O:c.heap.NoLimit) (hg:c.gens = #[])
  (X:c.heap.get? a=some {cls:=.type "list",data:=.seq vs.toArray}) (hi:IntsAre vs ns) (hl:ns.length<=sizeLine) (hr:Room k callerA)
  (F:∀ (base:H9) (T:Hp),K.In base->base.Ns mainGlobals mg->aAY mg c.heap base T qs xs->∃ sp,FnOk P w K mg base CX k fa fd [x] sp/\∀ H:Hp,aD T H->SqL K H a (ns.map V.int)->sp [.ref a] H (λv _=>v=.bl true) λ_ _ _=>False) (hbind:∀ (s:S9) (u:V9),BindsTo s fd ⟨[u],[]⟩ [(x,u)])
  (hCX:∀ H e s',CX [] H c (λ_ _ _=>False) e s'->False) :
  codeAny (model P w) callerA (.call (.ref fa) ⟨[.ref a],[]⟩) (λr s'=>r=.ok (.ret (.bool true))/\OldK c.heap s'.heap/\s'.os=c.os/\AllBare s'.gens) c:=by
 have rv:=yX hi
 have J:=hi.length
 let Ps:L9 Az:=xs.map λx=>(tb x).2
 have l:∀ b∈Ps,c.heap.get? b=some (tabObj #[])/\isCodeTable c.heap b:=λb hb=>by
  obtain⟨y,I,rfl⟩:=AN.mp hb
  exact⟨(Y y I).2,((Y y I).1.tab (Y y I).2).isCodeTable⟩
 have E:a∉Ps:=λz=>by have:=(l a z).1;rw[X]at this;cases this
 have aj:∀ b∈Ps,K.lookup b=none:=λb hb=>by
  cases e:K.lookup b with
  | none=>rfl
  | some o=>
   have e2:=KX b o e
   rw[(l b hb).1]at e2
   cases e2
   have h2:=BI.mp hNT (b,_) (PySem.W.mem_of_lookupK e)
   ext
 have C:∀ H:Hp,(∀ b∈Ps,H b=some (.tbl qs))->(∀ b,H b≠none->b=a\/b∈Ps)->(H a=none\/∃ o xs,H a=some (.frz o (.lst xs)))->SqL K H a (ns.map V.int)->HOk P w H c.heap->(H a≠none->K.lookup a=none)->
   codeAny (model P w) callerA (.call (.ref fa) ⟨[.ref a],[]⟩) (λr s'=>r=.ok (.ret (.bool true))/\OldK c.heap s'.heap/\s'.os=c.os/\AllBare s'.gens) c:=by
  intro H hP hA hO hS N hK
  have g:∀ {b:Az} {o:Obj},c.heap.get? b=some o->H b=none->(n4 c.heap H).get? b=some o:=λe n=>aJ0 e n
  have i:∀ {b:Az} {o:Obj},c.heap.get? b=some o->(∀ vs,o.data≠.seq vs)->o≠tabObj #[]->H b=none:=λ{b o} e d d2=>by
   ext
  have ae:∀ {b:Az} {o:Obj} {es:Array DictEntry} {ep:Nat},c.heap.get? b=some o->o.data=.dict es ep->H b=none:=λ{b o es ep} e d=>i e (λvs z=>by rw[d]at z;cases z) λz=>by rw[z]at d;cases d
  have B:∀ {b:Az} {m:Str->O9 V9},c.heap.Ns b m->(n4 c.heap H).Ns b m:=λ{b m} ⟨o,es,ep,e,d,r⟩=>⟨o,es,ep,g e (ae e d),d,r⟩
  have Q:K.In (n4 c.heap H):=λb o e=>g (KX b o e) (by
   cases q:H b with
   | none=>rfl
   | some u=>
    rcases hA b (by rw[q];simp)with e'|e'
    .grind
    .rw[aj b e']at e;cases e)
  have hM:Mod K mg (n4 c.heap H):=⟨Q,B R,⟨mb,B hb,ad⟩,let ⟨mc,h1,h2⟩:=O;⟨mc,B h1,h2⟩⟩
  have e0:Env0 P w K mg (n4 c.heap H) callerA [] c H:=⟨rfl,hM,λb o e=>aNQ e,EO (aGP _ _),trivial,λb hb=>absurd (show b∈([]:L9 Az)from hb) (by simp),N,.of_eq hg⟩
  have ag:aAY mg c.heap (n4 c.heap H) (aAX Ps qs) qs xs:=λy I=>by
   refine⟨(tb y).1,(tb y).2,AJ (AN.mpr ⟨y,I,rfl⟩),⟨?_,?_⟩,ai y I⟩
   .obtain ⟨o,vs,U,tf,G,tg,af,L,tt,e1,r1,r2,r3⟩:=(Y y I).1
    exact⟨o,vs,U,tf,G,tg,af,L,tt,g e1 (i e1 (λvs z=>by rw[r2]at z;cases z) λz=>by rw[z]at r1;cases r1),r1,r2,r3⟩
   .grind
  have ac:aD (aAX Ps qs) H:=λb o e=>by
   unfold aAX at e
   ext
  obtain⟨sp,FO,ah⟩:=F _ _ Q (B R) ag
  refine EM (FO.run callerA [] c H ⟨[.ref a],[]⟩ [.ref a] [.ref a] _ _ hr e0 (hbind c (.ref a)) (.cons rfl .nil) (ah H ac hS)) λr s' h=>?_
  cases r with
  | error e=>exact(hCX H e s' h).elim
  | ok fl=>
   cases fl with
   | next=>exact False.elim h
   | brk=>exact False.elim h
   | cont=>exact False.elim h
   | ret u=>
    obtain⟨v,H',os,S,un,t,r',q⟩:=h
    have q':v=.bl true:=q
    subst q'
    obtain rfl:u=Value.bool true:=r'
    have kept:∀ b o,c.heap.get? b=some o->b∉Ps->s'.heap.get? b=some o:=λb o e hb=>by
     cases q:H b with
     | none=>exact un.keep b o e q (by intro z;exact absurd (show b∈([]:L9 Az)from z) (by simp)) (by simp)
     | some u=>
      rcases hA b (by rw[q];simp)with z|z
      .subst z
       rcases hO with z|⟨ob,xs,z⟩
       .grind
       .have M:=un.frzs b ob _ z
        obtain⟨e1,_⟩:=N b _ z
        obtain⟨e2,_⟩:=t b _ M
        ext
      .grind
    refine⟨rfl,⟨λb o e=>?_,λb o e=>?_⟩,os,S⟩
    .by_cases hb:b∈Ps
     .obtain ⟨ps,e2,_⟩:=(show bI P w H' s'.heap b (.tbl qs)from t b _ (un.tbls b _ (hP b hb)))
      have e1:=(l b hb).1
      rw[e]at e1;cases e1
      exact .inr (.inl ⟨(l b hb).2,rfl,#[],ps,rfl,by rw[Array.empty_append];exact e2⟩)
     .exact .inl (kept b o e hb)
    .by_cases hb:b∈Ps
     .obtain ⟨ps,e2,_⟩:=(show bI P w H' s'.heap b (.tbl qs)from t b _ (un.tbls b _ (hP b hb)))
      ext
     .grind
 have A:∀ (H:Hp) b,b∈Ps->bI P w H c.heap b (.tbl qs):=λH b hb=>⟨#[],(l b hb).1,trivial,λp _=>.inl rfl⟩
 cases Z:K.lookup a with
 | some o=>
  have e:=KX a o Z
  rw[X]at e
  cases e
  refine C (aAX Ps qs) (λb hb=>AJ hb) (λb z=>?_) (.inl (AM E)) (.inr ⟨_,vs.toArray,_,Z,rfl,rfl,rfl,by rw[A6,J];exact hl,by simpa using rv⟩) (λb u z=>?_) λz=>absurd (AM E) z
  .by_cases hb:b∈Ps
   .grind
   .exact absurd (AM hb) z
  .by_cases hb:b∈Ps
   .have D:=(AJ hb).symm.trans z
    cases D
    exact A _ b hb
   .have D:=(AM hb).symm.trans z
    cases D
 | none=>
  refine C (λb=>if b=a then some (.frz {cls:=.type "list",data:=.seq vs.toArray} (.lst (ns.map V.int)))else aAX Ps qs b) (λb hb=>?_) (λb z=>?_) (.inr ⟨_,_,AJ rfl⟩) (.inl (.inr ⟨{cls:=.type "list",data:=.seq vs.toArray},AJ rfl⟩)) (λb u z=>?_) λ_=>Z
  .rw[AM (show ¬ b=a from λz=>E (by rw[<-z];exact hb))];exact AJ hb
  .by_cases hb:b=a
   .exact .inl hb
   .rw[AM hb]at z
    by_cases j:b∈Ps
    .exact .inr j
    .exact absurd (AM j) z
  .by_cases hb:b=a
   .have D:=(AJ hb).symm.trans z
    cases D
    subst hb
    exact⟨X,by rw[AA];exact hl,vs,_,rv,X⟩
   .have D:=(AM hb).symm.trans z
    by_cases j:b∈Ps
    .have M:=(AJ j).symm.trans D
     cases M
     exact A _ b j
    .have M:=(AM j).symm.trans D
     cases M
theorem aOC{p:P9}{b:L9 Str}{g:ExcName->O9 V9}{n:Str->O9 V9}{h:H9}(T:Top p b g mg n h)(xs:L9 Str)(hx:∀ x∈xs,∃ d∈recsOf p,d.name=x) :
  ∃ tb:Str->Az×Az,(∀ x∈xs,CodeHd h (tb x).1 (tb x).2/\h.get? (tb x).2=some (tabObj #[]))/\∀ x∈xs,∀ f o fd,mg x=some (.ref f)->h.get? f=some o->o.data=.func fd->fd.code=.ref (tb x).1:=by
 have e:∀ x,∃ t:Az×Az,x∈xs->(CodeHd h t.1 t.2/\h.get? t.2=some (tabObj #[]))/\∀ f o fd,mg x=some (.ref f)->h.get? f=some o->o.data=.func fd->fd.code=.ref t.1:=λx=>by
  by_cases k:x∈xs
  .obtain ⟨d,j,rfl⟩:=hx x k
   obtain⟨a,o,fd,c,l,h1,h2,r,u,q,i⟩:=T.tab d j
   refine⟨(c,l),λ_=>⟨⟨PySem.W.CodeHd.of q i,i.2⟩,λf o' m e1 e2 s=>?_⟩⟩
   simp_all
  .simp_all
 exact⟨λx=>(e x).choose,λx hx=>((e x).choose_spec hx).1,λx hx=>((e x).choose_spec hx).2⟩
theorem walk_ofT{l:OpenLaw}{n:Nat}{c:L9 Str}{O:(Str->O9 V9)->H9->Prop}{C:W9->H9->Prop}{d:DefRec}{K:Params->Frag}{CX:W9->CXT}{qs:L9 (Pos×Str)}{xs:L9 Str}
  (B:∀ x∈xs,∃ d∈recsOf q,d.name=x) (hNT:∀ w:W9,noTabs (K w.params)=true)
  (E:l.most=some n) (t:n<=sizeLine) (z:d.params.defaults=[]) (hr:Room k callerA)
  (N:∀ (w:W9) (h:H9),C w h->(K w.params).In h)
  (F:∀ (w:W9) (mg:Str->O9 V9) (fa:Az) (h:H9),(K w.params).In h->h.Ns mainGlobals mg->mg d.name=some (.ref fa)->
   ∃ fd:FuncData,(∀ (s:S9) (u:V9),BindsTo s fd ⟨[u],[]⟩ [(x,u)]) /\
    ∀ (base:H9) (T:Hp),(K w.params).In base->base.Ns mainGlobals mg->aAY mg h base T qs xs->∃ sp,FnOk l.prog w (K w.params) mg base (CX w) k fa fd [x] sp /\
     ∀ (H:Hp) (a:Az) (ns:L9 Int),ns.length<=n->aD T H->SqL (K w.params) H a (ns.map V.int)->sp [.ref a] H (λv _=>v=.bl true) λ_ _ _=>False)
  (r:∀ (w:W9) (H:Hp) (s:S9) (e:V9) (s':S9),CX w [] H s (λ_ _ _=>False) e s'->False) :
  WalkO q c O C l.row.toRowW d [] (λf vs=>PySem.call f vs):=by
 refine Att.attach_call E z λw s₀ j mg Y fa o pm cd doc a vs ns G Yq S Q M y p i m I=>?_
 have D:=N w _ Yq
 obtain⟨fd,J,R⟩:=F w mg fa _ D G.T.g y
 obtain⟨tb,L,A⟩:=aOC G.T xs B
 refine aHM (qs:=qs) L A G.T.bmain (hNT w) D G.T.g G.T.b G.T.builtins G.T.nolimit I p i (AV m t) hr (λbase T X P U=>?_) J λH e s'=>r w H j e s'
 ext
end L2
variable{Q:V9->S9->Prop}{st:Stmt}{n:Nat}{q:E2}{rest:L9 E2}{is:L9 Nat}{ce:L9 (Dz×Dz)}
namespace Fl
mutual
noncomputable def eO:Dz->Bool
 | .none=>true
 | .int _=>true
 | .str x=>PyData.strOk x
 | .tuple xs=>cE xs
 | _=>false
noncomputable def cE:L9 Dz->Bool
 | []=>true
 | x::t=>eO x && cE t
end
mutual
noncomputable def iH(w:W9):Dz->Int
 | .none=>reduceHash 0xFCA86420
 | .int i=>hashInt i
 | .str x=>hashStr w x
 | .tuple xs=>reduceHash (Builtin.Tuple.tupleHashOf (mD w xs))
 | _=>0
noncomputable def mD(w:W9):L9 Dz->L9 Int
 | []=>[]
 | x::t=>iH w x::mD w t
end
mutual
noncomputable def f8:Dz->Nat
 | .tuple xs=>mP xs+1
 | _=>1
noncomputable def mP:L9 Dz->Nat
 | []=>0
 | x::t=>f8 x+mP t
end
mutual
theorem oF:∀ {d:Dz},eO d=true->d.canLay0=true
 | .none,_=>rfl
 | .int _,_=>rfl
 | .str x,h=>h
 | .tuple xs,h=>by
  have h':cE xs=true:=h
  exact aAZ h'
theorem aAZ:∀ {xs:L9 Dz},cE xs=true->PyData.canLayAll0 xs=true
 | [],_=>rfl
 | x::t,h=>by
  have h':(eO x && cE t)=true:=h
  rw[A1]at h'
  show(x.canLay0 && PyData.canLayAll0 t)=true
  rw[oF h'.1,aAZ h'.2];rfl
end
mutual
theorem xS:∀ {d e:Dz},eO d=true->eO e=true->(PyData.eqv d e=true↔d=e)
 | .none,e,_,he=>by cases e<;>simp[PyData.eqv]<;>cases he
 | .int i,e,_,he=>by cases e<;>simp[PyData.eqv]<;>cases he
 | .str x,e,_,he=>by cases e<;>simp[PyData.eqv]<;>cases he
 | .tuple xs,e,hd,he=>by
  have hd':cE xs=true:=hd
  cases e with
  | tuple ys=>
   have a:cE ys=true:=he
   have:=aA0 hd' a
   show PyData.eqvAll xs ys=true↔_
   rw[this]
   exact⟨λz=>by rw[z],λz=>by cases z;rfl⟩
  | _=>simp[PyData.eqv]<;>cases he
theorem aA0:∀ {xs ys:L9 Dz},cE xs=true->cE ys=true->(PyData.eqvAll xs ys=true↔xs=ys)
 | [],ys,_,_=>by cases ys<;>simp[PyData.eqvAll]
 | x::t,ys,hx,hy=>by
  have hx':(eO x && cE t)=true:=hx
  rw[A1]at hx'
  cases ys with
  | nil=>simp[PyData.eqvAll]
  | cons y u=>
   have c:(eO y && cE u)=true:=hy
   rw[A1]at c
   rw[PyData.eqvAll,A1,xS hx'.1 c.1,aA0 hx'.2 c.2]
   exact⟨λ⟨a,b⟩=>by rw[a,b],λz=>by cases z;exact⟨rfl,rfl⟩⟩
end
noncomputable instance decPyData:DecidableEq Dz:=λa b=>Classical.propDecidable (a=b)
theorem aOD{d e:Dz}(b:eO d=true)(a:eO e=true):PyData.eqv d e=decide (d=e):=by
 by_cases h:d=e
 .rw[AY h,(xS b a).mpr h]
 .rw[A5 h]
  cases q:PyData.eqv d e with
  | false=>rfl
  | true=>exact absurd ((xS b a).mp q) h
theorem aFH(xs:L9 Dz):f8 (.tuple xs)=mP xs+1:=by rw[f8]
theorem yZ(A:U9):A.in1.units=A.units+1:=rfl
def lM(prog:P9)(w:W9)(E:V9->S9->Prop)(d:Dz):Prop:=∀ (v:V9) (as:L9 Az) (A:U9) (s:S9) (Q:Int->S9->Prop),eO d=true->Reads s.heap v d as->A.units+d.depth < cLine->Q (iH w d) {s with toks:=s.toks+f8 d}->
 wpAny (model prog w) A (pyHash v) Q E s
theorem aR9{prog:P9}{w:W9}{E:V9->S9->Prop}:∀ (xs:L9 Dz) (ih:∀ x∈xs,lM prog w E x) (vs:L9 V9) (as:L9 Az) (A:U9) (s:S9) (b:Array Int) (Q:Array Int->S9->Prop),cE xs=true->ReadsAll s.heap vs xs as->A.units+PyData.depthAll xs < cLine->
  (∀ b',b'.toList=b.toList++mD w xs->Q b' {s with toks:=s.toks+mP xs})->
  wpAny (model prog w) A (forIn vs b λx r=>do let h <-pyHash x;pure PUnit.unit;pure (ForInStep.yield (r.push h))) Q E s:=by
 intro xs
 induction xs with
 | nil=>
  intro ih vs as A s b Q _ x _ h
  cases x
  exact AH (h b (by simp[mD]))
 | cons k xs ih0=>
  intro ih vs as A s b Q c x d h
  cases x with
  | @cons v vs _ _ as bs x1 x2=>
   have a:(eO k && cE xs)=true:=c
   rw[A1]at a
   have g:A.units+max k.depth (PyData.depthAll xs) < cLine:=d
   rw[DM]
   refine AB (AB (ih k AU _ _ A s _ a.1 x1 (by ext) ?_))
   refine AB (AH (AH ?_))
   refine ih0 (λx e=>ih x (AS _ e)) _ _ A {s with toks:=s.toks+f8 k} _ Q a.2 x2 (by ext) λb' f=>?_
   have q:=h b' (by rw[f];simp[mD])
   rw[show mP (k::xs)=f8 k+mP xs by rw[mP],<-Nat.add_assoc]at q
   exact q
theorem y6(w:W9)(i:Int):iH w (.int i)=hashInt i:=by rw[iH]
theorem y7(w:W9)(i:Str):iH w (.str i)=hashStr w i:=by rw[iH]
theorem aHN(w:W9)(xs:L9 Dz):iH w (.tuple xs)=reduceHash (Builtin.Tuple.tupleHashOf (mD w xs)):=by rw[iH]
theorem aFI(i:Int):f8 (.int i)=1:=by unfold f8;rfl
theorem aFJ(i:Str):f8 (.str i)=1:=by unfold f8;rfl
theorem aKN{prog:P9}{w:W9}{E:V9->S9->Prop}(i:Int):lM prog w E (.int i):=λv a A s Q _ r _ h=>by
 rw[y6,aFI]at h
 cases r
 exact wpAny_pyHash_int h
theorem aKO{prog:P9}{w:W9}{E:V9->S9->Prop}(i:Str):lM prog w E (.str i):=λv a A s Q _ r _ h=>by
 rw[y7,aFJ]at h
 cases r
 exact wpAny_pyHash_str h
theorem aKP{prog:P9}{w:W9}{E:V9->S9->Prop}(xs:L9 Dz)(i:∀ x∈xs,lM prog w E x):lM prog w E (.tuple xs):=λv d A s Q e r f h=>by
 rw[aHN,aFH]at h
 cases r with
 | @tuple a o vs n _ d h1 h2 h3 h4=>
  have c:cE xs=true:=e
  have j:A.units+(PyData.depthAll xs+1) < cLine:=f
  refine pyHash_slot (T:="tuple") ⟨o,h1,h2⟩ F.slot_tuple_hash F.entry_tuple_hash (F.args_tuple_hash_1 _) (beq_builtin_none _) (.inr (by ext)) ?_
  show wpAny _ _ (Builtin.Tuple.tupleItemsOf (.ref a) >>= _) _ _ s
  refine AB (wpAny_tupleItemsOf h1 h3 ?_)
  refine AB ?_
  rw[<-Array.forIn_toList]
  refine aR9 xs i vs.toList d A.in1 s #[] _ c h4 (by rw[yZ];ext) λb g=>?_
  show wpAny _ _ (retInt (Builtin.Tuple.tupleHashOf b.toList)) _ _ _
  rw[g]
  exact AB (wpAny_mkInt (AH ⟨_,_,rfl,h⟩))
theorem aFK(w:W9):iH w .none=reduceHash 0xFCA86420:=by rw[iH]
theorem aCY:f8 .none=1:=by unfold f8;rfl
theorem aKQ{prog:P9}{w:W9}{E:V9->S9->Prop}:lM prog w E .none:=λv b A s Q _ r c h=>by
 rw[aFK,aCY]at h
 generalize a:reduceHash 0xFCA86420=g at h
 cases r
 refine pyHash_slot (T:="NoneType") rfl F.slot_NoneType_hash F.entry_NoneType_hash (F.args_NoneType_hash_1 _) (beq_builtin_none _) (.inr (by ext)) (AB (AH (AB (wpAny_mkInt (AH ⟨0xFCA86420,_,rfl,?_⟩)))))
 rw[a]
 exact h
theorem aSA{prog:P9}{w:W9}{E:V9->S9->Prop}:∀ (n:Nat) (d:Dz),sizeOf d<=n->lM prog w E d:=by
 intro n
 induction n with
 | zero=>intro d h;cases d<;>simp at h
 | succ n ih=>
  intro d h
  cases d with
  | none=>exact aKQ
  | int i=>exact aKN i
  | str x=>exact aKO x
  | tuple xs=>
   refine aKP xs λx e=>ih x ?_
   have:=List.sizeOf_lt_of_mem e
   ext
  | bool b=>exact λv c A s Q a=>nomatch a
  | list xs=>exact λv c A s Q a=>nomatch a
  | dict xs=>exact λv c A s Q a=>nomatch a
theorem aSB{prog:P9}{w:W9}{E:V9->S9->Prop}(d:Dz):lM prog w E d:=aSA (sizeOf d) d (AQ _)
theorem aOE{M:Model}{A:U9}{E:V9->S9->Prop}{s:S9}:∀ (n:Nat) (d:Dz) (v:V9) (as:L9 Az) (Q:Bool->S9->Prop),eO d=true->Reads s.heap v d as->d.depth<=n->Q true s->wpAny M A (eqIsQuiet n v) Q E s:=by
 intro n
 induction n with
 | zero=>
  intro d v as Q c r f h
  cases d with
  | none=>cases r;rw[DQ _ rfl];exact AH h
  | int i=>cases r;rw[DQ _ rfl];exact AH h
  | str x=>cases r;rw[DQ _ rfl];exact AH h
  | tuple xs=>
   have g:PyData.depthAll xs+1<=0:=f
   ext
  | bool b=>exact nomatch c
  | list xs=>exact nomatch c
  | dict xs=>exact nomatch c
 | succ n ih=>
  intro d v as Q c r f h
  cases d with
  | none=>cases r;rw[DQ _ rfl];exact AH h
  | int i=>cases r;rw[DQ _ rfl];exact AH h
  | str x=>cases r;rw[DQ _ rfl];exact AH h
  | bool b=>exact nomatch c
  | list xs=>exact nomatch c
  | dict xs=>exact nomatch c
  | tuple xs=>
   cases r with
   | @tuple a o vs m _ as h1 h2 h3 h4=>
    have j:cE xs=true:=c
    have g:PyData.depthAll xs+1<=n+1:=f
    have k:s.TypeIs (.ref a) "tuple":=⟨o,h1,h2⟩
    unfold eqIsQuiet
    refine AB (E8 k F.slot_tuple_eq.lookup ?_)
    show wpAny _ _ (isInstance (.ref a) (.type "tuple") >>= _) _ _ s
    refine AB (wpAny_isInstance k isSubtype_tuple_tuple ?_)
    simp only[HP,CY,D0]
    refine AB (DC h1 h3 ?_)
    refine AB ?_
    show wpAny _ _ (forIn vs _ _) _ _ s
    rw[<-Array.forIn_toList]
    refine wpAny_forIn_list _ (λrest r s'=>r.1=none/\s'=s/\∃ ys bs,cE ys=true/\PyData.depthAll ys<=n/\ReadsAll s.heap rest ys bs) _ ?_ ?_ _ _ ⟨rfl,rfl,xs,_,j,by ext,h4⟩
    .rintro v rest r s' ⟨hr,rfl,ys,bs,hy,hdy,ry⟩
     cases ry with
     | @cons _ _ y yt cs ds r1 r2=>
      have e:(eO y && cE yt)=true:=hy
      rw[A1]at e
      have l:max y.depth (PyData.depthAll yt)<=n:=hdy
      refine AB (ih y v _ _ e.1 r1 (by ext) ?_)
      simp only[HP,CY,D0]
      exact AH ⟨rfl,rfl,yt,_,e.2,by ext,r2⟩
    .rintro ⟨r1,r2⟩ s' ⟨hr,rfl,_⟩
     simp only at hr
     subst hr
     exact AH h
def aWT(h:H9)(d:Dz)(a:Az):Prop:=eO d=true/\d.depth<=8/\∃ as,Reads h (.ref a) d as
theorem aFL{h h':H9}{a:Az}{o:Obj}{es:Array DictEntry}{ep:Nat}(p:h.get? a=some o)(l:o.data=.dict es ep)(m:Heap.SameBut a h h'){v:V9}{d:Dz}{e:L9 Az}(c:eO d=true)(r:Reads h v d e):Reads h' v d e:=by
 refine Reads.rec (motive_1:=λv d e _=>eO d=true->Reads h' v d e) (motive_2:=λvs xs e _=>cE xs=true->ReadsAll h' vs xs e) ?_ ?_ ?_ ?_ ?_ ?_ ?_ ?_ ?_ r c
 .exact λ_=>.none
 .intro b c;cases c
 .exact λi t _=>.int i t
 .exact λi t _=>.str i t
 .intro b o' vs n xs e h1 h2 f j g c;cases c
 .intro b o' vs n xs e h1 h2 f j g c
  exact .tuple ((m.2 b (λz=>by subst z;rw[p]at h1;cases h1;rw[l]at f;cases f)).trans h1) h2 f (g c)
 .intro b o' k n ce e bs h1 h2 f j q i1 i2 c;cases c
 .exact λ_=>.nil
 .intro v vs d ds e bs r1 r2 i1 i2 c
  exact .cons (i1 ((A1 ..).mp c).1) (i2 ((A1 ..).mp c).2)
def jP(prog:P9)(w:W9):HeapKind prog w Dz where
 is:=aWT
 hash:=iH w
 draws:=f8
 room:=λA=>A.units+9 < cLine
 inj:=λ{h a x y} hx hy=>by
  obtain⟨k1,_,as,r1⟩:=hx
  obtain⟨k2,_,bs,r2⟩:=hy
  exact PySem.SeqAt.Reads.unique x y _ _ _ (oF k1) r1 r2
 keeps:=λ{h h' k a d o es ep} hx ho hd hs=>by
  obtain⟨k1,k2,as,r1⟩:=hx
  exact⟨k1,k2,as,aFL ho hd hs k1 r1⟩
 pyHash:=λ{A E s k a Q} hu hk h=>by
  obtain⟨k1,k2,as,r1⟩:=hk
  exact aSB k _ as A s Q k1 r1 (by ext) h
 eqBool:=λ{A E s x y a b Q} hu hx hy h=>by
  obtain⟨k1,k2,as,r1⟩:=hx
  obtain⟨l1,l2,bs,r2⟩:=hy
  refine PySem.SeqAt.eqAt_reads x y A s _ _ as bs r1 r2 (oF k1) (oF l1) ?_ prog w E Q ?_
  .have:min x.depth y.depth<=8:=AV (EJ _ _) k2
   ext
  .rw[aOD k1 l1];exact h
 quiet:=λ{A E s k a Q} hk h=>by
  obtain⟨k1,k2,as,r1⟩:=hk
  exact aOE 8 k _ as Q k1 r1 k2 h
abbrev Ent:=Dz×V×V
def sI(w:W9)(p:Ent)(en:DictEntry):Prop:=en.hash=iH w p.1/\aP p.2.1 en.key/\aP p.2.2 en.val
def dA(w:W9)(a:Az)(es:L9 Ent)(ep:Nat):HO:=.ext λh=>(a == sysModules)=false/\∃ o ar,h.get? a=some o/\o.ExactDict/\o.data=.dict ar ep/\Paired (sI w) es ar.toList
theorem j2{P:P9}{w:W9}{H:Hp}{h:H9}{a:Az}{es:L9 Ent}{ep:Nat}(d:(a == sysModules)=false)(b:∃ o ar,h.get? a=some o/\o.ExactDict/\o.data=.dict ar ep/\Paired (sI w) es ar.toList):bI P w H h a (dA w a es ep):=
 ⟨⟨d,b⟩,let ⟨o,_,e,_⟩:=b;⟨o,e⟩,λh1 h2 ⟨q,o,es,e,r⟩ c=>⟨q,o,es,c _ e,r⟩⟩
noncomputable def eE:Dz->Bool
 | .tuple xs=>eO (.tuple xs) && decide ((PyData.tuple xs).depth<=8)
 | _=>false
noncomputable def jQ:Dz->Bool
 | .int _=>true
 | .str _=>true
 | _=>false
def a7(k:Dz)(ks:L9 Dz):Bool:=(eE k && ks.all eE) || (jQ k && ks.all jQ)
theorem aOF{d:Dz}(h:eE d=true):∃ xs,d=.tuple xs/\eO d=true/\d.depth<=8:=by
 cases d with
 | tuple xs=>
  have h':(eO (.tuple xs) && decide ((PyData.tuple xs).depth<=8))=true:=h
  ext
 | _=>cases h
def iI:Key->Dz
 | .inl i=>.int i
 | .inr x=>.str x
theorem aDI{d:Dz}(h:jQ d=true):∃ k,d=iI k:=by
 cases d with
 | int i=>exact⟨.inl i,rfl⟩
 | str i=>exact⟨.inr i,rfl⟩
 | _=>cases h
theorem y8{a b:Key}(h:iI a=iI b):a=b:=by
 cases a<;>cases b<;>cases h<;>rfl
theorem aDJ{K:Frag}{H:Hp}{v:V}{k:Key}(h:DatV K H v (iI k)):v=kV k:=by
 cases k with
 | inl i=>exact h.int_of
 | inr x=>exact h.str_of
theorem aA1{P:P9}{w:W9}(k:Key):iH w (iI k)=(cX P w).hash k:=by
 cases k with
 | inl i=>exact y6 w i
 | inr x=>exact y7 w x
def xT:Ent->(Dz×Az×V9)->Prop:=λe x=>e.1=x.1/\e.2.1=.ref x.2.1/\aP e.2.2 x.2.2
def xU:Ent->(Key×V9)->Prop:=λe x=>e.1=iI x.1/\e.2.1=kV x.1/\aP e.2.2 x.2
theorem aHO{P:P9}{w:W9}:∀ {es:L9 Ent} {ens:L9 DictEntry},Paired (sI w) es ens->(∀ e∈es,∃ b,e.2.1=.ref b)->∃ xs,ens=xs.map (entryOfKey (jP P w))/\Paired xT es xs
 | _,_,.nil,_=>⟨[],rfl,.nil⟩
 | e::es,en::ens,.cons h t,hb=>by
  obtain⟨xs,h1,h2⟩:=aHO (P:=P) t λe l=>hb e (AS _ l)
  obtain⟨b,c⟩:=hb e AU
  obtain⟨k,j,m⟩:=h
  rw[c]at j
  obtain⟨a,g,f⟩:=en
  have i:g=Value.ref b:=j
  have d:a=iH w e.1:=k
  subst i d
  exact⟨(e.1,b,f)::xs,by rw[AZ,h1];rfl,.cons ⟨rfl,c,m⟩ h2⟩
theorem pE{P:P9}{w:W9}:∀ {es:L9 Ent} {xs:L9 (Dz×Az×V9)},Paired xT es xs->Paired (sI w) es (xs.map (entryOfKey (jP P w)))
 | _,_,.nil=>.nil
 | _,_,.cons h t=>.cons ⟨by rw[h.1];rfl,by rw[h.2.1];rfl,h.2.2⟩ (pE t)
theorem aHP{P:P9}{w:W9}:∀ {es:L9 Ent} {ens:L9 DictEntry},Paired (sI w) es ens->(∀ e∈es,∃ k,e.1=iI k/\e.2.1=kV k)->∃ xs,Pairs (cX P w) ens xs/\Paired xU es xs/\∀ en∈ens,∃ k,(cX P w).is k en.key=true/\en.hash=(cX P w).hash k
 | _,_,.nil,_=>⟨[],.nil,.nil,λ_ h=>by cases h⟩
 | e::es,en::ens,.cons h t,hb=>by
  obtain⟨xs,h1,h2,h3⟩:=aHP (P:=P) t λe g=>hb e (AS _ g)
  obtain⟨k,b,a⟩:=hb e AU
  obtain⟨f,i,j⟩:=h
  have hi:(cX P w).is k en.key=true:=aMV (by rw[<-a];exact i)
  refine⟨(k,en.val)::xs,.cons hi rfl h1,.cons ⟨b,a,j⟩ h2,λc d=>?_⟩
  rcases AW.mp d with z|z
  · subst z; exact⟨k, hi, by rw [f, b, aA1 (P := P)]⟩
  · exact h3 c z
theorem aOG{P:P9}{w:W9}{k:Key}{v:V9}(h:(cX P w).is k v=true):aP (kV k) v:=by
 rcases keyIs_shape h with ⟨i,t,rfl,rfl⟩|⟨x,t,rfl,rfl⟩
 · exact⟨t, rfl⟩
 · exact⟨t, rfl⟩
theorem pF{P:P9}{w:W9}:∀ {es:L9 Ent} {xs:L9 (Key×V9)} {ens:L9 DictEntry},Paired xU es xs->Pairs (cX P w) ens xs->(∀ en∈ens,∃ k,(cX P w).is k en.key=true/\en.hash=(cX P w).hash k)->Paired (sI w) es ens
 | _,_,_,.nil,.nil,_=>.nil
 | _,_,_,.cons h t,.cons p1 p2 ps,hk=>by
  obtain⟨k,hk1,hk2⟩:=hk _ AU
  obtain rfl:=(cX P w).inj _ _ _ hk1 p1
  refine .cons ⟨by rw[hk2,h.1,aA1 (P:=P)],by rw[h.2.1];exact aOG hk1,by rw[p2];exact h.2.2⟩ (pF t ps λen a=>hk en (AS _ a))
def atE(es:L9 Ent)(k:Dz):O9 V:=(es.find? λe=>decide (e.1=k)).map (·.2.2)
def mQ(es:L9 Ent)(k:Dz)(kv v:V):L9 Ent:=if (atE es k).isSome then es.map (λe=>if e.1=k then(e.1,e.2.1,v)else e)else es++[(k,kv,v)]
theorem oG{k:Dz}:∀ {es:L9 Ent} {xs:L9 (Dz×Az×V9)},Paired xT es xs->nZ (atE es k) ((atKey xs k).map (·.2))
 | _,_,.nil=>trivial
 | e::es,x::xs,.cons h t=>by
  have ih:=oG (k:=k) t
  unfold atE atKey at ih ⊢
  rw[C3,C3,h.1]
  by_cases q:x.1=k
  · rw [AY q]; exact h.2.2
  · rw [A5 q]; exact ih
theorem oH{k:Key}:∀ {es:L9 Ent} {xs:L9 (Key×V9)},Paired xU es xs->nZ (atE es (iI k)) (valueAt xs k)
 | _,_,.nil=>trivial
 | e::es,x::xs,.cons h t=>by
  have ih:=oH (k:=k) t
  unfold atE valueAt at ih ⊢
  rw[C3,C3,h.1]
  by_cases q:x.1=k
  · rw [AY q, AY (by rw [q])]; exact h.2.2
  · rw [A5 q, A5 (λz => q (y8 z))]; exact ih
theorem j3{o:O9 V}{u:O9 V9}(h:nZ o u):o.isSome=u.isSome:=by
 cases o<;>cases u<;>first|rfl|exact h.elim
theorem pG{α β:Type}{f:α->β->Prop}{g:α->α}{k:β->β}(hg:∀ a b,f a b->f (g a) (k b)):∀ {xs:L9 α} {ys:L9 β},Paired f xs ys->Paired f (xs.map g) (ys.map k)
 | _,_,.nil=>.nil
 | _,_,.cons h t=>.cons (hg _ _ h) (pG hg t)
theorem pH{α β:Type}{f:α->β->Prop}{a:α}{b:β}(h:f a b):∀ {xs:L9 α} {ys:L9 β},Paired f xs ys->Paired f (xs++[a]) (ys++[b])
 | _,_,.nil=>.cons h .nil
 | _,_,.cons q t=>.cons q (pH h t)
theorem aFM{k:Dz}{b:Az}{v:V}{u:V9}{es:L9 Ent}{xs:L9 (Dz×Az×V9)}(r:aP v u)(h:Paired xT es xs):Paired xT (mQ es k (.ref b) v) (storedH xs k b u):=by
 have q:=j3 (oG (k:=k) h)
 rw[GI]at q
 unfold mQ storedH
 rw[q]
 cases(atKey xs k).isSome with
 | true=>
  rw[AJ rfl,AJ rfl]
  refine pG (λe x a=>?_) h
  unfold putAt
  rw[a.1]
  by_cases z:x.1=k
  · rw [AJ z, AJ z]; exact⟨rfl, a.2.1, r⟩
  · ext
 | false=>rw[AM (by decide),AM (by decide)];exact pH ⟨rfl,rfl,r⟩ h
theorem aMY{k:Key}:∀ {xs:L9 (Key×V9)},xs.any (λkv=>decide (kv.1=k))=(valueAt xs k).isSome
 | []=>rfl
 | x::xs=>by
  have ih:=aMY (k:=k) (xs:=xs)
  unfold valueAt at ih ⊢
  rw[List.any_cons,C3]
  by_cases q:x.1=k
  · rw [AY q]; rfl
  · rw [A5 q, Bool.false_or]; exact ih
theorem aFN{k:Key}{v:V}{u:V9}{es:L9 Ent}{xs:L9 (Key×V9)}(r:aP v u)(h:Paired xU es xs):Paired xU (mQ es (iI k) (kV k) v) (stored xs k u):=by
 have q:=j3 (oH (k:=k) h)
 unfold mQ stored
 rw[q,aMY]
 cases(valueAt xs k).isSome with
 | true=>
  rw[AJ rfl,AJ rfl]
  refine pG (λe x a=>?_) h
  by_cases z:x.1=k
  · rw [AJ z, AJ (by rw [a.1, z])]; exact⟨by rw [a.1], a.2.1, r⟩
  · rw [AM z, AM (λy => z (y8 (a.1.symm.trans y)))]; exact a
 | false=>rw[AM (by decide),AM (by decide)];exact pH ⟨rfl,rfl,r⟩ h
section
variable{X:Cx}{a0:L9 (Az×Obj)}{Z:L2.St}{H:Hp}{s:S9}{a:Az}{es:L9 Ent}{k:Dz}{kv v:V}{ku u:V9}{A:U9}{E:V9->S9->Prop}
structure DicAt(X:Cx)(H:Hp)(a:Az)(es:List Ent)(k:Dz)(kv:V):Prop where
 o:∃ ep,H a=some (dA X.w a es ep)
 ks:∀ e∈es,DatV X.K H e.2.1 e.1
 nd:(es.map (·.1)).Nodup
 dk:DatV X.K H kv k
 one:a7 k (es.map (·.1))=true
theorem vW{f:α->β->Prop}{y:β}:∀ {xs:L9 α} {ys:L9 β},Paired f xs ys->y∈ys->∃ x,x∈xs/\f x y
 | _,_,.nil,h=>by cases h
 | _,_,.cons q t,h=>by
  rcases AW.mp h with z|z
  .grind
  .obtain ⟨x,h1,h2⟩:=vW t z
   ext
theorem pI{γ:Type}{f:α->β->Prop}{g:α->γ}{k:β->γ}(h:∀ a b,f a b->g a=k b):∀ {xs:L9 α} {ys:L9 β},Paired f xs ys->xs.map g=ys.map k
 | _,_,.nil=>rfl
 | _,_,.cons q t=>by rw[AZ,AZ,h _ _ q,pI h t]
theorem y9{f:α->β}:∀ {xs:L9 α},(xs.map f).Nodup->xs.Nodup
 | [],_=>D8
 | x::t,h=>by
  rw[AZ,DL]at h
  exact DL.mpr ⟨λz=>h.1 (CI z),y9 h.2⟩
theorem DicAt.cases (D : DicAt X H a es k kv) (I : Inv X a0 Z H s) (L : aP kv ku) : (a == sysModules) = false /\
    ((∃ b xs, kv = .ref b /\ ku = .ref b /\ Paired xT es xs /\ (jP X.prog X.w).is s.heap k b /\ s.heap.DictOfH (jP X.prog X.w) a xs) \/
     (∃ kk xs, k = iI kk /\ kv = kV kk /\ Paired xU es xs /\ (cX X.prog X.w).is kk ku = true /\ s.heap.DictOf (cX X.prog X.w) a xs)) := by
  obtain⟨E, U⟩ := D.o
  obtain⟨⟨z, o, N, h1, h2, G, J⟩, _, _⟩ := (show bI X.prog X.w H s.heap a (dA X.w a es E)from I.hok a _ U)
  refine⟨z, ?_⟩
  have f := D.one
  unfold a7 at f
  rw [CL, A1, A1, BI, BI]at f
  rcases f with ⟨A, y⟩ | ⟨A, y⟩
  · have l : ∀ (d : Dz) (v : V), eE d = true -> DatV X.K H v d -> ∃ j, v = .ref j /\ (jP X.prog X.w).is s.heap d j := λd v z O => by
      obtain⟨ws, rfl, M, W⟩ := aOF z
      obtain⟨j, vs, rfl, _, _⟩ := O.tup_of
      obtain⟨R, r⟩ := O.reads I (oF M) (u := .ref j) rfl
      exact⟨j, rfl, M, W, R, r⟩
    obtain⟨b, rfl, B⟩ := l _ _ A D.dk
    cases(show ku = Value.ref b from L)
    obtain⟨xs, m, c⟩ := aHO (P := X.prog) J λe i => by
      obtain⟨j, e1, _⟩ := l e.1 e.2.1 (y _ (CI i)) (D.ks e i)
      exact⟨j, e1⟩
    refine .inl ⟨b, xs, rfl, rfl, c, B, o, N, E, h1, h2, G, m, λx Q => ?_, ?_⟩
    · obtain⟨e, i, n⟩ := vW c Q
      obtain⟨j, e1, q⟩ := l e.1 e.2.1 (y _ (CI i)) (D.ks e i)
      rw [n.2.1]at e1
      cases e1
      rw [<- n.1]; exact q
    · rw [<- pI (g := λe : Ent => e.1) (λa b h => h.1) c]; exact D.nd
  · obtain⟨kk, rfl⟩ := aDI A
    have t := aDJ D.dk
    obtain⟨xs, m, c, F⟩ := aHP (P := X.prog) J λe i => by
      obtain⟨S, p⟩ := aDI (y _ (CI i))
      have q := D.ks e i
      rw [p]at q
      exact⟨S, p, aDJ q⟩
    refine .inr ⟨kk, xs, rfl, t, c, aMV (by rw [<- t]; exact L), o, N, E, h1, h2, G, λT C => F T (by simpa using C), m, ?_⟩
    have : es.map (·.1) = (xs.map (·.1)).map iI := by rw [AX]; exact pI (g := λe : Ent => e.1) (λa b h => h.1) c
    have nd := D.nd
    rw [this]at nd
    exact y9 nd
theorem lN{A:U9}(a:A.units+64 < cLine):(jP X.prog X.w).room A.in1:=by show A.in1.units+9 < cLine;rw[yZ];ext
theorem aSC(f:A.units+64 < cLine)(D:DicAt X H a es k kv)(I:Inv X a0 Z H s)(g:aP kv ku)(h:∀ s',Inv X a0 Z H s'->Q (.bool (atE es k).isSome) s'):wpAny (model X.prog X.w) A (compareOp .In ku (.ref a)) Q E s:=by
 obtain⟨e,⟨b,xs,rfl,rfl,d,c,dd⟩|⟨i,xs,rfl,rfl,d,c,dd⟩⟩:=D.cases I g
 .refine wpAny_in_heap (lN f) c e dd ?_
  have q:=j3 (oG (k:=k) d)
  rw[GI]at q
  rw[<-q];exact h _ (I.tok _)
 .refine wpAny_in_of c e dd.mapOf ?_
  rw[<-j3 (oH (k:=i) d)];exact h _ (I.tok _)
theorem aOH(f:A.units+64 < cLine)(D:DicAt X H a es k kv)(I:Inv X a0 Z H s)(g:aP kv ku)(h:∀ s',Inv X a0 Z H s'->Q (.bool (!(atE es k).isSome)) s'):wpAny (model X.prog X.w) A (compareOp .NotIn ku (.ref a)) Q E s:=by
 obtain⟨e,⟨b,xs,rfl,rfl,d,c,dd⟩|⟨i,xs,rfl,rfl,d,c,dd⟩⟩:=D.cases I g
 .refine wpAny_notIn_heap (lN f) c e dd ?_
  have q:=j3 (oG (k:=k) d)
  rw[GI]at q
  rw[<-q];exact h _ (I.tok _)
 .refine wpAny_notIn_of c e dd.mapOf ?_
  rw[<-j3 (oH (k:=i) d)];exact h _ (I.tok _)
theorem aOI(j:A.units+64 < cLine)(D:DicAt X H a es k kv)(I:Inv X a0 Z H s)(l:aP kv ku)(i:atE es k=some v)(h:∀ w' s',Inv X a0 Z H s'->aP v w'->Q w' s'):wpAny (model X.prog X.w) A (getItem (.ref a) ku) Q E s:=by
 obtain⟨o,⟨b,xs,rfl,rfl,e,d,dd⟩|⟨n,xs,rfl,rfl,e,d,dd⟩⟩:=D.cases I l
 .have q:=oG (k:=k) e
  rw[i]at q
  obtain⟨w',g,c⟩:=nZ.some_of q
  obtain⟨p,m,f⟩:=HF.mp g
  refine wpAny_getItem_heap (lN j) d dd m ?_
  rw[f];exact h w' _ (I.tok _) c
 .have q:=oH (k:=n) e
  rw[i]at q
  obtain⟨w',g,c⟩:=nZ.some_of q
  exact wpAny_getItem_of d dd.mapOf g (h w' _ (I.tok _) c)
theorem aOJ{Q:Unit->S9->Prop}(C:A.units+64 < cLine)(D:DicAt X H a es k kv)(I:Inv X a0 Z H s)(B:aP kv ku)(x:aP v u)(hz:es.length<=sizeLine)(h:∀ ep s',Inv X a0 Z (upd H a (dA X.w a (mQ es k kv v) ep)) s'->Q () s') :
  wpAny (model X.prog X.w) A (setItem (.ref a) ku u) Q E s:=by
 obtain⟨t,⟨b,xs,rfl,rfl,d,i,dd⟩|⟨F,xs,rfl,rfl,d,i,dd⟩⟩:=D.cases I B
 .have g:xs.length<=sizeLine:=by rw[<-Paired.length d];exact hz
  refine wpAny_setItem_heap (hsz:=g) (lN C) i dd λh' c r=>?_
  obtain⟨f,p,ep,e,h2,m,q,_,y⟩:=c
  obtain⟨j,l⟩:=D.o
  refine h ep _ (mC I (by rw[l];exact True.intro) r ⟨f,e⟩ (j2 t ⟨f,p,e,h2,m,?_⟩))
  rw[q]
  exact pE (aFM x d)
 .have g:xs.length<=sizeLine:=by rw[<-Paired.length d];exact hz
  refine wpAny_setItem_pairs (hsz:=g) i dd λh' c r=>?_
  obtain⟨f,p,ep,e,h2,m,q,y,_⟩:=c
  obtain⟨j,l⟩:=D.o
  refine h ep _ (mC I (by rw[l];exact True.intro) r ⟨f,e⟩ (j2 t ⟨f,p,e,h2,m,?_⟩))
  exact pF (aFN x d) y λz n=>q z (by simpa using n)
end
structure Er where
 c:Str
 fs:List (Str×Dz)
inductive R(α:Type) where
 | bad|ok (a:α)|ex (e:Er)
noncomputable def R.bind{α β:Type}:R α->(α->R β)->R β
 | .bad,_=>.bad
 | .ok a,f=>f a
 | .ex e,_=>.ex e
@[simp] theorem R.bind_ok{α β:Type}(a:α)(f:α->R β):(R.ok a).bind f=f a:=id rfl
@[simp] theorem R.bind_bad{α β:Type}(f:α->R β):(R.bad:R α).bind f=.bad:=id rfl
@[simp] theorem R.bind_ex{α β:Type}(e:Er)(f:α->R β):(R.ex e:R α).bind f=.ex e:=id rfl
inductive A where
 | d (x:Dz)|l (xs:List Dz)|m (ce:List (Dz×Dz))|x (e:Er)|g (k n:Nat) (f:List Dz->R Dz)|k (q:Str)|f (ce:List (Dz×Dz))|o (e:Er)|w (a:Az)
abbrev Sg:=L9 (O9 A)
structure Gb where
 B:Az->Hp->Nat->Nat->(List Dz->R Dz)->Prop
 T:Hp
 w:World
structure Ct where
 K:Frag
 mg:Str->Option V9
 w:World
 F0:Hp
 H0:Hp
 g:Gb
 cells:List (Str×Az)
 cls:Str->Option ClSt
theorem aA2{w:W9}{p:Az}{es:L9 Ent}{ep:Nat}{q:Str}(h:dA w p es ep=.cod q):False:=by unfold dA at h;cases h
theorem a9(H:Hp):aD H H:=λ_ _ h=>h
theorem aU{H H':Hp}(s:aD H H'){a:Az}(h:H' a=none):H a=none:=by
 cases e:H a with
 | none=>rfl
 | some o=>rw[s a o e]at h;cases h
def nJ(H:Hp)(a:Az):Prop:=H a=none\/∃ q,H a=some (.cod q)
theorem nJ.back{H H1:Hp}{a:Az}(s:aD H H1)(h:nJ H1 a):nJ H a:=by
 cases e:H a with
 | none=>exact .inl e
 | some o=>
  have e1:=s a o e
  rcases h with z|⟨q,z⟩
  · ext
  · rw [e1]at z; cases z; exact .inr ⟨q, e⟩
structure Ext(F H F' H':Hp):Prop where
 hh:aD H H'
 ff:aD F F'
 fh:aD F' H'
 nw:∀ a,F a=none->F' a≠none->nJ H a
theorem Ext.refl{F H:Hp}(h:aD F H):Ext F H F H:=⟨a9 H,a9 F,h,λa e n=>absurd e n⟩
theorem Ext.trans{F H c H1 d H2:Hp}(a:Ext F H c H1)(b:Ext c H1 d H2):Ext F H d H2:=
 ⟨λx o e=>b.hh x o (a.hh x o e),λx o e=>b.ff x o (a.ff x o e),b.fh,λx e n=>by
  cases q:c x with
  | none=>exact(b.nw x q n).back a.hh
  | some o=>exact a.nw x e (by rw[q];exact λz=>nomatch z)⟩
theorem Ext.stay{F H a H':Hp}(s:Ext F H a H'){p:Az}{o:HO}(b:F p=none)(h2:H p=some o)(c:∀ q,o≠.cod q):a p=none:=by
 cases q:a p with
 | none=>rfl
 | some o=>
  rcases s.nw p b (by rw[q];exact λz=>nomatch z)with z|⟨d,z⟩
  · ext
  · ext
theorem aKR{F H:Hp}{p:Az}{o:HO}(s:aD F H):aD (upd F p o) (upd H p o):=λa u e=>by
 by_cases q:a=p
 · subst q; rw [aN]at e ⊢; exact e
 · rw [aF q]at e ⊢; exact s a u e
theorem Ext.new{F H:Hp}{p:Az}{o:HO}(s:aD F H)(b:H p=none):Ext F H (upd F p o) (upd H p o):=
 ⟨aD.upd b,aD.upd (aU s b),aKR s,λa e n=>by
  by_cases q:a=p
  · subst q; exact .inl b
  · rw [aF q]at n; exact absurd e n⟩
theorem Ext.own{F H:Hp}{p:Az}{o:HO}(s:aD F H)(b:H p=none):Ext F H F (upd H p o):=
 ⟨aD.upd b,a9 F,λa u e=>by
  rw[aF (aV (s a u e) b)];exact s a u e,λa e n=>absurd e n⟩
def kD(K:Frag)(mg:Str->O9 V9)(F:Hp)(e:Er)(a C:Az):Prop:=mg e.c=some (.ref C)/\∃ od,F a=some (ExO a C od)/\((e.fs=[]/\od=none)\/∃ d fvs,od=some d/\F d=some (.xd fvs)/\fvs.map (·.1)=e.fs.map (·.1)/\DatVs K F (fvs.map (·.2)) (e.fs.map (·.2)))
theorem kD.same{K:Frag}{mg:Str->O9 V9}{F b:Hp}{e:Er}{a C:Az}(s:aD F b)(h:kD K mg F e a C):kD K mg b e a C:=by
 obtain⟨m,od,h1,h2⟩:=h
 refine⟨m,od,s _ _ h1,h2.imp id ?_⟩
 rintro ⟨d,fvs,e1,e2,e3,e4⟩
 exact⟨d,fvs,e1,s _ _ e2,e3,e4.same s⟩
def aFO(K:Frag)(mg:Str->O9 V9)(F:Hp)(e:Er)(a:Az):Prop:=∃ C dx fvs,mg e.c=some (.ref C)/\F a=some (.ins C dx fvs)/\fvs.map (·.1)=e.fs.map (·.1)/\DatVs K F (fvs.map (·.2)) (e.fs.map (·.2))
theorem aFO.same{K:Frag}{mg:Str->O9 V9}{F c:Hp}{e:Er}{a:Az}(s:aD F c)(h:aFO K mg F e a):aFO K mg c e a:=by
 obtain⟨C,dx,b,h1,h2,f,d⟩:=h
 exact⟨C,dx,b,h1,s _ _ h2,f,d.same s⟩
structure MapRel(K:Frag)(F:Hp)(es:List Ent)(ce:List (Dz×Dz)):Prop where
 k1:es.map (·.1)=ce.map (·.1)
 k2:DatVs K F (es.map (·.2.1)) (ce.map (·.1))
 vs:DatVs K F (es.map (·.2.2)) (ce.map (·.2))
 nd:(ce.map (·.1)).Nodup
theorem MapRel.same{K:Frag}{F a:Hp}{es:L9 Ent}{ce:L9 (Dz×Dz)}(s:aD F a)(h:MapRel K F es ce):MapRel K a es ce:=⟨h.k1,h.k2.same s,h.vs.same s,h.nd⟩
def AF(g:Gb)(K:Frag)(mg:Str->O9 V9)(F:Hp):A->V->Prop
 | .d x,v=>DatV K F v x
 | .x e,v=>∃ a C,v=.ref a/\kD K mg F e a C
 | .g k n G,v=>∃ f F1,v=.ref f/\aD F1 F/\g.B f F1 k n G
 | .f ce,v=>∃ p es,v=.ref p/\(∃ ep,F p=some (dA g.w p es ep))/\MapRel K F es ce
 | .o e,v=>∃ a,v=.ref a/\aFO K mg F e a
 | .w a,v=>v=.ref a
 | _,_=>False
theorem AF.same{g:Gb}{K:Frag}{mg:Str->O9 V9}{F F':Hp}(s:aD F F'):∀ {a:A} {v:V},AF g K mg F a v->AF g K mg F' a v
 | .d x,v,h=>DatV.same s h
 | .x e,v,⟨a,C,h1,h2⟩=>⟨a,C,h1,h2.same s⟩
 | .g k n G,v,⟨f,F1,h1,h2,h3⟩=>⟨f,F1,h1,λa o z=>s a o (h2 a o z),h3⟩
 | .f ce,v,⟨p,es,h1,⟨ep,h2⟩,h3⟩=>⟨p,es,h1,⟨ep,s _ _ h2⟩,h3.same s⟩
 | .o e,v,⟨a,h1,h2⟩=>⟨a,h1,h2.same s⟩
 | .w a,v,h=>h
noncomputable def A.own:A->Bool
 | .l _=>true
 | .m _=>true
 | _=>false
def AO(c:Ct)(F H:Hp):A->V->Prop
 | .l xs,v=>∃ p vs,v=.ref p/\H p=some (.lst vs)/\F p=none/\c.H0 p=none/\DatVs c.K F vs xs
 | .m ce,v=>∃ p es,v=.ref p/\(∃ ep,H p=some (dA c.w p es ep))/\F p=none/\c.H0 p=none/\MapRel c.K F es ce
 | .k q,v=>∃ S f cl doc pm cc ct,c.cls q=some S/\v=.ref f/\F f=some (FnO f (S.obj cl doc pm cc ct))/\F cc=some (.cod S.qual)/\ClOf c.cells S.scope cl
 | a,v=>AF c.g c.K c.mg F a v
theorem AO.ext{c:Ct}{F H b H':Hp}(s:Ext F H b H'):∀ {a:A} {v:V},AO c F H a v->AO c b H' a v
 | .d x,v,h=>DatV.same s.ff h
 | .x e,v,h=>AF.same (g:=c.g) (K:=c.K) (mg:=c.mg) (a:=.x e) s.ff h
 | .g k n G,v,h=>AF.same (g:=c.g) (K:=c.K) (mg:=c.mg) (a:=.g k n G) s.ff h
 | .f ce,v,h=>AF.same (g:=c.g) (K:=c.K) (mg:=c.mg) (a:=.f ce) s.ff h
 | .o e,v,h=>AF.same (g:=c.g) (K:=c.K) (mg:=c.mg) (a:=.o e) s.ff h
 | .w a,v,h=>h
 | .k q,v,⟨S,f,cl,doc,pm,cc,ct,h0,h1,h2,h3,h4⟩=>⟨S,f,cl,doc,pm,cc,ct,h0,h1,s.ff _ _ h2,s.ff _ _ h3,h4⟩
 | .l xs,v,⟨p,vs,h1,h2,h3,h4,h5⟩=>⟨p,vs,h1,s.hh _ _ h2,s.stay h3 h2 (λ_ z=>nomatch z),h4,h5.same s.ff⟩
 | .m ce,v,⟨p,vs,h1,⟨ep,h2⟩,h3,h4,h5⟩=>⟨p,vs,h1,⟨ep,s.hh _ _ h2⟩,s.stay h3 h2 (λ_ z=>aA2 z),h4,h5.same s.ff⟩
theorem AO.at{c:Ct}{F H:Hp}{a:A}{v:V}(h:AO c F H a v)(o:a.own=true):∃ p o,v=.ref p/\H p=some o/\F p=none/\c.H0 p=none:=by
 cases a with
 | l xs=>obtain⟨p,vs,h1,h2,i,b,j⟩:=h;exact⟨p,_,h1,h2,i,b⟩
 | m xs=>obtain⟨p,vs,h1,⟨q,h2⟩,i,b,j⟩:=h;exact⟨p,_,h1,h2,i,b⟩
 | d x=>cases o
 | x e=>cases o
 | g k n f=>cases o
 | k S=>cases o
 | f S=>cases o
 | o S=>cases o
 | w S=>cases o
theorem AO.off{c:Ct}{F H:Hp}{p:Az}{o:HO}:∀ {a:A} {v:V},AO c F H a v->v≠.ref p->AO c F (upd H p o) a v
 | .l xs,v,⟨q,vs,h1,h2,h3,h4,h5⟩,n=>⟨q,vs,h1,by rw[aF (λz=>n (by rw[h1,z]))];exact h2,h3,h4,h5⟩
 | .m xs,v,⟨q,vs,h1,⟨ep,h2⟩,h3,h4,h5⟩,n=>⟨q,vs,h1,⟨ep,by rw[aF (λz=>n (by rw[h1,z]))];exact h2⟩,h3,h4,h5⟩
 | .d x,v,h,_=>h
 | .x e,v,h,_=>h
 | .g k n G,v,h,_=>h
 | .k S,v,h,_=>h
 | .f S,v,h,_=>h
 | .o S,v,h,_=>h
 | .w S,v,h,_=>h
structure Ab(c:Ct)(Y:Sg)(Z:L2.St)(F H:Hp):Prop where
 len:Y.length=Z.length
 fh:aD F H
 slot:∀ (i:Nat) (a:A),Y[i]? = some (some a)->∃ v,Z[i]? = some (some v)/\AO c F H a v
 apart:∀ (i j:Nat) (a b:A),i≠j->Y[i]? = some (some a)->Y[j]? = some (some b)->a.own=true->b.own=true->Z[i]? ≠ Z[j]?
 f0:aD c.F0 F
 h0:aD c.H0 H
 n0:∀ a,c.F0 a=none->F a≠none->nJ c.H0 a
 t0:aD c.g.T c.F0
theorem Ab.all{c:Ct}{Y:Sg}{Z:L2.St}{F H:Hp}(b:Ab c Y Z F H):Ext c.F0 c.H0 F H:=⟨b.h0,b.f0,b.fh,b.n0⟩
theorem Ab.ext{c:Ct}{Y:Sg}{Z:L2.St}{F H d H':Hp}(b:Ab c Y Z F H)(e:Ext F H d H'):Ab c Y Z d H' where
 len:=b.len
 fh:=e.fh
 slot:=λi a h=>let ⟨v,h1,h2⟩:=b.slot i a h;⟨v,h1,h2.ext e⟩
 apart:=b.apart
 f0:=λx o h=>e.ff x o (b.f0 x o h)
 h0:=λx o h=>e.hh x o (b.h0 x o h)
 n0:=λa h n=>by
  cases q:F a with
  | none=>exact(e.nw a q n).back b.h0
  | some o=>exact b.n0 a h (by rw[q];exact λz=>nomatch z)
 t0:=b.t0
def XW(c:Ct)(E:XK)(e:Er):Prop:=∀ a C F' H',Ext c.F0 c.H0 F' H'->kD c.K c.mg F' e a C->E (.ref C) (some a) H'
def Rk{α:Type}(c:Ct)(E:XK)(F H:Hp)(r:R α)(k:α->Prop):Prop:=match r with
 | .bad=>False
 | .ok a=>k a
 | .ex e=>XW c E e
abbrev VR(α:Type):=α->V->Hp->Hp->Hp->Prop
def tV{α:Type}(Rel:VR α)(c:Ct)(E:XK)(f:Sg->R α):TE:=λZ H Q=>∃ Y F,Ab c Y Z F H/\Rk c E F H (f Y) λd=>∀ v F' H',Ext F H F' H'->Rel d v H F' H'->Q v H'
def bO(c:Ct):VR Dz:=λd v _ F _=>DatV c.K F v d
def aK(K:Frag)(F H:Hp)(v:V)(d:Dz):Prop:=DatV K F v d\/∃ p vs xs,v=.ref p/\d=.list xs/\H p=some (.lst vs)/\DatVs K F vs xs
def aS(c:Ct):VR Dz:=λd v _ F H=>aK c.K F H v d
def aKS(c:Ct):VR A:=λa v _ F _=>AF c.g c.K c.mg F a v
def xV(c:Ct):VR (L9 Dz):=λxs v H F H'=>∃ p vs,v=.ref p/\H p=none/\H' p=some (.lst vs)/\F p=none/\DatVs c.K F vs xs
abbrev PD(X:Cx)(c:Ct)(E:XK)(e:E2)(f:Sg->R Dz):Prop:=PE X e (tV (bO c) c E f)
abbrev PR(X:Cx)(c:Ct)(E:XK)(e:E2)(f:Sg->R Dz):Prop:=PE X e (tV (aS c) c E f)
abbrev PV(X:Cx)(c:Ct)(E:XK)(e:E2)(f:Sg->R A):Prop:=PE X e (tV (aKS c) c E f)
abbrev PN(X:Cx)(c:Ct)(E:XK)(e:E2)(f:Sg->R (L9 Dz)):Prop:=PE X e (tV (xV c) c E f)
theorem PE.imp{X:Cx}{e:E2}{t t':TE}(h:PE X e t)(i:∀ Z H Q,t' Z H Q->t Z H Q):PE X e t':=λa0 s Z H Q I q=>h a0 s Z H Q I (i Z H Q q)
theorem PT.imp{X:Cx}{e:E2}{t t':TT}(h:PT X e t)(i:∀ Z H Q,t' Z H Q->t Z H Q):PT X e t':=λa0 s Z H Q I q=>h a0 s Z H Q I (i Z H Q q)
theorem PS.imp{X:Cx}{e:Stmt}{t t':TS}(h:PS X e t)(i:∀ D Z H,t' D Z H->t D Z H):PS X e t':=λa0 s Z H D I q=>h a0 s Z H D I (i D Z H q)
theorem PSs.imp{X:Cx}{e:L9 Stmt}{t t':TS}(h:PSs X e t)(i:∀ D Z H,t' D Z H->t D Z H):PSs X e t':=λa0 s Z H D I q=>h a0 s Z H D I (i D Z H q)
def aMZ{α:Type}(Rel:VR α):Prop:=∀ d v H F H1 F2 H2,Ext F H1 F2 H2->Rel d v H F H1->Rel d v H F2 H2
theorem aK.ext{K:Frag}{F H a H':Hp}{v:V}{d:Dz}(e:Ext F H a H')(h:aK K F H v d):aK K a H' v d:=by
 rcases h with h|⟨p,vs,xs,h1,h2,c,b⟩
 · exact .inl (h.same e.ff)
 · exact .inr ⟨p, vs, xs, h1, h2, e.hh _ _ c, b.same e.ff⟩
theorem qV(c:Ct):aMZ (aS c):=λd v H F H1 a H2 e h=>aK.ext e h
theorem aK.heap{K:Frag}{F H:Hp}{v:V}{d:Dz}(s:aD F H)(h:aK K F H v d):DatV K H v d:=by
 rcases h with h|⟨p,vs,xs,h1,h2,a,b⟩
 · exact h.same s
 · subst h1 h2; exact .lst (SqL.of a) (b.same s)
section
variable{X:Cx}{c:Ct}{E:XK}{α β γ:Type}{Ra:VR α}{Rb:VR β}{Rc:VR γ}{Z:L2.St}{H:Hp}{Q:VK}
theorem Rk.ok{F:Hp}{a:α}{k:α->Prop}(h:Rk c E F H (.ok a) k):k a:=h
theorem Rk.imp{F:Hp}{r:R α}{k b:α->Prop}(h:Rk c E F H r k)(i:∀ a,r=.ok a->k a->b a):Rk c E F H r b:=by
 cases r with
 | bad=>exact h
 | ok a=>exact i a rfl h
 | ex e=>exact h
theorem Rk.bind{F:Hp}{r:R α}{f:α->R β}{k:β->Prop}(h:Rk c E F H (r.bind f) k):Rk c E F H r λa=>Rk c E F H (f a) k:=by
 cases r with
 | bad=>exact h
 | ok a=>exact h
 | ex e=>exact h
theorem Rk.ext{F b H':Hp}{r:R α}{k:α->Prop}(e:Ext F H b H')(h:Rk c E F H r k):Rk c E b H' r k:=by
 cases r with
 | bad=>exact h
 | ok a=>exact h
 | ex x=>exact h
end
def aA3{α:Type}(Rel:VR α):Prop:=∀ d v H H1 F' H',aD H H1->Rel d v H1 F' H'->Rel d v H F' H'
theorem lY(c:Ct):aA3 (bO c):=λ_ _ _ _ _ _ _ h=>h
theorem aM0(c:Ct):aA3 (xV c):=λ_ _ _ _ _ _ s h=>by
 obtain⟨p,vs,h1,h2,a⟩:=h
 exact⟨p,vs,h1,aU s h2,a⟩
section
variable{X:Cx}{c:Ct}{E:XK}{α β γ:Type}{Ra:VR α}{Rb:VR β}{Rc:VR γ}
def Op1(c:Ct)(Ra:VR α)(Rb:VR β)(g:α->R β)(r:V->Hp->VK->Prop):Prop:=
 ∀ (H0 F H:Hp) (a:α) (b:β) (v:V) (Q:VK),aD F H->Ra a v H0 F H->g a=.ok b->(∀ w F' H',Ext F H F' H'->Rb b w H F' H'->Q w H')->r v H Q
def Op2(c:Ct)(Ra:VR α)(Rb:VR β)(Rc:VR γ)(g:α->β->R γ)(r:R2):Prop:=
 ∀ (H0 H1 F H:Hp) (a:α) (b:β) (d:γ) (v u:V) (Q:VK),aD F H->Ra a v H0 F H->Rb b u H1 F H->g a b=.ok d->(∀ w F' H',Ext F H F' H'->Rc d w H F' H'->Q w H')->r v u H Q
def mR(g:α->R β):Prop:=∀ a e,g a≠.ex e
def cK(g:α->β->R γ):Prop:=∀ a b e,g a b≠.ex e
theorem tV1{f:Sg->R α}{g:α->R β}{r:V->Hp->VK->Prop}(o:Op1 c Ra Rb g r)(m:mR g)(j:aA3 Rb){Z:L2.St}{H:Hp}{Q:VK}(h:tV Rb c E (λY=>(f Y).bind g) Z H Q) :
  tV Ra c E f Z H λv H1=>r v H1 Q:=by
 obtain⟨Y,F,ab,h⟩:=h
 refine⟨Y,F,ab,(Rk.bind h).imp λa p q v l H1 e1 k=>?_⟩
 cases d:g a with
 | bad=>rw[d]at q;exact q.elim
 | ex e=>exact absurd d (m a e)
 | ok b=>
  rw[d]at q
  exact o H l H1 a b v Q e1.fh k d λw n H' e2 i=>q w n H' (e1.trans e2) (j _ _ _ _ _ _ e1.hh i)
theorem tV2{f:Sg->R α}{k:Sg->R β}{g:α->β->R γ}{r:R2}(C:Op2 c Ra Rb Rc g r)(m:cK g)(t:aMZ Ra)(y:aA3 Rc){Z:L2.St}{H:Hp}{Q:VK}(h:tV Rc c E (λY=>(f Y).bind λa=>(k Y).bind λb=>g a b) Z H Q) :
  tOp r (tV Ra c E f) (tV Rb c E k) Z H Q:=by
 obtain⟨Y,F,ab,h⟩:=h
 refine⟨Y,F,ab,(Rk.bind h).imp λa G q v A H1 e1 l=>?_⟩
 refine⟨Y,A,ab.ext e1,((Rk.bind q).ext e1).imp λb D q u p H2 e2 B=>?_⟩
 cases i:g a b with
 | bad=>rw[i]at q;exact q.elim
 | ex e=>exact absurd i (m a b e)
 | ok d=>
  rw[i]at q
  exact C H H1 p H2 a b d v u Q e2.fh (t _ _ _ _ _ _ _ e2 l) B i λw n H' s j=>q w n H' ((e1.trans e2).trans s) (y _ _ _ _ _ _ (λx o z=>e2.hh x o (e1.hh x o z)) j)
end
section
variable{K:Frag}{F H:Hp}{v:V}
theorem DatV.bl_of{b:Bool}(h:DatV K H v (.bool b)):v=.bl b:=by cases h;rfl
theorem DatV.non_of(h:DatV K H v .none):v=.non:=by cases h;rfl
theorem aK.int_of{i:Int}(h:aK K F H v (.int i)):v=.int i:=by
 rcases h with h|⟨_,_,_,_,h,_⟩
 · exact h.int_of
 · cases h
theorem aK.str_of{i:Str}(h:aK K F H v (.str i)):v=.str i:=by
 rcases h with h|⟨_,_,_,_,h,_⟩
 · exact h.str_of
 · cases h
theorem aK.bl_of{i:Bool}(h:aK K F H v (.bool i)):v=.bl i:=by
 rcases h with h|⟨_,_,_,_,h,_⟩
 · exact DatV.bl_of h
 · cases h
theorem aK.non_of(h:aK K F H v .none):v=.non:=by
 rcases h with h|⟨_,_,_,_,h,_⟩
 · exact DatV.non_of h
 · cases h
theorem aK.tup_of(s:aD F H)(h:aK K F H v (.tuple xs)):∃ a vs,v=.ref a/\SqT K F a vs/\SqT K H a vs/\DatVs K F vs xs:=by
 rcases h with h|⟨_,_,_,_,h,_⟩
 .obtain ⟨a,vs,h1,h2,b⟩:=h.tup_of
  exact⟨a,vs,h1,h2,h2.same s,b⟩
 .cases h
theorem aK.lst_of(s:aD F H)(h:aK K F H v (.list xs)):∃ a vs,v=.ref a/\SqL K H a vs/\DatVs K F vs xs:=by
 rcases h with h|⟨p,vs,ys,h1,h2,b,c⟩
 .obtain ⟨a,vs,h1,h2,b⟩:=h.lst_of
  exact⟨a,vs,h1,h2.same s,b⟩
 .cases h2
  exact⟨p,vs,h1,SqL.of b,c⟩
theorem aA4{vs:L9 V}{i:Int}{d:Dz}(h:DatVs K F vs xs)(e:atI xs i=some d):∃ x,atI vs i=some x/\DatV K F x d:=by
 unfold atI at e ⊢
 rw[h.length]
 cases q:ixN xs.length i with
 | none=>rw[q]at e;cases e
 | some j=>
  rw[q]at e
  exact h.get' (i:=j) e
end
noncomputable def eV(i:Nat):Sg->R Dz:=λY=>match Y[i]? with
 | some (some (.d x))=>.ok x
 | _=>.bad
noncomputable def rV(i:Nat):Sg->R Dz:=λY=>match Y[i]? with
 | some (some (.d x))=>.ok x
 | some (some (.l xs))=>.ok (.list xs)
 | _=>.bad
noncomputable def vV(i:Nat):Sg->R A:=λY=>match Y[i]? with
 | some (some (.d x))=>.ok (.d x)
 | some (some (.x e))=>.ok (.x e)
 | some (some (.g k n f))=>.ok (.g k n f)
 | some (some (.f ce))=>.ok (.f ce)
 | _=>.bad
def eC(d:Dz):Sg->R Dz:=λ_=>.ok d
section
variable{X:Cx}{c:Ct}{E:XK}{e a b:E2}
theorem aSD(h:PE X e (jA i)):PD X c E e (eV i):=PE.imp h λZ H Q ⟨Y,F,ab,k⟩=>by
 unfold eV at k
 split at k
 .rename_i x a
  obtain⟨v,h1,h2⟩:=ab.slot i _ a
  exact⟨v,h1,k v F H (Ext.refl ab.fh) h2⟩
 .exact k.elim
theorem aSE(h:PE X e (jA i)):PR X c E e (rV i):=PE.imp h λZ H Q ⟨Y,F,ab,k⟩=>by
 unfold rV at k
 split at k
 .rename_i x a
  obtain⟨v,h1,h2⟩:=ab.slot i _ a
  exact⟨v,h1,k v F H (Ext.refl ab.fh) (.inl h2)⟩
 .rename_i x a
  obtain⟨v,h1,p,vs,h2,d,f,g,b⟩:=ab.slot i _ a
  exact⟨v,h1,k v F H (Ext.refl ab.fh) (.inr ⟨p,vs,x,h2,rfl,d,b⟩)⟩
 .exact k.elim
theorem aSF(h:PE X e (jA i)):PV X c E e (vV i):=PE.imp h λZ H Q ⟨Y,F,ab,k⟩=>by
 unfold vV at k
 split at k
 .rename_i x a
  obtain⟨v,h1,h2⟩:=ab.slot i _ a
  exact⟨v,h1,k v F H (Ext.refl ab.fh) h2⟩
 .rename_i x a
  obtain⟨v,h1,h2⟩:=ab.slot i _ a
  exact⟨v,h1,k v F H (Ext.refl ab.fh) h2⟩
 .rename_i f b d a
  obtain⟨v,h1,h2⟩:=ab.slot i _ a
  exact⟨v,h1,k v F H (Ext.refl ab.fh) h2⟩
 .rename_i ce a
  obtain⟨v,h1,h2⟩:=ab.slot i _ a
  exact⟨v,h1,k v F H (Ext.refl ab.fh) h2⟩
 .exact k.elim
theorem kU{v:V}{d:Dz}(h:PE X e (tC v))(a:∀ F,DatV c.K F v d):PD X c E e (eC d):=PE.imp h λZ H Q ⟨Y,F,ab,k⟩=>k v F H (Ext.refl ab.fh) (a F)
theorem aSG{i j pos}:PD X c E (.Constant (.int i) j pos) (eC (.int i)):=kU aRG λ_=>.int i
theorem aU8{i j pos}:PD X c E (.Constant (.bool i) j pos) (eC (.bool i)):=kU aUU λ_=>.bl i
theorem aSH{i j pos}:PD X c E (.Constant (.str i) j pos) (eC (.str i)):=kU aAD λ_=>.str i
theorem aSI{j pos}:PD X c E (.Constant .none j pos) (eC .none):=kU aRH λ_=>.non
theorem aFP{f:Sg->R Dz}(h:PD X c E e f):PR X c E e f:=PE.imp h λZ H Q ⟨Y,F,ab,k⟩=>⟨Y,F,ab,k.imp λd _ q v a H' s r=>q v a H' s (.inl r)⟩
def vD(f:Sg->R Dz):Sg->R A:=λY=>(f Y).bind λx=>.ok (.d x)
theorem sJ{f:Sg->R Dz}(h:PD X c E e f):PV X c E e (vD f):=PE.imp h λZ H Q ⟨Y,F,ab,k⟩=>⟨Y,F,ab,(Rk.bind k).imp λd _ q v a H' s r=>Rk.ok q v a H' s r⟩
def getD:A->R Dz
 | .d x=>.ok x
 | _=>.bad
def eA(f:Sg->R A):Sg->R Dz:=λY=>(f Y).bind getD
theorem aU9{f:Sg->R A}(h:PV X c E e f):PD X c E e (eA f):=PE.imp h λZ H Q ⟨Y,F,ab,k⟩=>⟨Y,F,ab,(Rk.bind k).imp λd _ q v a H' s r=>by
 cases d with
 | d x=>exact Rk.ok q v a H' s r
 | _=>exact False.elim q⟩
def eL(f:Sg->R (L9 Dz)):Sg->R Dz:=λY=>(f Y).bind λxs=>.ok (.list xs)
theorem aHQ{f:Sg->R (L9 Dz)}(h:PN X c E e f):PD X c E e (eL f):=PE.imp h λZ H Q ⟨Y,F,ab,k⟩=>⟨Y,F,ab,(Rk.bind k).imp λxs _ q v d H' s r=>by
 obtain⟨p,vs,h1,h2,g,b,i⟩:=r
 subst h1
 refine Rk.ok q (.ref p) (upd d p (.lst vs)) H' ⟨s.hh,λa o z=>?_,λa o z=>?_,λa z n=>?_⟩ (.lst (SqL.of aN) (i.same (aD.upd b)))
 .rw[aF (aV (s.ff a o z) b)];exact s.ff a o z
 .by_cases w:a=p
  · subst w; rw [aN]at z; rw [g]; exact z
  · rw [aF w]at z; exact s.fh a o z
 .by_cases w:a=p
  · subst w; exact .inl h2
  · rw [aF w]at n; exact s.nw a z n⟩
def e1(g:α->R β)(f:Sg->R α):Sg->R β:=λY=>(f Y).bind g
def e2{γ:Type}(g:α->β->R γ)(f:Sg->R α)(f':Sg->R β):Sg->R γ:=λY=>(f Y).bind λx=>(f' Y).bind λy=>g x y
noncomputable def bJ:Dz->Dz->R Dz
 | .int i,.int j=>.ok (.int (i+j))
 | .str x,.str y=>if x.length+y.length<=sizeLine then .ok (.str (x++y))else .bad
 | .tuple xs,.tuple ys=>if xs.isEmpty=false/\xs.length+ys.length<=sizeLine then .ok (.tuple (xs++ys))else .bad
 | _,_=>.bad
def dSub:Dz->Dz->R Dz
 | .int i,.int j=>.ok (.int (i - j))
 | _,_=>.bad
noncomputable def dMul:Dz->Dz->R Dz
 | .int i,.int j=>if (-18446744073709551616 < i/\i < 18446744073709551616)\/(-18446744073709551616 < j/\j < 18446744073709551616)then .ok (.int (i * j))else .bad
 | _,_=>.bad
def dDiv:Dz->Dz->R Dz
 | .int i,.int j=>if 0 < j/\j < 18446744073709551616 then .ok (.int (i / j))else .bad
 | _,_=>.bad
def dMod:Dz->Dz->R Dz
 | .int i,.int j=>if 0 < j then .ok (.int (i % j))else .bad
 | _,_=>.bad
def dNeg:Dz->R Dz
 | .int i=>.ok (.int (-i))
 | _=>.bad
def dLt:Dz->Dz->R Dz
 | .int i,.int j=>.ok (.bool (decide (i < j)))
 | _,_=>.bad
def dLe:Dz->Dz->R Dz
 | .int i,.int j=>.ok (.bool (decide (i<=j)))
 | _,_=>.bad
def dGt:Dz->Dz->R Dz
 | .int i,.int j=>.ok (.bool (decide (j < i)))
 | _,_=>.bad
def dGe:Dz->Dz->R Dz
 | .int i,.int j=>.ok (.bool (decide (j<=i)))
 | _,_=>.bad
def dEq(x y:Dz):R Dz:=if shaped x=true/\shaped y=true then .ok (.bool (PyData.eqv x y))else .bad
def dNe(x y:Dz):R Dz:=if shaped x=true/\shaped y=true then .ok (.bool (!PyData.eqv x y))else .bad
def iJ:Dz->Bool
 | .none=>true
 | _=>false
def dIs(x y:Dz):R Dz:=if iJ y=true then .ok (.bool (iJ x))else .bad
def dIsnt(x y:Dz):R Dz:=if iJ y=true then .ok (.bool (!iJ x))else .bad
noncomputable def inD:Dz->Dz->O9 Bool
 | .str i,.str j=>some (!(Builtin.Str.occurrences j i 0 j.length 1).isEmpty)
 | x,.list xs=>if shaped x=true/\shaped (.list xs)=true then some (xs.any λy=>PyData.eqv y x)else none
 | x,.tuple xs=>if shaped x=true/\shaped (.tuple xs)=true then some (xs.any λy=>PyData.eqv y x)else none
 | _,_=>none
def dIn(x y:Dz):R Dz:=match inD x y with
 | some b=>.ok (.bool b)
 | none=>.bad
def dNin(x y:Dz):R Dz:=match inD x y with
 | some b=>.ok (.bool (!b))
 | none=>.bad
noncomputable def dIx:Dz->Dz->R Dz
 | .list xs,.int i=>match atI xs i with
  | some v=>.ok v
  | none=>.bad
 | .tuple xs,.int i=>match atI xs i with
  | some v=>.ok v
  | none=>.bad
 | .str z,.int i=>if z.length<=sizeLine then match atI z.cps.toList i with
  | some u=>.ok (.str ⟨#[u]⟩)
  | none=>.bad else .bad
 | _,_=>.bad
end
section
variable{X:Cx}{c:Ct}{E:XK}{e a b:E2}{α β γ:Type}{Ra:VR α}{Rb:VR β}{Rc:VR γ}{pos:Pos}
def r2D(Ra:VR α)(Rb:VR β)(Rc:VR γ)(g:α->β->R γ):R2:=λv u H Q=>∃ H0 H1 F a b d,aD F H/\Ra a v H0 F H/\Rb b u H1 F H/\g a b=.ok d/\∀ w F' H',Ext F H F' H'->Rc d w H F' H'->Q w H'
def r1D(Ra:VR α)(Rb:VR β)(g:α->R β):V->Hp->VK->Prop:=λv H Q=>∃ H0 F a b,aD F H/\Ra a v H0 F H/\g a=.ok b/\∀ w F' H',Ext F H F' H'->Rb b w H F' H'->Q w H'
theorem vX{g:α->β->R γ}:Op2 c Ra Rb Rc g (r2D Ra Rb Rc g):=λi H1 F H a b d v u Q f h j e q=>⟨i,H1,F,a,b,d,f,h,j,e,q⟩
theorem vY{g:α->R β}:Op1 c Ra Rb g (r1D Ra Rb g):=λh F H a b v Q e f d q=>⟨h,F,a,b,e,f,d,q⟩
theorem qW{op:Operator}{g:Dz->Dz->R Dz}{d fb:Sg->R Dz}(f:OpR X (binaryOp op) (r2D (aS c) (aS c) (bO c) g))(i:cK g)(e:PR X c E a d)(hb:PR X c E b fb):PD X c E (.BinOp a op b pos) (e2 g d fb):=
 PE.imp (aMP f e hb) λZ H Q h=>tV2 vX i (qV c) (lY c) h
theorem aVA{op:UnaryOp}{g:Dz->R Dz}{b:Sg->R Dz}(e:UnR X (unaryOp op) (r1D (aS c) (bO c) g))(f:mR g)(d:PR X c E a b):PD X c E (.UnaryOp op a pos) (e1 g b):=
 PE.imp (aUY e d) λZ H Q h=>tV1 vY f (lY c) h
theorem oI{op:CmpOp}{g:Dz->Dz->R Dz}{d fb:Sg->R Dz}(j:OpR X (compareOp op) (r2D (aS c) (aS c) (bO c) g))(i:cK g)(f:PR X c E a d)(hb:PR X c E b fb)(e:behindInMarks op b=false):PD X c E (.Compare a [op] [b] pos) (e2 g d fb):=
 PE.imp (xJ j f hb e) λZ H Q h=>tV2 vX i (qV c) (lY c) h
theorem aM1{g:Dz->Dz->R Dz}{d fb:Sg->R Dz}(j:IxR X (r2D (aS c) (aS c) (bO c) g))(f:cK g)(e:PR X c E a d)(hb:PR X c E b fb)(i:aC8 b:=by exact λ_ _=>rfl):PD X c E (.Subscript a b pos) (e2 g d fb):=
 PE.imp (L2.aU5 j e hb i) λZ H Q h=>tV2 vX f (qV c) (lY c) h
theorem aOK(D:X.K=c.K):OpR X (binaryOp .Add) (r2D (aS c) (aS c) (bO c) bJ):=by
 intro a0 s Z H v u x y Q I m n h
 obtain⟨G,H1,F,a,b,d,f,l,r,e,q⟩:=h
 unfold bJ at e
 split at e
 .rename_i i j
  cases e
  obtain rfl:=aK.int_of l
  obtain rfl:=aK.int_of r
  exact aRQ a0 s Z H _ _ x y Q I m n ⟨i,j,rfl,rfl,q _ F H (Ext.refl f) (.int _)⟩
 .rename_i i j
  split at e
  .rename_i k
   cases e
   obtain rfl:=aK.str_of l
   obtain rfl:=aK.str_of r
   exact aE6 a0 s Z H _ _ x y Q I m n ⟨i,j,rfl,rfl,k,q _ F H (Ext.refl f) (.str _)⟩
  .cases e
 .rename_i xs ys
  split at e
  .rename_i k
   cases e
   obtain⟨E,vs,rfl,B,t,g⟩:=aK.tup_of f l
   obtain⟨C,us,rfl,fb,A,o⟩:=aK.tup_of f r
   rw[<-D]at t A
   refine aN0 a0 s Z H _ _ x y Q I m n ⟨E,C,vs,us,rfl,rfl,t,A,?_,by rw[g.length,o.length];exact k.2,λz=>?_,λz p w=>?_⟩
   .intro z;subst z;obtain rfl:xs=[]:=by cases g;rfl
    simp_all
   .subst z
    obtain rfl:ys=[]:=by cases o;rfl
    exact q _ F H (Ext.refl f) (by rw[C0];exact .tup B g)
   .exact q _ _ _ (Ext.new f w) (.tup (SqT.of aN) ((g.append o).same (aD.upd (aU f w))))
  .cases e
 .cases e
theorem aHR:cK bJ:=by
 intro a b e h
 unfold bJ at h
 ext
theorem lO{f:V9->V9->Sem V9}{g:Dz->Dz->R Dz}{k:Int->Int->Dz}{kv:Int->Int->V}(w:OpR X f (rI C kv))(e:∀ i j F,DatV c.K F (kv i j) (k i j))
  (o:∀ a b d,g a b=.ok d->∃ i j,a=.int i/\b=.int j/\C i j/\d=k i j):OpR X f (r2D (aS c) (aS c) (bO c) g):=by
 intro a0 s Z H v u x y Q I m p h
 obtain⟨A,H1,F,a,b,d,t,l,z,r,q⟩:=h
 obtain⟨i,j,rfl,rfl,n,rfl⟩:=o a b d r
 obtain rfl:=aK.int_of l
 obtain rfl:=aK.int_of z
 exact w a0 s Z H _ _ x y Q I m p ⟨i,j,rfl,rfl,n,q _ F H (Ext.refl t) (e i j F)⟩
theorem vZ{f:V9->V9->Sem V9}{kv:Int->Int->V}(b:OpR X f (rI0 kv)):OpR X f (rI (λ_ _=>True) kv):=λa0 s Z H x y v u Q I c a ⟨i,j,h1,h2,_,q⟩=>b a0 s Z H x y v u Q I c a ⟨i,j,h1,h2,q⟩
theorem aOL:OpR X (binaryOp .Sub) (r2D (aS c) (aS c) (bO c) dSub):=lO (vZ aRR) (λ_ _ _=>.int _) λa b d h=>by
 unfold dSub at h;split at h
 · simp_all
 · cases h
theorem aOM:OpR X (binaryOp .Mult) (r2D (aS c) (aS c) (bO c) dMul):=lO aRS (λ_ _ _=>.int _) λa b d h=>by
 unfold dMul at h;split at h
 .split at h
  · rename_i e; cases h; exact⟨_, _, rfl, rfl, e, rfl⟩
  · cases h
 .cases h
theorem aON:OpR X (binaryOp .FloorDiv) (r2D (aS c) (aS c) (bO c) dDiv):=lO aKJ (λ_ _ _=>.int _) λa b d h=>by
 unfold dDiv at h;split at h
 .split at h
  · rename_i e; cases h; exact⟨_, _, rfl, rfl, e, rfl⟩
  · cases h
 .cases h
theorem aOO:OpR X (binaryOp .Mod) (r2D (aS c) (aS c) (bO c) dMod):=lO aRT (λ_ _ _=>.int _) λa b d h=>by
 unfold dMod at h;split at h
 · ext
 · cases h
theorem aHS:OpR X (compareOp .Lt) (r2D (aS c) (aS c) (bO c) dLt):=lO (vZ aUZ) (λ_ _ _=>.bl _) λa b d h=>by
 unfold dLt at h;split at h
 · cases h; exact⟨_, _, rfl, rfl, trivial, rfl⟩
 · cases h
theorem aSJ:OpR X (compareOp .LtE) (r2D (aS c) (aS c) (bO c) dLe):=lO (vZ aU0) (λ_ _ _=>.bl _) λa b d h=>by
 unfold dLe at h;split at h
 · cases h; exact⟨_, _, rfl, rfl, trivial, rfl⟩
 · cases h
theorem aHT:OpR X (compareOp .Gt) (r2D (aS c) (aS c) (bO c) dGt):=lO (vZ aU1) (λ_ _ _=>.bl _) λa b d h=>by
 unfold dGt at h;split at h
 · cases h; exact⟨_, _, rfl, rfl, trivial, rfl⟩
 · cases h
theorem aSK:OpR X (compareOp .GtE) (r2D (aS c) (aS c) (bO c) dGe):=lO (vZ aU2) (λ_ _ _=>.bl _) λa b d h=>by
 unfold dGe at h;split at h
 · cases h; exact⟨_, _, rfl, rfl, trivial, rfl⟩
 · cases h
theorem aHU:cK dSub:=by intro a b e h;unfold dSub at h;split at h<;>cases h
theorem aHV:cK dMul:=by intro a b e h;unfold dMul at h;split at h<;>(try split at h)<;>cases h
theorem aHW:cK dDiv:=by intro a b e h;unfold dDiv at h;split at h<;>(try split at h)<;>cases h
theorem aHX:cK dMod:=by intro a b e h;unfold dMod at h;split at h<;>(try split at h)<;>cases h
theorem aA5:cK dLt:=by intro a b e h;unfold dLt at h;split at h<;>cases h
theorem aKT:cK dLe:=by intro a b e h;unfold dLe at h;split at h<;>cases h
theorem aA6:cK dGt:=by intro a b e h;unfold dGt at h;split at h<;>cases h
theorem aKU:cK dGe:=by intro a b e h;unfold dGe at h;split at h<;>cases h
theorem aA7:cK dEq:=by intro a b e h;unfold dEq at h;split at h<;>cases h
theorem aA8:cK dNe:=by intro a b e h;unfold dNe at h;split at h<;>cases h
theorem aKV:cK dIs:=by intro a b e h;unfold dIs at h;split at h<;>cases h
theorem aFQ:cK dIsnt:=by intro a b e h;unfold dIsnt at h;split at h<;>cases h
theorem aA9:cK dIn:=by intro a b e h;unfold dIn at h;split at h<;>cases h
theorem zA:cK dNin:=by intro a b e h;unfold dNin at h;split at h<;>cases h
theorem aHY:mR dNeg:=by intro a e h;unfold dNeg at h;split at h<;>cases h
theorem aBA:cK dIx:=by
 intro a b e h
 unfold dIx at h
 ext
theorem aOP:UnR X (unaryOp .USub) (r1D (aS c) (bO c) dNeg):=by
 intro a0 s Z H v x Q I g h
 obtain⟨j,F,a,d,e,f,b,q⟩:=h
 unfold dNeg at b
 split at b
 .rename_i i
  cases b
  obtain rfl:=aK.int_of f
  exact aRU a0 s Z H _ x Q I g ⟨i,rfl,q _ F H (Ext.refl e) (.int _)⟩
 .cases b
theorem aHZ(g:X.K=c.K)(m:X.A.units+64 < cLine):OpR X (compareOp .Eq) (r2D (aS c) (aS c) (bO c) dEq):=by
 intro a0 s Z H v u x y Q I l j h
 obtain⟨o,H1,F,a,b,d,f,k,n,e,q⟩:=h
 unfold dEq at e
 split at e
 .rename_i i
  cases e
  exact aR5 m a0 s Z H _ _ x y Q I l j ⟨a,b,by rw[g];exact aK.heap f k,by rw[g];exact aK.heap f n,i.1,i.2,q _ F H (Ext.refl f) (.bl _)⟩
 .cases e
theorem aH0(g:X.K=c.K)(m:X.A.units+64 < cLine):OpR X (compareOp .NotEq) (r2D (aS c) (aS c) (bO c) dNe):=by
 intro a0 s Z H v u x y Q I l j h
 obtain⟨o,H1,F,a,b,d,f,k,n,e,q⟩:=h
 unfold dNe at e
 split at e
 .rename_i i
  cases e
  exact aR6 m a0 s Z H _ _ x y Q I l j ⟨a,b,by rw[g];exact aK.heap f k,by rw[g];exact aK.heap f n,i.1,i.2,q _ F H (Ext.refl f) (.bl _)⟩
 .cases e
theorem nK{F H:Hp}{v:V}{d:Dz}(h:aK K F H v d):decide (v=.non)=iJ d:=by
 rcases h with h|⟨p,vs,xs,h1,h2,_⟩
 · cases h <;> rfl
 · subst h1 h2; rfl
theorem aSL:OpR X (compareOp .Is) (r2D (aS c) (aS c) (bO c) dIs):=by
 intro a0 s Z H v u x y Q I j f h
 obtain⟨m,H1,F,a,b,d,g,i,l,e,q⟩:=h
 unfold dIs at e
 split at e
 .rename_i k
  cases e
  have e2:=nK l
  rw[k]at e2
  refine aRV a0 s Z H _ _ x y Q I j f ⟨BH e2,q _ F H (Ext.refl g) ?_⟩
  rw[nK i];exact .bl _
 .cases e
theorem aKW:OpR X (compareOp .IsNot) (r2D (aS c) (aS c) (bO c) dIsnt):=by
 intro a0 s Z H v u x y Q I j f h
 obtain⟨m,H1,F,a,b,d,g,i,l,e,q⟩:=h
 unfold dIsnt at e
 split at e
 .rename_i k
  cases e
  have e2:=nK l
  rw[k]at e2
  refine aNT a0 s Z H _ _ x y Q I j f ⟨BH e2,q _ F H (Ext.refl g) ?_⟩
  rw[nK i];exact .bl _
 .cases e
theorem v0(h:shaped (.list xs)=true):PyData.canLayAll0 xs=true/\PyData.depthAll xs<=63:=by
 have h':(PyData.canLay0 (.list xs) && decide ((PyData.list xs).depth<=64))=true:=h
 rw[A1]at h'
 have a:PyData.depthAll xs+1<=64:=BH h'.2
 exact⟨h'.1,by ext⟩
theorem tW(h:shaped (.tuple xs)=true):PyData.canLayAll0 xs=true/\PyData.depthAll xs<=63:=by
 have h':(PyData.canLay0 (.tuple xs) && decide ((PyData.tuple xs).depth<=64))=true:=h
 rw[A1]at h'
 have a:PyData.depthAll xs+1<=64:=BH h'.2
 exact⟨h'.1,by ext⟩
theorem cT{d:Dz}(h:shaped d=true):d.canLay0=true:=by
 have h':(PyData.canLay0 d && decide (d.depth<=64))=true:=h
 ext
theorem inD_cases{x y:Dz}{b:Bool}(h:inD x y=some b):(∃ i j,x=.str i/\y=.str j/\b = !(Builtin.Str.occurrences j i 0 j.length 1).isEmpty) \/
  (∃ xs,y=.list xs/\shaped x=true/\shaped (.list xs)=true/\b=xs.any λz=>PyData.eqv z x)\/(∃ xs,y=.tuple xs/\shaped x=true/\shaped (.tuple xs)=true/\b=xs.any λz=>PyData.eqv z x):=by
 unfold inD at h
 ext
theorem pJ{a b:Nat}(h:a<=63):min a b<=63:=AV (EJ _ _) h
theorem aH1(k:X.K=c.K)(C:X.A.units+64 < cLine):OpR X (compareOp .In) (r2D (aS c) (aS c) (bO c) dIn):=by
 intro a0 s Z H v u x y Q I n o h
 obtain⟨B,H1,F,a,b,d,e,m,p,l,q⟩:=h
 unfold dIn at l
 split at l
 .rename_i r z
  cases l
  have f:EP X a0 Z Q (.bool r) s:=⟨.bl r,H,I,rfl,q _ F H (Ext.refl e) (.bl _)⟩
  rcases inD_cases z with ⟨i,j,rfl,rfl,rfl⟩|⟨xs,rfl,h1,h2,rfl⟩|⟨xs,rfl,h1,h2,rfl⟩
  .obtain rfl:=aK.str_of m
   obtain rfl:=aK.str_of p
   exact aGV a0 s Z H _ _ x y Q I n o ⟨i,j,rfl,rfl,q _ F H (Ext.refl e) (.bl _)⟩
  .obtain ⟨w,r1⟩:=DatV.reads I (by rw[k];exact aK.heap e m) (cT h1) n
   obtain⟨bs,r2⟩:=DatV.reads I (by rw[k];exact aK.heap e p) (cT h2) o
   have g:=v0 h2
   have t:=pJ (b:=a.depth) g.2
   exact SeqAt.in_list_reads r2 r1 g.1 (cT h1) (by ext) f
  .obtain ⟨w,r1⟩:=DatV.reads I (by rw[k];exact aK.heap e m) (cT h1) n
   obtain⟨bs,r2⟩:=DatV.reads I (by rw[k];exact aK.heap e p) (cT h2) o
   have g:=tW h2
   have t:=pJ (b:=a.depth) g.2
   exact SeqAt.in_tuple_reads r2 r1 g.1 (cT h1) (by ext) f
 .cases l
theorem aDK(k:X.K=c.K)(B:X.A.units+64 < cLine):OpR X (compareOp .NotIn) (r2D (aS c) (aS c) (bO c) dNin):=by
 intro a0 s Z H v u x y Q I n o h
 obtain⟨z,H1,F,a,b,d,e,m,p,l,q⟩:=h
 unfold dNin at l
 split at l
 .rename_i bb w
  cases l
  have f:EP X a0 Z Q (.bool (!bb)) s:=⟨.bl (!bb),H,I,rfl,q _ F H (Ext.refl e) (.bl _)⟩
  rcases inD_cases w with ⟨i,j,rfl,rfl,rfl⟩|⟨xs,rfl,h1,h2,rfl⟩|⟨xs,rfl,h1,h2,rfl⟩
  .obtain rfl:=aK.str_of m
   obtain rfl:=aK.str_of p
   exact aAF a0 s Z H _ _ x y Q I n o ⟨i,j,rfl,rfl,q _ F H (Ext.refl e) (.bl _)⟩
  .obtain ⟨t,r1⟩:=DatV.reads I (by rw[k];exact aK.heap e m) (cT h1) n
   obtain⟨bs,r2⟩:=DatV.reads I (by rw[k];exact aK.heap e p) (cT h2) o
   have g:=v0 h2
   have r:=pJ (b:=a.depth) g.2
   exact SeqAt.notIn_list_reads r2 r1 g.1 (cT h1) (by ext) f
  .obtain ⟨t,r1⟩:=DatV.reads I (by rw[k];exact aK.heap e m) (cT h1) n
   obtain⟨bs,r2⟩:=DatV.reads I (by rw[k];exact aK.heap e p) (cT h2) o
   have g:=tW h2
   have r:=pJ (b:=a.depth) g.2
   exact SeqAt.notIn_tuple_reads r2 r1 g.1 (cT h1) (by ext) f
 .cases l
theorem aM2(B:X.K=c.K):IxR X (r2D (aS c) (aS c) (bO c) dIx):=by
 intro f e a0 s Z H v u x y Q I m o h t
 obtain⟨D,H1,F,a,b,d,k,l,A,g,q⟩:=h
 unfold dIx at g
 split at g
 .rename_i xs i
  split at g
  .rename_i w j
   cases g
   obtain⟨p,vs,rfl,h1,h2⟩:=aK.lst_of k l
   obtain rfl:=aK.int_of A
   obtain⟨z,n,r⟩:=aA4 h2 j
   rw[<-B]at h1
   exact aN1 f e a0 s Z H _ _ x y Q I m o ⟨p,vs,i,z,rfl,rfl,h1,n,q _ F H (Ext.refl k) r⟩ t
  .cases g
 .rename_i xs i
  split at g
  .rename_i w j
   cases g
   obtain⟨p,vs,rfl,_,h1,h2⟩:=aK.tup_of k l
   obtain rfl:=aK.int_of A
   obtain⟨z,n,r⟩:=aA4 h2 j
   rw[<-B]at h1
   exact aR1 f e a0 s Z H _ _ x y Q I m o ⟨p,vs,i,z,rfl,rfl,h1,n,q _ F H (Ext.refl k) r⟩ t
  .cases g
 .rename_i z i
  split at g
  .rename_i C
   split at g
   .rename_i w j
    cases g
    obtain rfl:=aK.str_of l
    obtain rfl:=aK.int_of A
    exact aR2 f e a0 s Z H _ _ x y Q I m o ⟨z,i,w,rfl,rfl,C,j,q _ F H (Ext.refl k) (.str _)⟩ t
   .cases g
  .cases g
 .cases g
def tTf(c:Ct)(E:XK)(f:Sg->R Bool):TT:=λZ H Q=>∃ Y F,Ab c Y Z F H/\Rk c E F H (f Y) λb=>∀ F' H',Ext F H F' H'->Q b H'
abbrev PTf(X:Cx)(c:Ct)(E:XK)(e:E2)(f:Sg->R Bool):Prop:=PT X e (tTf c E f)
def asB:Dz->R Bool
 | .bool b=>.ok b
 | _=>.bad
theorem xW{f:Sg->R Dz}{Z:L2.St}{H:Hp}{Q:Bool->Hp->Prop}(h:tTf c E (e1 asB f) Z H Q):tV (bO c) c E f Z H λx H'=>∃ k,x=.bl k/\Q k H':=by
 obtain⟨Y,F,ab,h⟩:=h
 refine⟨Y,F,ab,(Rk.bind h).imp λd _ q v a H' s r=>?_⟩
 cases d with
 | bool b=>exact⟨b,DatV.bl_of r,Rk.ok q a H' s⟩
 | _=>exact False.elim q
theorem g9{op:CmpOp}{g:Dz->Dz->R Dz}{d fb:Sg->R Dz}(j:OpR X (compareOp op) (r2D (aS c) (aS c) (bO c) g))(i:cK g)(f:PR X c E a d)(hb:PR X c E b fb)(e:behindInMarks op b=false):PTf X c E (.Compare a [op] [b] pos) (e1 asB (e2 g d fb)):=
 PT.imp (xK j f hb e) λZ H Q h=>tV2 vX i (qV c) (lY c) (xW h)
theorem qH{f:Sg->R Dz}(h:PD X c E e f)(a:∀ whole,isTrue e X.env whole=(do let v <-whole;standAt e.pos;holding [v] (truthy v)):=by intro _;rfl):PTf X c E e (e1 asB f):=
 PT.imp (L2.qH h a) λZ H Q h=>xW h
def mS(f g:Sg->R Bool):Sg->R Bool:=λY=>(f Y).bind λb=>if b=true then g Y else .ok false
def bOr(f g:Sg->R Bool):Sg->R Bool:=λY=>(f Y).bind λb=>if b=true then .ok true else g Y
def pK(f:Sg->R Bool):Sg->R Bool:=λY=>(f Y).bind λb=>.ok (!b)
abbrev PWf(X:Cx)(c:Ct)(E:XK)(e:E2)(f:Sg->R Bool):Prop:=PW X e (tTf c E f)
theorem PW.imp{X:Cx}{e:E2}{t t':TT}(h:PW X e t)(i:∀ Z H Q,t' Z H Q->t Z H Q):PW X e t':=λa a0 s Z H Q I q=>h a a0 s Z H Q I (i Z H Q q)
theorem aWU{f g:Sg->R Bool}{Z:L2.St}{H:Hp}{Q:Bool->Hp->Prop}(h:tTf c E (mS f g) Z H Q):aRI (tTf c E f) (tTf c E g) Z H Q:=by
 obtain⟨Y,F,ab,h⟩:=h
 refine⟨Y,F,ab,(Rk.bind h).imp λb _ q a H' s=>?_⟩
 cases b with
 | true=>exact⟨Y,a,ab.ext s,(Rk.ext s q).imp λd _ z e H2 i=>z e H2 (s.trans i)⟩
 | false=>exact Rk.ok q a H' s
theorem tor{f g:Sg->R Bool}{Z:L2.St}{H:Hp}{Q:Bool->Hp->Prop}(h:tTf c E (bOr f g) Z H Q):tOr (tTf c E f) (tTf c E g) Z H Q:=by
 obtain⟨Y,F,ab,h⟩:=h
 refine⟨Y,F,ab,(Rk.bind h).imp λb _ q a H' s=>?_⟩
 cases b with
 | false=>exact⟨Y,a,ab.ext s,(Rk.ext s q).imp λd _ z e H2 i=>z e H2 (s.trans i)⟩
 | true=>exact Rk.ok q a H' s
theorem sA{f:Sg->R Bool}(h:PTf X c E a f):PWf X c E (.BoolOp .And [a] pos) f:=L2.sA h
theorem aAE{f:Sg->R Bool}(h:PTf X c E a f):PWf X c E (.BoolOp .Or [a] pos) f:=L2.aAE h
theorem vF{f g:Sg->R Bool}(h:PTf X c E a f)(h2:PWf X c E (.BoolOp .And (b::rest) pos) g):PWf X c E (.BoolOp .And (a::b::rest) pos) (mS f g):=PW.imp (L2.vF h h2) λ_ _ _ q=>aWU q
theorem zY{f g:Sg->R Bool}(h:PTf X c E a f)(h2:PWf X c E (.BoolOp .Or (b::rest) pos) g):PWf X c E (.BoolOp .Or (a::b::rest) pos) (bOr f g):=PW.imp (L2.zY h h2) λ_ _ _ q=>tor q
theorem qI{f:Sg->R Bool}(h:PTf X c E a f):PTf X c E (.UnaryOp .Not a pos) (pK f):=PT.imp (L2.qI h) λZ H Q ⟨Y,F,ab,k⟩=>⟨Y,F,ab,(Rk.bind k).imp λb _ q d H' s=>Rk.ok q d H' s⟩
noncomputable def aKX(f g:Sg->R Dz):Sg->R Dz:=λY=>(f Y).bind λx=>(asB x).bind λb=>if b=true then g Y else .ok (.bool false)
def aFR(f:Sg->R Dz):Sg->R Dz:=λY=>(f Y).bind λx=>(asB x).bind λb=>.ok (.bool (!b))
def eIf{α:Type}(t:Sg->R Bool)(f g:Sg->R α):Sg->R α:=λY=>(t Y).bind λb=>if b=true then f Y else g Y
theorem aSM{op}{f:Sg->R Dz}(h:PD X c E a f):PD X c E (.BoolOp op [a] pos) f:=aRJ h
theorem aSN{f g:Sg->R Dz}(h:PD X c E a f)(h2:PD X c E (.BoolOp .And (b::rest) pos) g):PD X c E (.BoolOp .And (a::b::rest) pos) (aKX f g):=PE.imp (aRK h h2) λZ H Q e=>by
 obtain⟨Y,F,ab,k⟩:=e
 refine⟨Y,F,ab,(Rk.bind k).imp λd _ q v i H' s r=>?_⟩
 cases d with
 | bool b=>
  refine⟨b,DatV.bl_of r,?_⟩
  cases b with
  | true=>exact aAK ⟨Y,i,ab.ext s,(Rk.ext s q).imp λd _ z v l H2 j=>z v l H2 (s.trans j)⟩
  | false=>exact aAJ (Rk.ok q (.bl false) i H' s (.bl false))
 | _=>exact False.elim q
theorem aSO{f:Sg->R Dz}(h:PD X c E a f):PD X c E (.UnaryOp .Not a pos) (aFR f):=PE.imp (aRL h) λZ H Q e=>by
 obtain⟨Y,F,ab,k⟩:=e
 refine⟨Y,F,ab,(Rk.bind k).imp λd _ q v g H' s r=>?_⟩
 cases d with
 | bool b=>exact⟨b,DatV.bl_of r,Rk.ok q _ g H' s (.bl _)⟩
 | _=>exact False.elim q
theorem aVB{t:Sg->R Bool}{f g:Sg->R Dz}(m:PTf X c E q t)(h:PD X c E a f)(h2:PD X c E b g):PD X c E (.IfExp q a b pos) (eIf t f g):=PE.imp (aJ2 m h h2) λZ H Q j=>by
 obtain⟨Y,F,ab,k⟩:=j
 refine⟨Y,F,ab,(Rk.bind k).imp λb _ q l H' s=>?_⟩
 cases b with
 | true=>exact aAK ⟨Y,l,ab.ext s,(Rk.ext s q).imp λd _ z v i H2 e=>z v i H2 (s.trans e)⟩
 | false=>exact aAJ ⟨Y,l,ab.ext s,(Rk.ext s q).imp λd _ z v i H2 e=>z v i H2 (s.trans e)⟩
end
def AFs(g:Gb)(K:Frag)(mg:Str->O9 V9)(F:Hp):L9 A->L9 V->Prop
 | [],[]=>True
 | a::as,v::vs=>AF g K mg F a v/\AFs g K mg F as vs
 | _,_=>False
theorem AFs.same{g:Gb}{K:Frag}{mg:Str->O9 V9}{F F':Hp}(s:aD F F'):∀ {as:L9 A} {vs:L9 V},AFs g K mg F as vs->AFs g K mg F' as vs
 | [],[],_=>trivial
 | a::as,v::vs,h=>⟨AF.same s h.1,AFs.same s h.2⟩
theorem AFs.len{g:Gb}{K:Frag}{mg:Str->O9 V9}{F:Hp}:∀ {as:L9 A} {vs:L9 V},AFs g K mg F as vs->vs.length=as.length
 | [],[],_=>rfl
 | a::as,v::vs,h=>by rw[BG,BG,AFs.len h.2]
theorem PA.imp{X:Cx}{es:L9 E2}{t t':TA}(h:PA X es t)(i:∀ Z H Q,t' Z H Q->t Z H Q):PA X es t':=λpos a0 s Z H Q I q=>h pos a0 s Z H Q I (i Z H Q q)
def tAd(c:Ct)(E:XK)(f:Sg->R (L9 Dz)):TA:=λZ H Q=>∃ Y F,Ab c Y Z F H/\Rk c E F H (f Y) λds=>∀ vs F' H',Ext F H F' H'->DatVs c.K F' vs ds->Q vs H'
def tAv(c:Ct)(E:XK)(f:Sg->R (L9 A)):TA:=λZ H Q=>∃ Y F,Ab c Y Z F H/\Rk c E F H (f Y) λds=>∀ vs F' H',Ext F H F' H'->AFs c.g c.K c.mg F' ds vs->Q vs H'
abbrev PAd(X:Cx)(c:Ct)(E:XK)(es:L9 E2)(f:Sg->R (L9 Dz)):Prop:=PA X es (tAd c E f)
abbrev PAv(X:Cx)(c:Ct)(E:XK)(es:L9 E2)(f:Sg->R (L9 A)):Prop:=PA X es (tAv c E f)
noncomputable def aC{α:Type}:Sg->R (L9 α):=λ_=>.ok []
def aA{α:Type}(f:Sg->R α)(g:Sg->R (L9 α)):Sg->R (L9 α):=λY=>(f Y).bind λx=>(g Y).bind λxs=>.ok (x::xs)
section
variable{X:Cx}{c:Ct}{E:XK}{e a b:E2}{es:L9 E2}{pos:Pos}
theorem aOQ:PAd X c E [] aC:=PA.imp bR λZ H Q ⟨Y,F,ab,k⟩=>Rk.ok k [] F H (Ext.refl ab.fh) .nil
theorem aOR:PAv X c E [] aC:=PA.imp bR λZ H Q ⟨Y,F,ab,k⟩=>Rk.ok k [] F H (Ext.refl ab.fh) trivial
theorem aKY{f:Sg->R Dz}{g:Sg->R (L9 Dz)}(h:PD X c E e f)(h2:PAd X c E es g)(j:starEach (e::es) X.env=(false,eval e X.env)::starEach es X.env:=by rfl):PAd X c E (e::es) (aA f g):=PA.imp (aZ h h2 j) λZ H Q a=>by
 obtain⟨Y,F,ab,k⟩:=a
 refine⟨Y,F,ab,(Rk.bind k).imp λx _ q v d H1 s1 r1=>⟨Y,d,ab.ext s1,((Rk.bind q).ext s1).imp λxs _ q vs i H2 b r2=>?_⟩⟩
 exact Rk.ok q (v::vs) i H2 (s1.trans b) (.cons (DatV.same b.ff r1) r2)
theorem pM{f:Sg->R A}{g:Sg->R (L9 A)}(h:PV X c E e f)(h2:PAv X c E es g)(j:starEach (e::es) X.env=(false,eval e X.env)::starEach es X.env:=by rfl):PAv X c E (e::es) (aA f g):=PA.imp (aZ h h2 j) λZ H Q a=>by
 obtain⟨Y,F,ab,k⟩:=a
 refine⟨Y,F,ab,(Rk.bind k).imp λx _ q v d H1 s1 r1=>⟨Y,d,ab.ext s1,((Rk.bind q).ext s1).imp λxs _ q vs i H2 b r2=>?_⟩⟩
 exact Rk.ok q (v::vs) i H2 (s1.trans b) ⟨AF.same b.ff r1,r2⟩
def bG(f:Sg->R (L9 Dz)):Sg->R Dz:=λY=>(f Y).bind λxs=>if xs.length<=16777216 then .ok (.tuple xs)else .bad
def cS(f:Sg->R (L9 Dz)):Sg->R (L9 Dz):=λY=>(f Y).bind λxs=>if xs.length<=16777216 then .ok xs else .bad
theorem cO:sizeLine=16777216:=HB
theorem aSP{x1}{f:Sg->R (L9 Dz)}(h:PAd X c E es f):PD X c E (.Tuple es x1 pos) (bG f):=PE.imp (aRX h) λZ H Q a=>by
 obtain⟨Y,F,ab,k⟩:=a
 refine⟨Y,F,ab,(Rk.bind k).imp λxs _ q vs e H1 s1 r1=>?_⟩
 by_cases b:xs.length<=16777216
 .rw[AJ b]at q
  refine⟨by rw[r1.length,cO];exact b,λp d=>?_⟩
  exact Rk.ok q (.ref p) _ _ (s1.trans (Ext.new s1.fh d)) (.tup (SqT.of aN) (r1.same (aD.upd (aU s1.fh d))))
 .rw[AM b]at q;exact q.elim
theorem aSQ{f:Sg->R (L9 Dz)}(h:PAd X c E es f):PN X c E (.List es pos) (cS f):=PE.imp (aRY h) λZ H Q b=>by
 obtain⟨Y,F,ab,k⟩:=b
 refine⟨Y,F,ab,(Rk.bind k).imp λxs _ q vs e H1 s1 r1=>?_⟩
 by_cases d:xs.length<=16777216
 .rw[AJ d]at q
  refine⟨by rw[r1.length,cO];exact d,λp a=>?_⟩
  exact Rk.ok q (.ref p) _ _ (s1.trans (Ext.own s1.fh a)) ⟨p,vs,rfl,aU s1.hh a,aN,aU s1.fh a,r1⟩
 .rw[AM d]at q;exact q.elim
noncomputable def dLen:Dz->R Dz
 | .str z=>if z.length<=16777216 then .ok (.int z.length)else .bad
 | .list xs=>.ok (.int xs.length)
 | .tuple xs=>.ok (.int xs.length)
 | _=>.bad
theorem plain_len:mR dLen:=by intro a e h;unfold dLen at h;split at h<;>(try split at h)<;>cases h
theorem aSR{l:Sg->R Dz}(j:X.K=c.K)(h0:PE X e (tCB (λxs H Q=>∃ x n,xs=[x]/\aRW X.K x H n/\Q (.int n) H) (cN (tV (aS c) c E l) fY))):PD X c E e (e1 dLen l):=
 PE.imp h0 λZ H Q h=>by
  obtain⟨Y,F,ab,k⟩:=tV1 (Ra:=aS c) vY plain_len (lY c) h
  refine⟨Y,F,ab,k.imp λd _ q v o H' s r=>?_⟩
  obtain⟨u,i,a,t,f,g,b,q⟩:=q v o H' s r
  unfold dLen at b
  split at b
  .rename_i z
   split at b
   .rename_i m
    cases b
    obtain rfl:=aK.str_of g
    exact⟨_,_,rfl,⟨by rw[cO];exact m,rfl⟩,q _ i H' (Ext.refl f) (.int _)⟩
   .cases b
  .cases b
   obtain⟨p,vs,rfl,h1,h2⟩:=aK.lst_of f g
   rw[<-j]at h1
   exact⟨_,vs.length,rfl,.inl ⟨vs,h1,rfl⟩,q _ i H' (Ext.refl f) (by rw[h2.length];exact .int _)⟩
  .cases b
   obtain⟨p,vs,rfl,_,h1,h2⟩:=aK.tup_of f g
   rw[<-j]at h1
   exact⟨_,vs.length,rfl,.inr ⟨vs,h1,rfl⟩,q _ i H' (Ext.refl f) (by rw[h2.length];exact .int _)⟩
  .cases b
noncomputable def dTup:Dz->R Dz
 | .list xs=>.ok (.tuple xs)
 | .tuple xs=>.ok (.tuple xs)
 | _=>.bad
theorem aH2:mR dTup:=by intro a e h;unfold dTup at h;split at h<;>cases h
theorem aKZ{m:Sg->R Dz}(g:X.K=c.K)(h0:PE X e (tCB (λxs H Q=>∃ p ys,xs=[.ref p]/\((SqL X.K H p ys/\∀ l,H l=none->Q (.ref l) (upd H l (.tup ys)))\/(SqT X.K H p ys/\Q (.ref p) H))) (cN (tV (aS c) c E m) fY))):PD X c E e (e1 dTup m):=
 PE.imp h0 λZ H Q h=>by
  obtain⟨Y,F,ab,k⟩:=tV1 (Ra:=aS c) vY aH2 (lY c) h
  refine⟨Y,F,ab,k.imp λd _ q v o H' s r=>?_⟩
  obtain⟨u,n,a,t,f,j,b,q⟩:=q v o H' s r
  unfold dTup at b
  split at b
  .cases b
   obtain⟨p,vs,rfl,h1,h2⟩:=aK.lst_of f j
   rw[<-g]at h1
   exact⟨p,vs,rfl,.inl ⟨h1,λl i=>q _ _ _ (Ext.new f i) (.tup (SqT.of aN) (h2.same (aD.upd (aU f i))))⟩⟩
  .cases b
   obtain⟨p,vs,rfl,f1,h1,h2⟩:=aK.tup_of f j
   rw[<-g]at h1
   exact⟨p,vs,rfl,.inr ⟨h1,q _ n H' (Ext.refl f) (.tup f1 h2)⟩⟩
  .cases b
noncomputable def dLst:Dz->R (L9 Dz)
 | .list xs=>.ok xs
 | .tuple xs=>.ok xs
 | _=>.bad
theorem aH3:mR dLst:=by intro a e h;unfold dLst at h;split at h<;>cases h
theorem aOS{m:Sg->R Dz}(i:X.K=c.K)(h0:PE X e (tCB (λxs H Q=>∃ p ys,xs=[.ref p]/\(SqL X.K H p ys\/SqT X.K H p ys)/\∀ l,H l=none->Q (.ref l) (upd H l (.lst ys))) (cN (tV (aS c) c E m) fY))):PN X c E e (e1 dLst m):=
 PE.imp h0 λZ H Q h=>by
  obtain⟨Y,F,ab,k⟩:=tV1 (Ra:=aS c) vY aH3 (aM0 c) h
  refine⟨Y,F,ab,k.imp λd _ q v n H' s r=>?_⟩
  obtain⟨t,u,a,o,f,j,g,q⟩:=q v n H' s r
  unfold dLst at g
  split at g
  .cases g
   obtain⟨p,vs,rfl,h1,h2⟩:=aK.lst_of f j
   rw[<-i]at h1
   exact⟨p,vs,rfl,.inl h1,λl b=>q _ _ _ (Ext.own f b) ⟨l,vs,rfl,b,aN,aU f b,h2⟩⟩
  .cases g
   obtain⟨p,vs,rfl,f1,h1,h2⟩:=aK.tup_of f j
   rw[<-i]at h1
   exact⟨p,vs,rfl,.inr h1,λl b=>q _ _ _ (Ext.own f b) ⟨l,vs,rfl,b,aN,aU f b,h2⟩⟩
  .cases g
noncomputable def dInt:Dz->R Dz
 | .int i=>.ok (.int i)
 | .bool b=>.ok (.int (if b=true then 1 else 0))
 | _=>.bad
theorem aH4:mR dInt:=by intro a e h;unfold dInt at h;split at h<;>cases h
theorem aOT{m:Sg->R Dz}(h0:PE X e (tCB (λxs H Q=>(∃ i,xs=[.int i]/\Q (.int i) H)\/∃ k,xs=[.bl k]/\Q (.int (if k then 1 else 0)) H) (cN (tV (aS c) c E m) fY))):PD X c E e (e1 dInt m):=
 PE.imp h0 λZ H Q h=>by
  obtain⟨Y,F,ab,k⟩:=tV1 (Ra:=aS c) vY aH4 (lY c) h
  refine⟨Y,F,ab,k.imp λd _ q v n H' s r=>?_⟩
  obtain⟨p,l,a,o,g,j,f,q⟩:=q v n H' s r
  unfold dInt at f
  split at f
  .cases f
   obtain rfl:=aK.int_of j
   exact .inl ⟨_,rfl,q _ l H' (Ext.refl g) (.int _)⟩
  .rename_i b
   cases f
   obtain rfl:=aK.bl_of j
   exact .inr ⟨b,rfl,q _ l H' (Ext.refl g) (by cases b<;>exact .int _)⟩
  .cases f
end
inductive Fw where
 | nx (Y:Sg)|bk (Y:Sg)|ct (Y:Sg)|rt (a:A)
def AR(g:Gb)(K:Frag)(mg:Str->O9 V9)(H F' H':Hp):A->V->Prop
 | .l xs,v=>∃ p us,v=.ref p/\H p=none/\H' p=some (.lst us)/\F' p=none/\DatVs K F' us xs
 | a,v=>AF g K mg F' a v
theorem AR.of{g:Gb}{K:Frag}{mg:Str->O9 V9}{H b H':Hp}{a:A}{v:V}(h:AF g K mg b a v):AR g K mg H b H' a v:=by
 cases a with
 | l xs=>exact False.elim h
 | _=>exact h
def iQ(c:Ct)(F:Hp)(D:iF):Fw->Prop
 | .nx Y=>∀ Z' F' H',aD F F'->Ab c Y Z' F' H'->D.nx Z' H'
 | .bk Y=>∀ Z' F' H',aD F F'->Ab c Y Z' F' H'->D.bk Z' H'
 | .ct Y=>∀ Z' F' H',aD F F'->Ab c Y Z' F' H'->D.ct Z' H'
 | .rt a=>∀ v F' H',Ext c.F0 c.H0 F' H'->AR c.g c.K c.mg c.H0 F' H' a v->D.rt v H'
theorem iQ.same{c:Ct}{F F1:Hp}{D:iF}(s:aD F F1):∀ {w:Fw},iQ c F D w->iQ c F1 D w
 | .nx Y,h=>λb d H' s' ab=>h b d H' (λa o z=>s' a o (s a o z)) ab
 | .bk Y,h=>λb d H' s' ab=>h b d H' (λa o z=>s' a o (s a o z)) ab
 | .ct Y,h=>λb d H' s' ab=>h b d H' (λa o z=>s' a o (s a o z)) ab
 | .rt a,h=>h
def tSf(c:Ct)(E:XK)(f:Sg->R Fw):TS:=λD Z H=>∃ Y F,Ab c Y Z F H/\Rk c E F H (f Y) (iQ c F D)
abbrev PSf(X:Cx)(c:Ct)(E:XK)(st:Stmt)(f:Sg->R Fw):Prop:=PS X st (tSf c E f)
abbrev kE(X:Cx)(c:Ct)(E:XK)(st:L9 Stmt)(f:Sg->R Fw):Prop:=PSs X st (tSf c E f)
theorem get_set{α:Type}{l:L9 α}{i j:Nat}{x y:α}(h:(l.set i x)[j]? = some y):(i=j/\y=x/\i < l.length)\/(i≠j/\l[j]? = some y):=by ext
theorem Ab.setF{c:Ct}{Y:Sg}{Z:L2.St}{F H:Hp}{i:Nat}{a:A}{v:V}(b:Ab c Y Z F H)(u:AO c F H a v)(s:a.own=true->∀ (j:Nat) (a':A),j≠i->Y[j]? = some (some a')->a'.own=true->Z[j]? ≠ some (some v)):Ab c (Y.set i (some a)) (Z.set i (some v)) F H where
 len:=by rw[CK,CK];exact b.len
 fh:=b.fh
 slot:=λj a' h=>by
  rcases get_set h with ⟨e,q,n⟩|⟨m,q⟩
  .subst e
   cases q
   exact⟨v,DG (by rw[<-b.len];exact n),u⟩
  .rw[CQ m];exact b.slot j a' q
 apart:=λj k a' t d h1 h2 r o=>by
  rcases get_set h1 with ⟨e,q,n⟩|⟨m,q⟩
  .subst e
   cases q
   rcases get_set h2 with ⟨p,g,l⟩|⟨f,g⟩
   .exact absurd p d
   .rw[DG (by rw[<-b.len];exact n),CQ f]
    exact(s r k t (BL d) g o).symm
  .rcases get_set h2 with ⟨p,g,l⟩|⟨f,g⟩
   .subst p
    cases g
    rw[DG (by rw[<-b.len];exact l),CQ m]
    exact s o j a' d q r
   .rw[CQ m,CQ f]
    exact b.apart j k a' t d q g r o
 f0:=b.f0
 h0:=b.h0
 n0:=b.n0
 t0:=b.t0
theorem AO.of{c:Ct}{F H:Hp}:∀ {a:A} {v:V},AF c.g c.K c.mg F a v->AO c F H a v
 | .d x,v,h=>h
 | .x e,v,h=>h
 | .g k n G,v,h=>h
 | .f ce,v,h=>h
 | .o e,v,h=>h
 | .w e,v,h=>h
theorem AF.notOwn{g:Gb}{K:Frag}{mg:Str->O9 V9}{F:Hp}:∀ {a:A} {v:V},AF g K mg F a v->a.own=false
 | .d x,v,h=>rfl
 | .x e,v,h=>rfl
 | .g k n G,v,h=>rfl
 | .f ce,v,h=>rfl
 | .o e,v,h=>rfl
 | .w e,v,h=>rfl
theorem Ab.setA{c:Ct}{Y:Sg}{Z:L2.St}{F H:Hp}{i:Nat}{a:A}{v:V}(b:Ab c Y Z F H)(d:AF c.g c.K c.mg F a v):Ab c (Y.set i (some a)) (Z.set i (some v)) F H:=
 b.setF (AO.of d) λz=>by rw[AF.notOwn d]at z;cases z
theorem Ab.setN{c:Ct}{Y:Sg}{Z:L2.St}{F H d H':Hp}{i:Nat}{xs:L9 Dz}{v:V}(b:Ab c Y Z F H)(e:Ext F H d H')(h:xV c xs v H d H'):Ab c (Y.set i (some (.l xs))) (Z.set i (some v)) d H':=by
 obtain⟨p,vs,rfl,h1,h2,m,f⟩:=h
 refine(b.ext e).setF ⟨p,vs,rfl,h2,m,aU b.h0 h1,f⟩ λ_ j g _ a k=>?_
 obtain⟨w,n,q⟩:=b.slot j g a
 rw[n]
 intro z
 cases z
 obtain⟨o,o',r,s,_⟩:=q.at k
 simp_all
theorem Ab.putO{c:Ct}{Y:Sg}{Z:L2.St}{F H:Hp}{i:Nat}{a t:A}{p:Az}{o:HO}(b:Ab c Y Z F H)(hi:Y[i]? = some (some a))(B:a.own=true)(M:Z[i]? = some (some (.ref p)))(Q:t.own=true)(X:AO c F (upd H p o) t (.ref p)) :
  Ab c (Y.set i (some t)) Z F (upd H p o):=by
 obtain⟨v,h1,q⟩:=b.slot i _ hi
 rw[M]at h1
 cases h1
 obtain⟨W,o',y,h2,O,P⟩:=q.at B
 cases y
 have E:∀ (j:Nat) (a:A) (w:V),j≠i->Y[j]? = some (some a)->Z[j]? = some (some w)->AO c F H a w->AO c F (upd H p o) a w:=by
  intro j G w T N J r
  by_cases own:G.own=true
  .refine r.off λz=>?_
   subst z
   exact b.apart j i _ _ T N hi own B (by rw[J,M])
  .cases G with
   | l zs=>exact absurd rfl own
   | m zs=>exact absurd rfl own
   | d x=>exact r
   | x e=>exact r
   | g k n f=>exact r
   | k S=>exact r
   | f S=>exact r
   | o S=>exact r
   | w S=>exact r
 exact {
  len:=by rw[CK];exact b.len
  fh:=λa o z=>by rw[aF (λw=>by subst w;rw[O]at z;cases z)];exact b.fh a o z
  slot:=λj a h=>by
   rcases get_set h with ⟨e,q,R⟩|⟨U,q⟩
   .grind
   .obtain ⟨w,J,r⟩:=b.slot j a q
    ext
  apart:=λj k t K s h1 h2 L I=>by
   rcases get_set h1 with ⟨e,q,R⟩|⟨U,q⟩
   .subst e
    cases q
    rcases get_set h2 with ⟨y,u,C⟩|⟨D,u⟩
    .grind
    .exact b.apart _ k _ K s hi u B I
   .rcases get_set h2 with ⟨y,u,C⟩|⟨D,u⟩
    .subst y
     exact b.apart j _ t _ s q hi L B
    .exact b.apart j k t K s q u L I
  f0:=b.f0
  h0:=λa o z=>by rw[aF (λw=>by subst w;rw[P]at z;cases z)];exact b.h0 a o z
  n0:=b.n0
  t0:=b.t0}
theorem Ab.putL{c:Ct}{Y:Sg}{Z:L2.St}{F H:Hp}{i:Nat}{xs ys:L9 Dz}{p:Az}{vs:L9 V}(b:Ab c Y Z F H)(hi:Y[i]? = some (some (.l xs)))(a:Z[i]? = some (some (.ref p)))(d:DatVs c.K F vs ys) :
  Ab c (Y.set i (some (.l ys))) Z F (upd H p (.lst vs)):=by
 obtain⟨v,h1,g,us,rfl,h2,f,e,h⟩:=b.slot i _ hi
 rw[a]at h1
 cases h1
 exact b.putO hi rfl a rfl ⟨p,vs,rfl,aN,f,e,d⟩
theorem Ab.putM{c:Ct}{Y:Sg}{Z:L2.St}{F H:Hp}{i:Nat}{ce a:L9 (Dz×Dz)}{p:Az}{es:L9 Ent}{ep:Nat}(b:Ab c Y Z F H)(hi:Y[i]? = some (some (.m ce)))(d:Z[i]? = some (some (.ref p)))(e:MapRel c.K F es a) :
  Ab c (Y.set i (some (.m a))) Z F (upd H p (dA c.w p es ep)):=by
 obtain⟨v,h1,h,us,rfl,h2,g,f,j⟩:=b.slot i _ hi
 rw[d]at h1
 cases h1
 exact b.putO hi rfl d rfl ⟨p,es,rfl,⟨ep,aN⟩,g,f,e⟩
theorem Ab.setM{c:Ct}{Y:Sg}{Z:L2.St}{F H a H':Hp}{i:Nat}{ce:L9 (Dz×Dz)}{p:Az}{es:L9 Ent}{ep:Nat}(b:Ab c Y Z F H)(e:Ext F H a H')(h1:H p=none)(h2:H' p=some (dA c.w p es ep))(k:a p=none)(f:MapRel c.K a es ce):Ab c (Y.set i (some (.m ce))) (Z.set i (some (.ref p))) a H':=by
 refine(b.ext e).setF ⟨p,es,rfl,⟨ep,h2⟩,k,aU b.h0 h1,f⟩ λ_ j h _ d g=>?_
 obtain⟨w,l,q⟩:=b.slot j h d
 rw[l]
 intro z
 cases z
 obtain⟨n,o',o,r,_⟩:=q.at g
 ext
noncomputable def fz(i:Nat)(Y:Sg):Sg:=match Y[i]? with
 | some (some (.l xs))=>Y.set i (some (.d (.list xs)))
 | _=>Y
theorem Ab.publ{c:Ct}{Y:Sg}{Z:L2.St}{F H:Hp}{i:Nat}{I y:A}{p:Az}{o:HO}(b:Ab c Y Z F H)(hi:Y[i]? = some (some I))(V:Z[i]? = some (some (.ref p)))(N:I.own=true)(h2:H p=some o)(u:F p=none)(v:c.H0 p=none)(no:y.own=false)(hr:AO c (upd F p o) H y (.ref p)):Ab c (Y.set i (some y)) Z (upd F p o) H:=by
 have t:aD F (upd F p o):=aD.upd u
 exact {
  len:=by rw[CK];exact b.len
  fh:=λa o' z=>by
   by_cases w:a=p
   .subst w;rw[aN]at z;rw[h2];exact z
   .rw[aF w]at z;exact b.fh a o' z
  slot:=λj a h=>by
   rcases get_set h with ⟨e,q,U⟩|⟨L,q⟩
   .grind
   .obtain ⟨w,G,s⟩:=b.slot j a q
    refine⟨w,G,?_⟩
    have off:∀ r,a.own=true->w=.ref r->F r=none->upd F p o r=none:=λr R e f=>by
     rw[aF]
     .exact f
     .intro z
      subst z
      exact b.apart j i _ _ (BL L) q hi R N (by rw[G,V,e])
    cases a with
    | l zs=>obtain⟨r,ws,e,B,s,E,D⟩:=s;exact⟨r,ws,e,B,off r rfl e s,E,D.same t⟩
    | m ce=>obtain⟨r,ws,e,B,s,E,D⟩:=s;exact⟨r,ws,e,B,off r rfl e s,E,D.same t⟩
    | d x=>exact DatV.same t s
    | x e=>exact AF.same (g:=c.g) (K:=c.K) (mg:=c.mg) (a:=.x e) t s
    | g k n f=>exact AF.same (g:=c.g) (K:=c.K) (mg:=c.mg) (a:=.g k n f) t s
    | k S=>obtain⟨S,f,cl,doc,pm,X,ct,h0,h1,h2,u,v⟩:=s;exact⟨S,f,cl,doc,pm,X,ct,h0,h1,t _ _ h2,t _ _ u,v⟩
    | f ce=>exact AF.same (g:=c.g) (K:=c.K) (mg:=c.mg) (a:=.f ce) t s
    | o e=>exact AF.same (g:=c.g) (K:=c.K) (mg:=c.mg) (a:=.o e) t s
    | w e=>exact s
  apart:=λj k W P C h1 h2 Q M=>by
   rcases get_set h1 with ⟨e,q,U⟩|⟨L,q⟩
   .grind
   .rcases get_set h2 with ⟨e',J,O⟩|⟨T,J⟩
    .grind
    .exact b.apart j k W P C q J Q M
  f0:=λa o z=>t a o (b.f0 a o z)
  h0:=b.h0
  n0:=λa z n=>by
   by_cases w:a=p
   .subst w;exact .inl v
   .rw[aF w]at n;exact b.n0 a z n
  t0:=b.t0}
theorem Ab.frz{c:Ct}{Y:Sg}{Z:L2.St}{F H:Hp}(b:Ab c Y Z F H)(i:Nat):∃ F',aD F F'/\Ab c (fz i Y) Z F' H:=by
 unfold fz
 split
 .rename_i xs hi
  obtain⟨v,e,p,vs,rfl,h2,a,d,f⟩:=b.slot i _ hi
  exact⟨_,aD.upd a,b.publ hi e rfl h2 a d rfl (.lst (SqL.of aN) (f.same (aD.upd a)))⟩
 .exact ⟨F,a9 F,b⟩
section
variable{X:Cx}{c:Ct}{E:XK}{e a b:E2}{st:Stmt}{rest:L9 Stmt}{pos:Pos}
def sFz(i:Nat)(f:Sg->R Fw):Sg->R Fw:=λY=>f (fz i Y)
theorem aM3(i:Nat){f:Sg->R Fw}(h:PSf X c E st f):PSf X c E st (sFz i f):=PS.imp h λD Z H d=>by
 obtain⟨Y,F,ab,k⟩:=d
 obtain⟨g,s,b⟩:=ab.frz i
 refine⟨fz i Y,g,b,?_⟩
 have a:Rk c E F H (f (fz i Y)) (iQ c F D):=k
 cases q:f (fz i Y)with
 | bad=>rw[q]at a;exact a
 | ok w=>rw[q]at a;exact iQ.same s a
 | ex e=>rw[q]at a;exact a
noncomputable def sNx:Sg->R Fw:=λY=>.ok (.nx Y)
def aB(f g:Sg->R Fw):Sg->R Fw:=λY=>(f Y).bind λw=>match w with
 | .nx Y'=>g Y'
 | w=>.ok w
theorem sB:kE X c E [] sNx:=PSs.imp L2.sB λD Z H ⟨Y,F,ab,k⟩=>Rk.ok k Z F H (a9 F) ab
theorem fW{f:Sg->R Fw}(h:PSf X c E st f):kE X c E [st] f:=L2.fW h
theorem aL{f g:Sg->R Fw}(h:PSf X c E st f)(h2:kE X c E rest g):kE X c E (st::rest) (aB f g):=PSs.imp (L2.aL h h2) λD Z H i=>by
 obtain⟨Y,F,ab,k⟩:=i
 refine⟨Y,F,ab,(Rk.bind k).imp λw _ q=>?_⟩
 cases w with
 | nx Y'=>
  intro m l H' s d
  refine⟨Y',l,d,?_⟩
  have b:Rk c E F H (g Y') (iQ c F D):=q
  cases j:g Y' with
  | bad=>rw[j]at b;exact b
  | ok w=>rw[j]at b;exact iQ.same s b
  | ex e=>rw[j]at b;exact b
 | bk Y'=>exact q
 | ct Y'=>exact q
 | rt a=>exact q
def aM(f:Sg->R A):Sg->R Fw:=λY=>(f Y).bind λa=>.ok (.rt a)
theorem kA{f:Sg->R A}(h:PV X c E e f):PSf X c E (.Return (some e) pos) (aM f):=PS.imp (L2.kA h) λD Z H ⟨Y,F,ab,k⟩=>
 ⟨Y,F,ab,(Rk.bind k).imp λa _ q v b H' s r=>Rk.ok q v b H' (ab.all.trans s) (AR.of r)⟩
def sIf(t:Sg->R Bool)(f g:Sg->R Fw):Sg->R Fw:=λY=>(t Y).bind λb=>if b=true then f Y else g Y
theorem Rk.fw{F a H H1:Hp}{D:iF}{r:R Fw}(s:aD F a)(k:Rk c E F H r (iQ c F D)):Rk c E a H1 r (iQ c a D):=by
 cases r with
 | bad=>exact k
 | ok w=>exact iQ.same s k
 | ex e=>exact k
theorem zZ{d e:L9 Stmt}{t:Sg->R Bool}{f g:Sg->R Fw}(j:PTf X c E q t)(i:kE X c E d f)(hb:kE X c E e g):PSf X c E (.If q d e pos) (sIf t f g):=PS.imp (L2.zZ j i hb) λD Z H a=>by
 obtain⟨Y,F,ab,k⟩:=a
 refine⟨Y,F,ab,(Rk.bind k).imp λb _ q h H' s=>?_⟩
 cases b with
 | true=>exact aAK ⟨Y,h,ab.ext s,Rk.fw s.ff q⟩
 | false=>exact aAJ ⟨Y,h,ab.ext s,Rk.fw s.ff q⟩
def aY(i:Nat)(f:Sg->R A):Sg->R Fw:=λY=>(f Y).bind λa=>.ok (.nx (Y.set i (some a)))
theorem eX{i:Nat}{f:Sg->R A}(h:PS X st (kQ (tV (aKS c) c E f) (kB i))):PSf X c E st (aY i f):=PS.imp h λD Z H ⟨Y,F,ab,k⟩=>
 ⟨Y,F,ab,(Rk.bind k).imp λa _ q v b H' s r=>Rk.ok q _ b H' s.ff ((ab.ext s).setA r)⟩
def bT(i:Nat)(f:Sg->R (L9 Dz)):Sg->R Fw:=λY=>(f Y).bind λxs=>.ok (.nx (Y.set i (some (.l xs))))
theorem xX{f:Sg->R (L9 Dz)}(h:PS X st (kQ (tV (xV c) c E f) (kB i))):PSf X c E st (bT i f):=PS.imp h λD Z H ⟨Y,F,ab,k⟩=>
 ⟨Y,F,ab,(Rk.bind k).imp λa _ q v b H' s r=>Rk.ok q _ b H' s.ff (ab.setN s r)⟩
def aFS(f:Sg->R A):Sg->R Fw:=λY=>(f Y).bind λ_=>.ok (.nx Y)
theorem kP{f:Sg->R A}(h:PS X st (vG (tV (aKS c) c E f))):PSf X c E st (aFS f):=PS.imp h λD Z H ⟨Y,F,ab,k⟩=>
 ⟨Y,F,ab,(Rk.bind k).imp λa _ q v b H' s r=>Rk.ok q _ b H' s.ff (ab.ext s)⟩
def eY(i:Nat)(f:Sg->R Dz):Sg->R Fw:=λY=>match Y[i]? with
 | some (some (.l xs))=>(f Y).bind λx=>if xs.length < 16777216 then .ok (.nx (Y.set i (some (.l (xs++[x])))))else .bad
 | _=>.bad
theorem aSS{f:Sg->R Dz}(g:X.K=c.K)(h:PS X st (vG (tBM X.K "list" aC9 (jA i) (cN (tV (bO c) c E f) fY)))):PSf X c E st (eY i f):=PS.imp h λD Z H ⟨Y,F,ab,k⟩=>by
 unfold eY at k
 split at k
 .rename_i xs hi
  obtain⟨v,b,p,vs,rfl,h2,l,j,d⟩:=ab.slot i _ hi
  refine⟨_,b,.inl ⟨rfl,vs,SqL.of h2⟩,Y,F,ab,(Rk.bind k).imp λx _ q u e H1 s1 r1=>?_⟩
  by_cases a:xs.length < 16777216
  .rw[AJ a]at q
   refine⟨p,vs,u,rfl,rfl,s1.hh _ _ h2,by rw[d.length,cO];exact a,?_⟩
   exact Rk.ok q Z e _ s1.ff ((ab.ext s1).putL hi b ((d.same s1.ff).append (.cons r1 .nil)))
  .rw[AM a]at q;exact q.elim
 .exact k.elim
def aBB(i:Nat)(f g:Sg->R Dz):Sg->R Fw:=λY=>(g Y).bind λx=>match Y[i]? with
 | some (some (.l xs))=>(f Y).bind λk=>match k with
  | .int k=>match ixN xs.length k with
   | some j=>.ok (.nx (Y.set i (some (.l (xs.set j x)))))
   | none=>.bad
  | _=>.bad
 | _=>.bad
theorem zB{F:Hp}{x:V}{d:Dz}(h:DatV K F x d):∀ {vs:L9 V} {xs:L9 Dz} (j:Nat),DatVs K F vs xs->DatVs K F (vs.set j x) (xs.set j d)
 | _,_,_,.nil=>.nil
 | _,_,0,.cons _ t=>.cons h t
 | _,_,j+1,.cons q t=>.cons q (zB h j t)
theorem aST{f g:Sg->R Dz}(h:PS X st (kQ (tV (bO c) c E g) (aJ6 (jA i) (tV (aS c) c E f) aMR))):PSf X c E st (aBB i f g):=PS.imp h λD Z H ⟨Y,F,ab,k⟩=>by
 refine⟨Y,F,ab,(Rk.bind k).imp λx _ q v s H1 s1 r1=>?_⟩
 split at q
 .rename_i xs hi
  have a:=ab.ext s1
  obtain⟨_,m,p,vs,rfl,h2,t,w,n⟩:=a.slot i _ hi
  refine⟨_,m,Y,s,a,((Rk.bind q).ext s1).imp λk _ q u o H2 b r2=>?_⟩
  have e:=a.ext b
  cases k with
  | int kk=>
   have d:Rk c E F H (match ixN xs.length kk with|some j=>R.ok (.nx (Y.set i (some (.l (xs.set j x)))))|none=>.bad) (iQ c F D):=q
   clear q
   split at d
   .rename_i j r
    obtain rfl:=aK.int_of r2
    refine⟨p,vs,kk,j,rfl,rfl,b.hh _ _ h2,by rw[n.length];exact r,?_⟩
    exact Rk.ok d Z o _ (s1.trans b).ff (e.putL hi m (zB (DatV.same b.ff r1) j (n.same b.ff)))
   .exact d.elim
  | _=>exact q.elim
 .exact q.elim
end
def Tg(c:Ct)(g:TG)(fs:Dz->Sg->O9 Sg)(is:L9 Nat):Prop:=∀ (v:V) (x:Dz) (Y Y':Sg) (Z:L2.St) (F H:Hp) (Q:L2.St->Hp->Prop),Ab c Y Z F H->DatV c.K F v x->fs x Y=some Y'->
 (∀ Z':L2.St,Z'.length=Z.length->(∀ j:Nat,j∉is->Z'[j]? = Z[j]?)->Ab c Y' Z' F H->Q Z' H)->g v Z H Q
noncomputable def stN(i:Nat):Dz->Sg->O9 Sg:=λx Y=>some (Y.set i (some (.d x)))
theorem aDL{c:Ct}(i:Nat):Tg c (kB i) (stN i) [i]:=λv x Y f Z F H Q ab r e q=>by
 cases e
 exact q _ CK (λj b=>CQ (by intro z;subst z;exact b (by simp))) (ab.setA (a:=.d x) r)
noncomputable def stL:L9 (Dz->Sg->O9 Sg)->L9 Dz->Sg->O9 Sg
 | [],[],Y=>some Y
 | f::fs,x::xs,Y=>(f x Y).bind (stL fs xs)
 | _,_,_=>none
def Tgs(c:Ct)(g:TGs)(fs:L9 (Dz->Sg->O9 Sg))(is:L9 Nat):Prop:=∀ (vs:L9 V) (xs:L9 Dz) (Y Y':Sg) (Z:L2.St) (F H:Hp) (Q:L2.St->Hp->Prop),Ab c Y Z F H->DatVs c.K F vs xs->stL fs xs Y=some Y'->
 (∀ Z':L2.St,Z'.length=Z.length->(∀ j:Nat,j∉is->Z'[j]? = Z[j]?)->Ab c Y' Z' F H->Q Z' H)->g vs Z H Q
theorem aOU{c:Ct}:Tgs c aJ4 [] []:=λvs xs Y a Z F H Q ab r e q=>by
 cases xs with
 | nil=>cases e;exact⟨by cases r;rfl,q Z rfl (λ_ _=>rfl) ab⟩
 | cons x t=>cases e
theorem aK0{c:Ct}{g:TG}{gs:TGs}{f:Dz->Sg->O9 Sg}{fs:L9 (Dz->Sg->O9 Sg)}{is js:L9 Nat}(h:Tg c g f is)(h2:Tgs c gs fs js):Tgs c (aMN g gs) (f::fs) (is++js):=λvs xs Y k Z F H Q ab r e q=>by
 cases r with
 | nil=>cases e
 | cons r1 r2=>
  rename_i x d vs ds
  have a:(f d Y).bind (stL fs ds)=some k:=e
  cases e1:f d Y with
  | none=>rw[e1]at a;cases a
  | some Y1=>
   rw[e1]at a
   refine⟨_,_,rfl,h _ _ Y Y1 Z F H _ ab r1 e1 λn l k1 b=>h2 _ _ Y1 k n F H _ b r2 a λm o k2 i=>q m (o.trans l) (λj p=>?_) i⟩
   ext
noncomputable def stT(fs:L9 (Dz->Sg->O9 Sg)):Dz->Sg->O9 Sg:=λx Y=>match x with
 | .tuple xs=>stL fs xs Y
 | _=>none
theorem aDM:∀ {fs:L9 (Dz->Sg->O9 Sg)} {xs:L9 Dz} {Y Y':Sg},stL fs xs Y=some Y'->xs.length=fs.length
 | [],[],_,_,_=>rfl
 | [],_::_,_,_,h=>by cases h
 | _::_,[],_,_,h=>by cases h
 | f::fs,x::xs,Y,Y',h=>by
  have h':(f x Y).bind (stL fs xs)=some Y':=h
  cases e:f x Y with
  | none=>rw[e]at h';cases h'
  | some Y1=>
   rw[e]at h'
   have:=aDM (fs:=fs) (xs:=xs) h'
   simp[this]
theorem aSU{c:Ct}{gs:TGs}{fs:L9 (Dz->Sg->O9 Sg)}{is:L9 Nat}{n:Nat}{K:Frag}(b:K=c.K)(h:Tgs c gs fs is)(f:fs.length=n):Tg c (aRM K n gs) (stT fs) is:=λv x Y d Z F H Q ab r e q=>by
 cases x with
 | tuple xs=>
  obtain⟨a,vs,rfl,h1,h2⟩:=r.tup_of
  subst b
  exact⟨a,vs,rfl,h1.same ab.fh,by rw[h2.length,aDM e,f],h vs xs Y d Z F H Q ab h2 e q⟩
 | _=>cases e
structure Yld(K:Frag)(J:It)(F B:Hp)(xs:List Dz):Prop where
 len:xs.length<=sizeLine
 go:∀ (i:Nat) F1 H1,aD F F1->aD F1 H1->aD B H1->i < xs.length->J.go i H1
 yld:∀ (i:Nat) F1 H1 v H2 x,aD F F1->aD F1 H1->aD B H1->J.yld i H1 v H2->xs[i]? = some x->∃ F2,Ext F1 H1 F2 H2/\DatV K F2 v x
 stop:∀ F1 H1,aD F F1->aD F1 H1->aD B H1->J.stop xs.length H1
def tI(c:Ct)(E:XK)(f:Sg->R (L9 Dz)):TI:=λZ H Rr=>∃ Y F,Ab c Y Z F H/\Rk c E F H (f Y) λxs=>∀ J B F' H',Ext F H F' H'->aD B H'->Yld c.K J F' B xs->Rr J H'
def tI0(c:Ct)(E:XK)(f:Sg->R (L9 Dz)):TI:=λZ H Rr=>∃ Y F,Ab c Y Z F H/\Rk c E F H (f Y) λxs=>∀ J F' H',Ext F H F' H'->Yld c.K J F' (λ_=>none) xs->Rr J H'
theorem PI.imp{X:Cx}{tg e:E2}{t t':TI}(h:PI X tg e t)(i:∀ Z H Q,t' Z H Q->t Z H Q):PI X tg e t':=λa0 s Z H Q I q=>h a0 s Z H Q I (i Z H Q q)
abbrev PIf(X:Cx)(c:Ct)(E:XK)(tg e:E2)(f:Sg->R (L9 Dz)):Prop:=PI X tg e (tI c E f)
abbrev PI0(X:Cx)(c:Ct)(E:XK)(tg e:E2)(f:Sg->R (L9 Dz)):Prop:=PI X tg e (tI0 c E f)
theorem aVC{X:Cx}{c:Ct}{E:XK}{tg e:E2}{f:Sg->R (L9 Dz)}(h:PI0 X c E tg e f):PIf X c E tg e f:=PI.imp h λZ H Q ⟨Y,F,ab,k⟩=>
 ⟨Y,F,ab,k.imp λxs _ q J a H' s y=>q J (λ_=>none) a H' s (λ_ _ z=>nomatch z) y⟩
def qX{H:Hp}:aD (λ_=>none) H:=λ_ _ z=>nomatch z
noncomputable def aH:Dz->R (L9 Dz)
 | .list xs=>if xs.length<=16777216 then .ok xs else .bad
 | .tuple xs=>if xs.length<=16777216 then .ok xs else .bad
 | .str z=>if z.cps.toList.length<=16777216 then .ok (z.cps.toList.map λu=>.str ⟨#[u]⟩)else .bad
 | _=>.bad
theorem aBC{K:Frag}{F B H:Hp}{a:Az}{vs:L9 V}{xs:L9 Dz}(hz:xs.length<=16777216)(g:∀ H1,aD F H1->aD B H1->SqL K H1 a vs)(f:DatVs K F vs xs):Yld K (Itl K a) F B xs where
 len:=by rw[cO];exact hz
 go:=λi c H1 h1 h2 b hi=>by
  have q:=g H1 (λx o z=>h2 x o (h1 x o z)) b
  exact⟨vs,vs[i]'(by rw[f.length];exact hi),q,by simp⟩
 yld:=λi c H1 v H2 x h1 h2 b y e=>by
  obtain⟨rfl,y⟩:=y
  have q:=y vs (g _ (λx o z=>h2 x o (h1 x o z)) b)
  obtain⟨d,e2,r⟩:=f.get q
  rw[e]at e2
  cases e2
  exact⟨c,Ext.refl h2,r.same h1⟩
 stop:=λc H1 h1 h2 b=>⟨vs,g H1 (λx o z=>h2 x o (h1 x o z)) b,by rw[f.length];exact AQ _⟩
theorem aDN{K:Frag}{F B:Hp}{a:Az}{vs:L9 V}{xs:L9 Dz}(hz:xs.length<=16777216)(f:SqT K F a vs)(c:DatVs K F vs xs):Yld K (Itt K a) F B xs where
 len:=by rw[cO];exact hz
 go:=λi b H1 h1 h2 g hi=>by
  have q:=f.same (H':=H1) (λx o z=>h2 x o (h1 x o z))
  exact⟨vs,vs[i]'(by rw[c.length];exact hi),q,by simp⟩
 yld:=λi b H1 v H2 x h1 h2 g y e=>by
  obtain⟨rfl,y⟩:=y
  have q:=y vs (f.same (λx o z=>h2 x o (h1 x o z)))
  obtain⟨d,e2,r⟩:=c.get q
  rw[e]at e2
  cases e2
  exact⟨b,Ext.refl h2,r.same h1⟩
 stop:=λb H1 h1 h2 g=>⟨vs,f.same (λx o z=>h2 x o (h1 x o z)),by rw[c.length];exact AQ _⟩
theorem aDO{K:Frag}{F B:Hp}{z:Str}(hz:z.cps.toList.length<=16777216):Yld K (Its z) F B (z.cps.toList.map λu=>.str ⟨#[u]⟩) where
 len:=by rw[cO,AA];exact hz
 go:=λi a H1 h1 h2 b hi=>by
  rw[AA,C4]at hi
  exact hi
 yld:=λi a H1 v H2 x h1 h2 b y e=>by
  obtain⟨rfl,u,c,rfl⟩:=y
  rw[AC,D9,c]at e
  cases e
  exact⟨a,Ext.refl h2,.str _⟩
 stop:=λa H1 h1 h2 b=>by
  show(z.cps.toList.map _).length=z.cps.size
  simp_all
section
variable{X:Cx}{c:Ct}{E:XK}{tg e a b:E2}{pos:Pos}
theorem aSV{f:Sg->R Dz}(j:X.K=c.K)(h:PD X c E e f):PI0 X c E tg e (e1 aH f):=PI.imp (PI.or (aHA h) (aHE h)) λZ H Q ⟨Y,F,ab,k⟩=>by
 have b:=Rk.bind k
 cases a:f Y with
 | bad=>rw[a]at b;exact b.elim
 | ex x=>rw[a]at b;exact .inl ⟨Y,F,ab,by rw[a];exact b⟩
 | ok d=>
  rw[a]at b
  have k2:=Rk.ok b
  unfold aH at k2
  split at k2
  .rename_i xs
   split at k2
   .rename_i g
    refine .inl ⟨Y,F,ab,?_⟩
    rw[a]
    intro v i H' s r
    obtain⟨p,vs,rfl,h1,h2⟩:=DatV.lst_of r
    refine⟨p,rfl,.inl ⟨⟨vs,?_⟩,?_⟩⟩
    · rw [j]; exact h1.same s.fh
    · rw [j]; exact Rk.ok k2 _ i H' s (aBC (H := H') g (λH1 q _ => h1.same q) h2)
   .exact k2.elim
  .rename_i xs
   split at k2
   .rename_i g
    refine .inl ⟨Y,F,ab,?_⟩
    rw[a]
    intro v i H' s r
    obtain⟨p,vs,rfl,h1,h2⟩:=DatV.tup_of r
    refine⟨p,rfl,.inr ⟨⟨vs,?_⟩,?_⟩⟩
    · rw [j]; exact h1.same s.fh
    · rw [j]; exact Rk.ok k2 _ i H' s (aDN g h1 h2)
   .exact k2.elim
  .rename_i z
   split at k2
   .rename_i g
    refine .inr ⟨Y,F,ab,?_⟩
    rw[a]
    intro v i H' s r
    obtain rfl:=DatV.str_of r
    exact⟨z,rfl,Rk.ok k2 _ i H' s (aDO g)⟩
   .exact k2.elim
  .exact k2.elim
theorem aWV{f:Sg->R Dz}(j:X.K=c.K)(h:PR X c E e f):PIf X c E tg e (e1 aH f):=PI.imp (PI.or (aHA h) (aHE h)) λZ H Q ⟨Y,F,ab,k⟩=>by
 have b:=Rk.bind k
 cases a:f Y with
 | bad=>rw[a]at b;exact b.elim
 | ex x=>rw[a]at b;exact .inl ⟨Y,F,ab,by rw[a];exact b⟩
 | ok d=>
  rw[a]at b
  have k2:=Rk.ok b
  unfold aH at k2
  split at k2
  .rename_i xs
   split at k2
   .rename_i g
    refine .inl ⟨Y,F,ab,?_⟩
    rw[a]
    intro v i H' s r
    obtain⟨p,vs,rfl,h1,h2⟩:=aK.lst_of s.fh r
    refine⟨p,rfl,.inl ⟨⟨vs,?_⟩,?_⟩⟩
    · ext
    · rw [j]; exact Rk.ok k2 _ H' i H' s (a9 _) (aBC (H := H') g (λH1 _ q => h1.same q) h2)
   .exact k2.elim
  .rename_i xs
   split at k2
   .rename_i g
    refine .inl ⟨Y,F,ab,?_⟩
    rw[a]
    intro v i H' s r
    obtain⟨p,vs,rfl,h1,_,h2⟩:=aK.tup_of s.fh r
    refine⟨p,rfl,.inr ⟨⟨vs,?_⟩,?_⟩⟩
    · ext
    · rw [j]; exact Rk.ok k2 _ H' i H' s (a9 _) (aDN g h1 h2)
   .exact k2.elim
  .rename_i z
   split at k2
   .rename_i g
    refine .inr ⟨Y,F,ab,?_⟩
    rw[a]
    intro v i H' s r
    obtain rfl:=aK.str_of r
    exact⟨z,rfl,Rk.ok k2 _ H' i H' s (a9 _) (aDO g)⟩
   .exact k2.elim
  .exact k2.elim
noncomputable def mT(lo:Int)(n:Nat):L9 Dz:=(range n).map λi:Nat=>.int (lo+i)
def kF(lo hi:Int):R (L9 Dz):=if -4611686018427387904<=lo/\lo < 4611686018427387904 /\ -4611686018427387904<=hi/\hi < 4611686018427387904/\hi - lo<=16777216 then .ok (mT lo (hi - lo).toNat)else .bad
def eU(f:Sg->R Dz):Sg->R (L9 Dz):=λY=>(f Y).bind λx=>match x with
 | .int j=>kF 0 j
 | _=>.bad
theorem aH5{F B:Hp}{lo:Int}(hz:n<=16777216):Yld K (Itr lo n) F B (mT lo n) where
 len:=by unfold mT;rw[cO,AA,A4];exact hz
 go:=λi a H1 h1 h2 c hi=>by unfold mT at hi;rw[AA,A4]at hi;exact hi
 yld:=λi a H1 v H2 x h1 h2 c y e=>by
  obtain⟨rfl,rfl⟩:=y
  unfold mT at e
  rw[AC]at e
  cases q:(range n)[i]? with
  | none=>rw[q]at e;cases e
  | some j=>
   rw[q]at e
   cases e
   obtain⟨d,b⟩:=AD.mp q
   rw[FY]at b
   subst b
   exact⟨a,Ext.refl h2,.int _⟩
 stop:=λa H1 h1 h2 c=>by show n<=_;unfold mT;rw[AA,A4];exact AQ _
theorem aOV{f:Sg->R Dz}(h:PI X tg e (aMO (cN (tV (aS c) c E f) fY))):PI0 X c E tg e (eU f):=PI.imp h λZ H Q ⟨Y,F,ab,k⟩=>by
 refine⟨Y,F,ab,(Rk.bind k).imp λx _ q v b H' s r=>?_⟩
 cases x with
 | int j=>
  have a:Rk c E F H (kF 0 j) _:=q
  unfold kF at a
  split at a
  .rename_i d
   obtain rfl:=aK.int_of r
   refine⟨j,rfl,by ext,by ext,?_⟩
   have e0:(j - 0).toNat=j.toNat:=by rw[Int.sub_zero]
   rw[<-e0]
   exact Rk.ok a _ b H' s (aH5 (by ext))
  .exact a.elim
 | _=>exact q.elim
end
noncomputable def cP(js:L9 (O9 Nat))(Y:Sg):Sg:=js.map λo=>o.bind λj=>(Y[j]?).join
theorem xY{α:Type}{js:L9 (O9 Nat)}{Y:L9 (O9 α)}{i:Nat}{a:α}(h:(js.map λo=>o.bind λj=>(Y[j]?).join)[i]? = some (some a)):∃ j,js[i]? = some (some j)/\Y[j]? = some (some a):=by
 rw[AC]at h
 cases e:js[i]? with
 | none=>rw[e]at h;cases h
 | some o=>
  rw[e]at h
  have h':(o.bind λj=>(Y[j]?).join)=some a:=BK h
  cases o with
  | none=>cases h'
  | some j=>
   ext
theorem xZ{α:Type}{js:L9 (O9 Nat)}{Y:L9 (O9 α)}{i j:Nat}{a:α}(h:js[i]? = some (some j))(h2:Y[j]? = some (some a)):(js.map λo=>o.bind λj=>(Y[j]?).join)[i]? = some (some a):=by
 rw[AC,h]
 show some ((Y[j]?).join)=_
 rw[h2];rfl
def x3(js:L9 (O9 Nat)):Prop:=∀ (i k j:Nat),js[i]? = some (some j)->js[k]? = some (some j)->i=k
theorem v3{js:L9 (O9 Nat)}(h:js.Pairwise λa b=>a=none\/a≠b):x3 js:=λi k j h1 h2=>by
 obtain⟨c,e1⟩:=AD.mp h1
 obtain⟨d,e2⟩:=AD.mp h2
 rw[CV]at h
 ext
theorem Ab.cap{c:Ct}{Y:Sg}{Z p:L2.St}{F H:Hp}{js:L9 (O9 Nat)}(b:Ab c Y Z F H)(u:x3 js)(k:cZ (kR js Z) p):Ab c (cP js Y) p F H where
 len:=by rw[k.1];unfold cP kR;rw[AA,AA]
 fh:=b.fh
 slot:=λi a h=>by
  obtain⟨j,h1,h2⟩:=xY h
  obtain⟨v,g,s⟩:=b.slot j a h2
  exact⟨v,k.2 i v (xZ h1 g),s⟩
 apart:=λi n a q m h h' o o'=>by
  obtain⟨j,h1,h2⟩:=xY h
  obtain⟨l,e,d⟩:=xY h'
  have r:j≠l:=λz=>m (u i n j h1 (by rw[e,z]))
  obtain⟨v,g,_⟩:=b.slot j a h2
  obtain⟨t,f,_⟩:=b.slot l q d
  rw[k.2 i v (xZ h1 g),k.2 n t (xZ e f),<-g,<-f]
  exact b.apart j l a q r h2 d o o'
 f0:=b.f0
 h0:=b.h0
 n0:=b.n0
 t0:=b.t0
noncomputable def R.noEx{α:Type}:R α->R α
 | .ex _=>.bad
 | r=>r
@[simp] theorem R.noEx_ok{α:Type}(a:α):(R.ok a).noEx=.ok a:=id rfl
noncomputable def x4{α:Type}:O9 α->R α
 | some a=>.ok a
 | none=>.bad
@[simp] theorem nL{α:Type}(a:α):x4 (some a)=.ok a:=id rfl
noncomputable def compL(fs:Dz->Sg->O9 Sg)(ft:Sg->R Bool)(fe:Sg->R Dz)(Y0:Sg):L9 Dz->R (L9 Dz)
 | []=>.ok []
 | x::t=>(x4 (fs x Y0)).bind λY1=>(ft Y1).noEx.bind λb=>if b=true then(fe Y1).noEx.bind λy=>(compL fs ft fe Y0 t).bind λys=>.ok (y::ys)else compL fs ft fe Y0 t
theorem pN{fs:Dz->Sg->O9 Sg}{ft:Sg->R Bool}{fe:Sg->R Dz}{Y0:Sg}{e:Er}:∀ {xs:L9 Dz},compL fs ft fe Y0 xs≠.ex e
 | []=>λh=>by cases h
 | x::t=>λh=>by
  unfold compL at h
  cases h1:fs x Y0 with
  | none=>rw[h1]at h;cases h
  | some Y1=>
   rw[h1]at h
   have h:((ft Y1).noEx.bind λb=>if b=true then(fe Y1).noEx.bind λy=>(compL fs ft fe Y0 t).bind λys=>.ok (y::ys)else compL fs ft fe Y0 t)=.ex e:=h
   cases h2:ft Y1 with
   | bad=>rw[h2]at h;cases h
   | ex _=>rw[h2]at h;cases h
   | ok b=>
    rw[h2]at h
    have h:(if b=true then(fe Y1).noEx.bind λy=>(compL fs ft fe Y0 t).bind λys=>.ok (y::ys)else compL fs ft fe Y0 t)=.ex e:=h
    cases b with
    | false=>exact pN (xs:=t) h
    | true=>
     have h:((fe Y1).noEx.bind λy=>(compL fs ft fe Y0 t).bind λys=>.ok (y::ys))=.ex e:=h
     cases a:fe Y1 with
     | bad=>rw[a]at h;cases h
     | ex _=>rw[a]at h;cases h
     | ok y=>
      rw[a]at h
      have h:((compL fs ft fe Y0 t).bind λys=>.ok (y::ys))=.ex e:=h
      cases c:compL fs ft fe Y0 t with
      | bad=>rw[c]at h;cases h
      | ex e'=>exact pN (xs:=t) (e:=e') c
      | ok ys=>rw[c]at h;cases h
theorem aFT{fs:Dz->Sg->O9 Sg}{ft:Sg->R Bool}{fe:Sg->R Dz}{Y0:Sg}{x:Dz}{t ys:L9 Dz}(h:compL fs ft fe Y0 (x::t)=.ok ys) :
  ∃ Y1 b,fs x Y0=some Y1/\ft Y1=.ok b/\((b=true/\∃ y zs,fe Y1=.ok y/\compL fs ft fe Y0 t=.ok zs/\ys=y::zs)\/(b=false/\compL fs ft fe Y0 t=.ok ys)):=by
 unfold compL at h
 cases h1:fs x Y0 with
 | none=>rw[h1]at h;cases h
 | some Y1=>
  rw[h1]at h
  have h:((ft Y1).noEx.bind λb=>if b=true then(fe Y1).noEx.bind λy=>(compL fs ft fe Y0 t).bind λys=>.ok (y::ys)else compL fs ft fe Y0 t)=.ok ys:=h
  cases h2:ft Y1 with
  | bad=>rw[h2]at h;cases h
  | ex _=>rw[h2]at h;cases h
  | ok b=>
   rw[h2]at h
   have h:(if b=true then(fe Y1).noEx.bind λy=>(compL fs ft fe Y0 t).bind λys=>.ok (y::ys)else compL fs ft fe Y0 t)=.ok ys:=h
   refine⟨Y1,b,rfl,h2,?_⟩
   cases b with
   | false=>exact .inr ⟨rfl,h⟩
   | true=>
    refine .inl ⟨rfl,?_⟩
    have h:((fe Y1).noEx.bind λy=>(compL fs ft fe Y0 t).bind λys=>.ok (y::ys))=.ok ys:=h
    cases a:fe Y1 with
    | bad=>rw[a]at h;cases h
    | ex _=>rw[a]at h;cases h
    | ok y=>
     rw[a]at h
     have h:((compL fs ft fe Y0 t).bind λys=>.ok (y::ys))=.ok ys:=h
     cases c:compL fs ft fe Y0 t with
     | bad=>rw[c]at h;cases h
     | ex e'=>rw[c]at h;cases h
     | ok zs=>rw[c]at h;cases h;exact⟨y,zs,rfl,rfl,rfl⟩
def bP(js:L9 (O9 Nat))(fi:Sg->R (L9 Dz))(fs:Dz->Sg->O9 Sg)(ft:Sg->R Bool)(fe:Sg->R Dz):Sg->R (L9 Dz):=λY=>(fi Y).bind λxs=>compL fs ft fe (cP js Y) xs
noncomputable def cQ:Sg->R Bool:=λ_=>.ok true
section
variable{X:Cx}{c:Ct}{E:XK}{e a b:E2}{pos:Pos}
theorem xN:L2.PIf X [] (tTf c E cQ):=λa0 s Z H Q I ⟨Y,F,ab,k⟩=>L2.xN a0 s Z H Q I (Rk.ok k F H (Ext.refl ab.fh))
theorem aK1{Z b a:L2.St}(k:cZ (kR js Z) b)(c:a.length=b.length)(h:∀ j:Nat,j∉is->a[j]? = b[j]?)(hi:∀ i∈is,js[i]? = some none):cZ (kR js Z) a:=
 ⟨c.trans k.1,λi v e=>by
  by_cases q:i∈is
  .unfold kR at e
   rw[AC,hi i q]at e
   cases e
  .rw[h i q];exact k.2 i v e⟩
theorem zC{fi:Sg->R (L9 Dz)}{fs:Dz->Sg->O9 Sg}{ft:Sg->R Bool}{fe:Sg->R Dz}(ho:x3 js)(hi:∀ i∈is,js[i]? = some none)
  (hb:∀ (cl:L9 (Str×Az)) (C:Az) (s:S9) (H0:Hp) (fp:L9 Az),∃ g,PG (eI X N scope cl C s H0 fp) tg g/\Tg c g fs is/\L2.PIf (eI X N scope cl C s H0 fp) ifs (tTf c E0 ft)/\PD (eI X N scope cl C s H0 fp) c E0 elt fe)
  {Z:L2.St} {H:Hp} {Q:VK} (h:tV (xV c) c E (bP js fi fs ft fe) Z H Q):vM X N scope js tg elt ifs (tI c E fi) Z H Q:=by
 obtain⟨Y,F,ab,k⟩:=h
 refine⟨Y,F,ab,(Rk.bind k).imp λxs _ q J B U H1 s1 P r=>?_⟩
 cases t:compL fs ft fe (cP js Y) xs with
 | bad=>rw[t]at q;exact q.elim
 | ex e=>exact absurd t pN
 | ok ys=>
  rw[t]at q
  refine aN5 (n:=xs.length) (λi b H'=>∃ F',Ext U H1 F' H'/\b.length<=i/\∃ zs rest,DatVs c.K F' b zs/\compL fs ft fe (cP js Y) (xs.drop i)=.ok rest/\zs++rest=ys) r.len ⟨U,Ext.refl s1.fh,AQ _,[],ys,.nil,t,rfl⟩ ?_ ?_ ?_ ?_ ?_
  .rintro i b H' _ ⟨F',_,h,_⟩;exact h
  .rintro i b H' d ⟨F',e1,_⟩
   exact r.go i F' H' e1.ff e1.fh (λa o z=>e1.hh a o (P a o z)) d
  .rintro b H' ⟨F',e1,_⟩
   exact r.stop F' H' e1.ff e1.fh (λa o z=>e1.hh a o (P a o z))
  .rintro i v b Ha Hb d ⟨F',e1,hlen,zs,rest,hd,hr,hz⟩ hy
   obtain⟨u,e2,rx⟩:=r.yld i F' Ha v Hb xs[i] e1.ff e1.fh (λa o z=>e1.hh a o (P a o z)) hy (AI d)
   have M:xs.drop i=xs[i]::xs.drop (i+1):=GL d
   rw[M]at hr
   obtain⟨x,bb,hs,ht,j⟩:=aFT hr
   intro cl C s H0 fp
   obtain⟨g,hg,S,L,he⟩:=hb cl C s H0 fp
   refine⟨g,_,_,hg,L,he,λT k0=>?_⟩
   have D:Ab c (cP js Y) T u Hb:=(ab.ext (s1.trans (e1.trans e2))).cap ho k0
   refine S v xs[i] _ x T u Hb _ D rx hs λZ1 A I l=>⟨aK1 k0 A I hi,x,u,l,?_⟩
   rw[ht]
   intro V H3 m
   rcases j with ⟨rfl,y,ws,G,f,rfl⟩|⟨rfl,f⟩
   .refine aAK ⟨x,V,l.ext m,?_⟩
    rw[G]
    intro w F4 H4 W O
    refine⟨F4,e1.trans (e2.trans (m.trans W)),by rw[A2,BU];ext,zs++[y],ws,(hd.same (e2.trans (m.trans W)).ff).append (.cons O .nil),f,by rw[EW];exact hz⟩
   .exact aAJ ⟨V,e1.trans (e2.trans m),by ext,zs,rest,hd.same (e2.trans m).ff,f,hz⟩
  .rintro b H' ⟨F',e1,_,zs,rest,hd,hr,hz⟩ p hp
   rw[List.drop_length]at hr
   cases hr
   rw[C0]at hz
   subst hz
   exact Rk.ok q (.ref p) F' _ (s1.trans (e1.trans (Ext.own e1.fh hp))) ⟨p,b,rfl,aU (s1.trans e1).hh hp,aN,aU e1.fh hp,hd⟩
theorem aOW{fi:Sg->R (L9 Dz)}{fs:Dz->Sg->O9 Sg}{ft:Sg->R Bool}{fe:Sg->R Dz}(h:PE X e (vM X N scope js tg elt ifs (tI c E fi)))(d:js.Pairwise λa b=>a=none\/a≠b)(hi:∀ i∈is,js[i]? = some none)
 (hb:∀ (cl:L9 (Str×Az)) (C:Az) (s:S9) (H0:Hp) (fp:L9 Az),∃ g,PG (eI X N scope cl C s H0 fp) tg g/\Tg c g fs is/\L2.PIf (eI X N scope cl C s H0 fp) ifs (tTf c E0 ft)/\PD (eI X N scope cl C s H0 fp) c E0 elt fe) :
 PN X c E e (bP js fi fs ft fe):=PE.imp h λZ H Q q=>zC (v3 d) hi hb q
theorem aOX{fi:Sg->R (L9 Dz)}{fs:Dz->Sg->O9 Sg}{ft:Sg->R Bool}{fe:Sg->R Dz}(h:PS X st (kQ (vM X N scope js tg elt ifs (tI c E fi)) (kB i)))(d:js.Pairwise λa b=>a=none\/a≠b)(hi:∀ i∈is,js[i]? = some none)
 (hb:∀ (cl:L9 (Str×Az)) (C:Az) (s:S9) (H0:Hp) (fp:L9 Az),∃ g,PG (eI X N scope cl C s H0 fp) tg g/\Tg c g fs is/\L2.PIf (eI X N scope cl C s H0 fp) ifs (tTf c E0 ft)/\PD (eI X N scope cl C s H0 fp) c E0 elt fe) :
 PSf X c E st (bT i (bP js fi fs ft fe)):=xX (PS.imp h λD Z H q=>zC (v3 d) hi hb q)
end
noncomputable def gL(fs:Dz->Sg->O9 Sg)(fb:Sg->R Fw):L9 Dz->Sg->R Fw
 | [],Y=>.ok (.nx Y)
 | x::t,Y=>(x4 (fs x Y)).bind λY1=>(fb Y1).bind λw=>match w with
  | .nx Y2=>gL fs fb t Y2
  | .ct Y2=>gL fs fb t Y2
  | .bk Y2=>.ok (.nx Y2)
  | .rt a=>.ok (.rt a)
def gM(fi:Sg->R (L9 Dz))(fs:Dz->Sg->O9 Sg)(fb:Sg->R Fw):Sg->R Fw:=λY=>(fi Y).bind λxs=>gL fs fb xs Y
section
variable{X:Cx}{c:Ct}{E:XK}{e a b:E2}{pos:Pos}{st:Stmt}
theorem iO{g:TG}{fi:Sg->R (L9 Dz)}{fs:Dz->Sg->O9 Sg}{fb:Sg->R Fw}(G:Tg c g fs is)(h:PS X st (aRO (tI0 c E fi) g (tSf c E fb))):PSf X c E st (gM fi fs fb):=PS.imp h λD Z H A=>by
 obtain⟨Y,F,ab,k⟩:=A
 refine⟨Y,F,ab,(Rk.bind k).imp λxs _ q J u H1 s1 s=>?_⟩
 refine⟨λi m Z H=>m=xs.length - i/\i<=xs.length/\∃ Y' b,aD u b/\Ab c Y' Z b H/\Rk c E b H (gL fs fb (xs.drop i) Y') (iQ c F D),⟨xs.length,by simp,BP _,Y,u,a9 _,ab.ext s1,Rk.ext s1 q⟩,?_⟩
 rintro i m B H2 ⟨rfl,hi,Y2,F2,s2,ab2,k2⟩
 by_cases f:i < xs.length
 .refine .inr ⟨s.go i F2 H2 s2 ab2.fh qX f,λj H'=>∃ Y' b,aD u b/\Ab c Y' j b H'/\Rk c E b H' (gL fs fb (xs.drop (i+1)) Y') (iQ c F D),λj H' w=>⟨xs.length - (i+1),by ext,rfl,f,w⟩,λv H3 y=>?_⟩
  obtain⟨p,n,C⟩:=s.yld i F2 H2 v H3 xs[i] s2 ab2.fh qX y (AI f)
  have t:xs.drop i=xs[i]::xs.drop (i+1):=GL f
  rw[t]at k2
  unfold gL at k2
  cases h1:fs xs[i] Y2 with
  | none=>rw[h1]at k2;exact k2.elim
  | some Y3=>
   rw[h1]at k2
   refine G v xs[i] Y2 Y3 B p H3 _ (ab2.ext n) C h1 λK _ _ x=>⟨Y3,p,x,?_⟩
   have k3:Rk c E F2 H2 (fb Y3) _:=Rk.bind k2
   cases h2:fb Y3 with
   | bad=>rw[h2]at k3;exact k3.elim
   | ex e=>rw[h2]at k3;exact k3
   | ok w=>
    rw[h2]at k3
    have l:=Rk.ok k3
    have I:aD F p:=λa o z=>n.ff a o (s2 a o (s1.ff a o z))
    cases w with
    | nx Y4=>exact λj b H' s' d=>⟨Y4,b,λa o z=>s' a o (n.ff a o (s2 a o z)),d,l⟩
    | ct Y4=>exact λj b H' s' d=>⟨Y4,b,λa o z=>s' a o (n.ff a o (s2 a o z)),d,l⟩
    | bk Y4=>exact λj b H' s' d=>Rk.ok l j b H' (λa o z=>s' a o (I a o z)) d
    | rt a=>exact λv b H' z r=>Rk.ok l v b H' z r
 .have e:i=xs.length:=by ext
  subst e
  rw[List.drop_length]at k2
  exact .inl ⟨s.stop F2 H2 s2 ab2.fh qX,Rk.ok k2 B F2 H2 (λa o z=>s2 a o (s1.ff a o z)) ab2⟩
end
noncomputable def bU(t:Sg->R Bool)(b:Sg->R Fw):Nat->Sg->R Fw
 | 0,_=>.bad
 | n+1,Y=>(t Y).bind λk=>if k=true then(b Y).bind λw=>match w with
   | .nx Y'=>bU t b n Y'
   | .ct Y'=>bU t b n Y'
   | .bk Y'=>.ok (.nx Y')
   | .rt a=>.ok (.rt a)
  else .ok (.nx Y)
open Classical in
def aX(t:Sg->R Bool)(b:Sg->R Fw):Sg->R Fw:=λY=>if h:∃ n,bU t b n Y≠.bad then bU t b h.choose Y else .bad
theorem R.bind_mono{α β:Type}{r:R α}{f g:α->R β}(h:r.bind f≠.bad)(b:∀ a,f a≠.bad->g a=f a):r.bind g=r.bind f:=by
 cases r with
 | bad=>rfl
 | ex e=>rfl
 | ok a=>exact b a h
theorem lD{t:Sg->R Bool}{b:Sg->R Fw}:∀ {n m:Nat} {Y:Sg},n<=m->bU t b n Y≠.bad->bU t b m Y=bU t b n Y
 | 0,_,_,_,h=>absurd rfl h
 | n+1,0,_,hm,_=>absurd hm (by ext)
 | n+1,m+1,Y,hm,h=>by
  unfold bU at h ⊢
  refine R.bind_mono h λk hk=>?_
  cases k with
  | false=>rfl
  | true=>
   refine R.bind_mono (r:=b Y) hk λw c=>?_
   cases w with
   | nx Y'=>exact lD (by ext) c
   | ct Y'=>exact lD (by ext) c
   | bk Y'=>rfl
   | rt a=>rfl
theorem qY{t:Sg->R Bool}{b:Sg->R Fw}{Y:Sg}{n:Nat}(h:bU t b n Y≠.bad):aX t b Y=bU t b n Y:=by
 have a:∃ n,bU t b n Y≠.bad:=⟨n,h⟩
 unfold aX
 rw[dif_pos a]
 have c:=a.choose_spec
 rcases Nat.le_total n a.choose with q|q
 · exact lD q h
 · exact(lD q c).symm
theorem qZ (t : Sg -> R Bool) (b : Sg -> R Fw) (Y : Sg) : aX t b Y = (t Y).bind λk => if k = true then(b Y).bind λw => match w with
      | .nx Y' => aX t b Y'
      | .ct Y' => aX t b Y'
      | .bk Y' => .ok (.nx Y')
      | .rt a => .ok (.rt a)
    else .ok (.nx Y) := by
  have l : ∀ n, (∀ k, t Y = .ok k -> k = true -> ∀ w, b Y = .ok w -> ∀ Y', (w = .nx Y' \/ w = .ct Y') -> aX t b Y' = bU t b n Y') -> bU t b (n + 1) Y = (t Y).bind λk => if k = true then(b Y).bind λw => match w with
      | .nx Y' => aX t b Y'
      | .ct Y' => aX t b Y'
      | .bk Y' => .ok (.nx Y')
      | .rt a => .ok (.rt a)
    else .ok (.nx Y) := by
    intro n h
    unfold bU
    cases d : t Y with
    | bad => rfl
    | ex e => rfl
    | ok k =>
      cases k with
      | false => rfl
      | true =>
        show((b Y).bind _) = ((b Y).bind _)
        cases f : b Y with
        | bad => rfl
        | ex e => rfl
        | ok w =>
          cases w with
          | nx Y' => exact(h true d rfl _ f Y' (.inl rfl)).symm
          | ct Y' => exact(h true d rfl _ f Y' (.inr rfl)).symm
          | bk Y' => rfl
          | rt a => rfl
  by_cases j : ∃ n, bU t b n Y ≠ .bad
  · obtain⟨n, i⟩ := j
    cases n with
    | zero => exact absurd rfl i
    | succ n =>
      rw [qY i]
      refine l n λk d o w f Y' m => ?_
      subst o
      refine qY λz => i ?_
      unfold bU
      rw [d]
      show((b Y).bind _) = _
      rw [f]
      rcases m with rfl | rfl
      · exact z
      · exact z
  · have p : aX t b Y = .bad := by unfold aX; rw [dif_neg j]
    rw [p]
    have c : ∀ n, bU t b n Y = .bad := λn => CG λz => j ⟨n, z⟩
    cases d : t Y with
    | bad => rfl
    | ex e => have := c 1; unfold bU at this; rw [d]at this; cases this
    | ok k =>
      cases k with
      | false => have := c 1; unfold bU at this; rw [d]at this; cases this
      | true =>
        show R.bad = ((b Y).bind _)
        cases f : b Y with
        | bad => rfl
        | ex e => have := c 1; unfold bU at this; rw [d]at this; change ((b Y).bind _) = _ at this; rw [f]at this; cases this
        | ok w =>
          have g : ∀ Y', (w = .nx Y' \/ w = .ct Y') -> aX t b Y' = .bad := λY' m => by
            unfold aX
            rw [dif_neg]
            rintro ⟨n, i⟩
            refine i ?_
            have := c (n + 1)
            unfold bU at this
            rw [d]at this
            change ((b Y).bind _) = _ at this
            rw [f]at this
            rcases m with rfl | rfl <;> exact this
          cases w with
          | nx Y' => exact(g Y' (.inl rfl)).symm
          | ct Y' => exact(g Y' (.inr rfl)).symm
          | bk Y' => have := c 1; unfold bU at this; rw [d]at this; change ((b Y).bind _) = _ at this; rw [f]at this; cases this
          | rt a => have := c 1; unfold bU at this; rw [d]at this; change ((b Y).bind _) = _ at this; rw [f]at this; cases this
section
variable{X:Cx}{c:Ct}{E:XK}{st:Stmt}
theorem mJ{t:Sg->R Bool}{fb:Sg->R Fw}(h:PS X st (aGR (tTf c E t) (tSf c E fb))):PSf X c E st (aX t fb):=PS.imp h λD Z H u=>by
 obtain⟨Y,F,ab,k⟩:=u
 have x:∃ n,bU t fb n Y≠.bad:=CG λz=>by
  have:aX t fb Y=.bad:=by unfold aX;rw[dif_neg z]
  rw[this]at k
  exact k
 obtain⟨n,y⟩:=x
 rw[qY y]at k
 refine⟨λm Z H=>∃ Y' d,aD F d/\Ab c Y' Z d H/\Rk c E d H (bU t fb m Y') (iQ c F D),⟨n,Y,F,a9 F,ab,k⟩,?_⟩
 rintro m A H1 ⟨Y1,F1,s1,ab1,k1⟩
 cases m with
 | zero=>exact k1.elim
 | succ m=>
  unfold bU at k1
  refine⟨Y1,F1,ab1,(Rk.bind k1).imp λb _ q p H2 e2=>?_⟩
  have j:=ab1.ext e2
  cases b with
  | false=>exact aAJ (Rk.ok q A p H2 (λa o z=>e2.ff a o (s1 a o z)) j)
  | true=>
   refine aAK ⟨λi H'=>∃ Y' d,aD F d/\Ab c Y' i d H'/\Rk c E d H' (bU t fb m Y') (iQ c F D),λi H' w=>⟨m,by ext,w⟩,Y1,p,j,?_⟩
   have g:Rk c E F1 H1 (fb Y1) _:=Rk.bind (r:=fb Y1) q
   cases h2:fb Y1 with
   | bad=>rw[h2]at g;exact g.elim
   | ex e=>rw[h2]at g;exact g
   | ok w=>
    rw[h2]at g
    have l:=Rk.ok g
    have s:aD F p:=λa o z=>e2.ff a o (s1 a o z)
    cases w with
    | nx Y4=>exact λi d H' s' f=>⟨Y4,d,λa o z=>s' a o (s a o z),f,l⟩
    | ct Y4=>exact λi d H' s' f=>⟨Y4,d,λa o z=>s' a o (s a o z),f,l⟩
    | bk Y4=>exact λi d H' s' f=>Rk.ok l i d H' (λa o z=>s' a o (s a o z)) f
    | rt a=>exact λv d H' z r=>Rk.ok l v d H' z r
end
def spG(K:Frag)(mg:Str->O9 V9)(T F1:Hp)(n:Nat)(G:L9 Dz->R Dz):Sp:=λvs H Q E=>∃ F ds,aD F1 F/\aD T F/\aD F H/\DatVs K F vs ds/\ds.length=n/\match G ds with
 | .bad=>False
 | .ok d=>∀ v F' H',Ext F H F' H'->DatV K F' v d->Q v H'
 | .ex e=>∀ a C F' H',Ext F H F' H'->kD K mg F' e a C->E (.ref C) (some a) H'
def Beh(P:P9)(w:W9)(K:Frag)(mg:Str->O9 V9)(base:H9)(T:Hp)(f:Az)(F1:Hp)(k n:Nat)(G:L9 Dz->R Dz):Prop:=
 ∃ fd ps,ps.length=n/\jK K fd ps []/\FnOk P w K mg base (CXe P w) k f fd ps (spG K mg T F1 n G)/\(keepIn K (.ref f)=true\/∃ oc od fd' sl,F1 f=some (FnO f ⟨oc,od,.func fd',sl⟩))
def gOf(P:P9)(w:W9)(K:Frag)(mg:Str->O9 V9)(base:H9)(T:Hp):Gb:=⟨Beh P w K mg base T,T,w⟩
def spF(g:Gb)(K:Frag)(mg:Str->O9 V9)(n:Nat)(G:L9 A->R A):Sp:=λvs H Q E=>∃ F as,aD g.T F/\aD F H/\AFs g K mg F as vs/\as.length=n/\match G as with
 | .bad=>False
 | .ok a=>∀ v F' H',Ext F H F' H'->AF g K mg F' a v->Q v H'
 | .ex e=>∀ a C F' H',Ext F H F' H'->kD K mg F' e a C->E (.ref C) (some a) H'
def bH(P:P9)(w:W9)(K:Frag)(mg:Str->O9 V9)(base:H9)(T:Hp)(k:Nat)(x:Str)(ps:L9 Str)(G:L9 A->R A):Prop:=Calls P w K mg base (CXe P w) k x ps (spF (gOf P w K mg base T) K mg ps.length G)
def aI(n:Nat)(G:L9 A->R A)(f:Sg->R (L9 A)):Sg->R A:=λY=>(f Y).bind λas=>if as.length=n then G as else .bad
theorem aM4{X:Cx}{c:Ct}{E:XK}{e:E2}{n:Nat}{G:L9 A->R A}{g:Gb}{K:Frag}{mg:Str->O9 V9}{f:Sg->R (L9 A)}(hG:g=c.g)(m:K=c.K)(hM:mg=c.mg)(h:PE X e (sD (spF g K mg n G) [] E (tAv c E f))):PV X c E e (aI n G f):=PE.imp h λZ H Q j=>by
 obtain⟨Y,F,ab,k⟩:=j
 subst hG m hM
 refine⟨Y,F,ab,(Rk.bind k).imp λb _ q vs p H1 s1 r1=>?_⟩
 by_cases d:b.length=n
 .rw[AJ d]at q
  refine⟨p,b,λa o z=>s1.ff a o (ab.f0 a o (ab.t0 a o z)),s1.fh,by rw[C0];exact r1,d,?_⟩
  cases l:G b with
  | bad=>rw[l]at q;exact q
  | ok a=>rw[l]at q;exact λv i H' s r=>Rk.ok q v i H' (s1.trans s) r
  | ex e=>rw[l]at q;exact λa C i H' s r=>q a C i H' ((ab.all.trans s1).trans s) r
 .rw[AM d]at q;exact q.elim
def fnF(n:Nat)(fb:Sg->R Fw):L9 A->R A:=λas=>(fb (as.map some++replicate (n - as.length) none)).bind λw=>match w with
 | .rt (.l _)=>.bad
 | .rt a=>.ok a
 | .nx _=>.ok (.d .none)
 | _=>.bad
theorem AFs.get{g:Gb}{K:Frag}{mg:Str->O9 V9}{F:Hp}:∀ {as:L9 A} {vs:L9 V} {i:Nat} {a:A},AFs g K mg F as vs->as[i]? = some a->∃ v,vs[i]? = some v/\AF g K mg F a v
 | [],[],_,_,_,h=>by simp at h
 | a::as,v::vs,0,_,h,e=>by simp at e;subst e;exact⟨v,rfl,h.1⟩
 | a::as,v::vs,i+1,_,h,e=>by
  obtain⟨w,h1,h2⟩:=AFs.get (i:=i) h.2 (by simpa using e)
  exact⟨w,by simpa using h1,h2⟩
theorem q9{α:Type}{b:L9 α}{n i:Nat}{a:α}(h:(b.map some++replicate n none)[i]? = some (some a)):b[i]? = some a:=by ext
theorem aBD{g:Gb}{c:L9 (Str×Az)}{cls:Str->O9 ClSt}{K:Frag}{mg:Str->O9 V9}{w:W9}{F H:Hp}{d:L9 A}{vs:L9 V}{n:Nat}(f:aD g.T F)(s:aD F H)(h:AFs g K mg F d vs):Ab ⟨K,mg,w,F,H,g,c,cls⟩ (d.map some++replicate (n - d.length) none) (vs.map some++replicate (n - vs.length) none) F H where
 len:=by rw[A2,A2,AA,AA,D7,D7,h.len]
 fh:=s
 slot:=λi a e=>by
  obtain⟨v,h1,h2⟩:=h.get (q9 e)
  refine⟨v,?_,AO.of h2⟩
  have hi:i < vs.length:=(AD.mp h1).1
  rw[BV (by rw[AA];exact hi),AC,h1];rfl
 apart:=λi j a b _ e1 _ o _=>by
  obtain⟨v,h1,h2⟩:=h.get (q9 e1)
  rw[AF.notOwn h2]at o
  cases o
 f0:=a9 F
 h0:=a9 H
 n0:=λa e n=>absurd e n
 t0:=f
theorem sK{g:Gb}{c:L9 (Str×Az)}{cls:Str->O9 ClSt}{K:Frag}{mg:Str->O9 V9}{w:W9}{n:Nat}{fb:Sg->R Fw}{vs:L9 V}{d:L9 A}{F H:Hp}{Q:VK}{E:XK}(h0:aD g.T F)(h1:aD F H)(h2:AFs g K mg F d vs)(b:match fnF n fb d with
 | .bad=>False
 | .ok a=>∀ v F' H',Ext F H F' H'->AF g K mg F' a v->Q v H'
 | .ex e=>∀ a C F' H',Ext F H F' H'->kD K mg F' e a C->E (.ref C) (some a) H'):tSf ⟨K,mg,w,F,H,g,c,cls⟩ E fb {nx:=λ_ H'=>Q .non H',rt:=Q} (vs.map some++replicate (n - vs.length) none) H:=by
 refine⟨_,F,aBD h0 h1 h2,?_⟩
 unfold fnF at b
 cases e:fb (d.map some++replicate (n - d.length) none)with
 | bad=>rw[e]at b;exact b
 | ex x=>rw[e]at b;exact b
 | ok w=>
  rw[e]at b
  cases w with
  | nx Y'=>exact λf F' H' s ab=>b .non F' H' ab.all .non
  | rt a=>
   cases a with
   | l xs=>exact b.elim
   | _=>exact b
  | bk Y'=>exact b.elim
  | ct Y'=>exact b.elim
section
variable{P:P9}{w:W9}{K:Frag}{mg:Str->O9 V9}{base:H9}{T:Hp}{x:Str}{st:Stmt}{N ps:L9 Str}{k:Nat}
theorem aSW{fb:Sg->R Fw}(D:DefAt K mg x st ps)(S:FnScope N ps (aJ st))
  (a:∀ (f:Az) (cdv:V9) (A:U9) (outer:L9 Env) (s:S9) (H F:Hp) (E:XK),Room k (A.deeper (envOfC x (aJ st) s.heap.objs.size f cdv))->
   kE ((jB (CXe P w) P w K mg base N x (aJ st) f cdv A outer s H E).fly E) ⟨K,mg,w,F,H,gOf P w K mg base T,(envOfC x (aJ st) s.heap.objs.size f cdv).cells,λ_=>none⟩ E (bE st) fb):bH P w K mg base T (k+1) x ps (fnF N.length fb):=by
 refine D.okX S (λvs H Q E h=>?_) (λf cdv A outer s H vs Q E hr h=>?_)
 .obtain ⟨F,d,_,_,h2,b,_⟩:=h
  rw[h2.len,b]
 .obtain ⟨F,d,e,h1,h2,b,c⟩:=h
  exact⟨_,a f cdv A outer s H F E hr,sK e h1 h2 c⟩
theorem bH.imp{G a:L9 A->R A}(C:bH P w K mg base T k x ps G)(h:∀ as,a as≠.bad->G as=a as):bH P w K mg base T k x ps a:=Calls.imp C λvs H Q E=>by
 rintro ⟨F,as,h0,h1,h2,h3,h4⟩
 refine⟨F,as,h0,h1,h2,h3,?_⟩
 ext
end
def tPf(c:Ct)(E:XK)(f:Sg->R (O9 Int)):TO:=λZ H Q=>∃ Y F,Ab c Y Z F H/\Rk c E F H (f Y) λo=>∀ F' H',Ext F H F' H'->Q o H'
noncomputable def oNo:Sg->R (O9 Int):=λ_=>.ok none
def oSo(f:Sg->R Dz):Sg->R (O9 Int):=λY=>(f Y).bind λx=>match x with
 | .int i=>.ok (some i)
 | _=>.bad
noncomputable def jC{α:Type}(xs:L9 α)(lo hi:O9 Int):L9 α:=(xs.drop (HT.sIx xs.length 0 lo)).take (HT.sIx xs.length xs.length hi - HT.sIx xs.length 0 lo)
noncomputable def dSl:Dz->O9 Int->O9 Int->R Dz
 | .list xs,lo,hi=>.ok (.list (jC xs lo hi))
 | .tuple xs,lo,hi=>if ¬ (HT.sIx xs.length 0 lo=0/\HT.sIx xs.length xs.length hi=xs.length)then .ok (.tuple (jC xs lo hi))else .bad
 | .str z,lo,hi=>if z.length<=16777216 then .ok (.str (Txt.slice z lo hi))else .bad
 | _,_,_=>.bad
def eSl{α:Type}(g:Dz->O9 Int->O9 Int->R α)(f:Sg->R Dz)(lo hi:Sg->R (O9 Int)):Sg->R α:=λY=>(f Y).bind λx=>(lo Y).bind λl=>(hi Y).bind λh=>g x l h
theorem aBE{K:Frag}{F:Hp}{vs:L9 V}{xs:L9 Dz}(h:DatVs K F vs xs)(lo hi:O9 Int):DatVs K F (qN vs lo hi) (jC xs lo hi):=by
 unfold qN jC
 rw[h.length]
 exact(h.drop _).take _
theorem PO.imp{X:Cx}{e:O9 E2}{t t':TO}(h:PO X e t)(i:∀ Z H Q,t' Z H Q->t Z H Q):PO X e t':=λa0 s Z H Q I q=>h a0 s Z H Q I (i Z H Q q)
section
variable{X:Cx}{c:Ct}{E:XK}{e a b:E2}{pos p2:Pos}{lo hi:O9 E2}
theorem aVD:PO X none (tPf c E oNo):=PO.imp aNY λZ H Q ⟨Y,F,ab,k⟩=>Rk.ok k F H (Ext.refl ab.fh)
theorem aVE{f:Sg->R Dz}(h:PR X c E e f):PO X (some e) (tPf c E (oSo f)):=PO.imp (aNZ h) λZ H Q ⟨Y,F,ab,k⟩=>⟨Y,F,ab,(Rk.bind k).imp λx _ q v a H' s r=>by
 cases x with
 | int i=>exact⟨i,aK.int_of r,Rk.ok q a H' s⟩
 | _=>exact q.elim⟩
def aSX(c:Ct)(Rb:VR α)(g:Dz->O9 Int->O9 Int->R α):V->O9 Int->O9 Int->Hp->VK->Prop:=λv lo hi H Q=>∃ F x d,aD F H/\aK c.K F H v x/\g x lo hi=.ok d/\∀ w F' H',Ext F H F' H'->Rb d w H F' H'->Q w H'
theorem aVF(o:X.K=c.K):SlR X (aSX c (bO c) dSl):=by
 intro a0 s Z H v x f m lo hi sl Q I j n k g h
 obtain⟨F,d,w,b,i,a,q⟩:=h
 unfold dSl at a
 split at a
 .cases a
  obtain⟨p,vs,rfl,h1,h2⟩:=aK.lst_of b i
  rw[<-o]at h1
  exact aN2 a0 s Z H _ x f m lo hi sl Q I j n k g ⟨p,vs,rfl,h1,λl e=>q _ _ _ (Ext.new b e) (.lst (SqL.of aN) ((aBE h2 lo hi).same (aD.upd (aU b e))))⟩
 .rename_i xs _ _
  split at a
  .rename_i t
   cases a
   obtain⟨p,vs,rfl,_,h1,h2⟩:=aK.tup_of b i
   rw[<-o]at h1
   exact aR0 a0 s Z H _ x f m lo hi sl Q I j n k g ⟨p,vs,rfl,h1,by rw[h2.length];exact t,λl e=>q _ _ _ (Ext.new b e) (.tup (SqT.of aN) ((aBE h2 lo hi).same (aD.upd (aU b e))))⟩
  .cases a
 .split at a
  .rename_i r
   cases a
   obtain rfl:=aK.str_of i
   exact aR7 a0 s Z H _ x f m lo hi sl Q I j n k g ⟨_,rfl,by rw[cO];exact r,q _ F H (Ext.refl b) (.str _)⟩
  .cases a
 .cases a
theorem aOY{Rb:VR α}{g:Dz->O9 Int->O9 Int->R α}(o:∀ x l h e,g x l h≠.ex e)(u:aA3 Rb){f:Sg->R Dz}{m fh:Sg->R (O9 Int)}{Z:L2.St}{H:Hp}{Q:VK}(h:tV Rb c E (eSl g f m fh) Z H Q) :
  tSl (aSX c Rb g) (tV (aS c) c E f) (tPf c E m) (tPf c E fh) Z H Q:=by
 obtain⟨Y,F,ab,k⟩:=h
 refine⟨Y,F,ab,(Rk.bind k).imp λx _ q v y H1 s1 r1=>⟨Y,y,ab.ext s1,((Rk.bind q).ext s1).imp λl _ q t H2 i=>⟨Y,t,ab.ext (s1.trans i),((Rk.bind q).ext (s1.trans i)).imp λhh _ q n H3 j=>?_⟩⟩⟩
 cases b:g x l hh with
 | bad=>rw[b]at q;exact q.elim
 | ex e=>exact absurd b (o x l hh e)
 | ok d=>
  rw[b]at q
  have a:=(s1.trans i).trans j
  exact⟨n,x,d,j.fh,aK.ext (i.trans j) r1,b,λw p H' s r=>Rk.ok q w p H' (a.trans s) (u _ _ _ _ _ _ a.hh r)⟩
theorem aK2:∀ x l h e,dSl x l h≠.ex e:=by intro x l h e q;unfold dSl at q;split at q<;>(try split at q)<;>cases q
theorem aK3{f:Sg->R Dz}{a fh:Sg->R (O9 Int)}(b:X.K=c.K)(i:PR X c E e f)(g:PO X lo (tPf c E a))(d:PO X hi (tPf c E fh)):PD X c E (.Subscript e (.Slice lo hi none p2) pos) (eSl dSl f a fh):=
 PE.imp (aKD (aVF b) i g d) λZ H Q h=>aOY aK2 (lY c) h
noncomputable def tyN:Dz->String
 | .none=>"NoneType"
 | .bool _=>"bool"
 | .int _=>"int"
 | .str _=>"str"
 | .list _=>"list"
 | .tuple _=>"tuple"
 | .dict _=>"dict"
noncomputable def jD(t T:String):Bool:=t == T || (T == "int" && t == "bool")
noncomputable def iE(T:String)(x:Dz):R Dz:=match x with
 | .dict _=>.bad
 | x=>.ok (.bool (jD (tyN x) T))
structure Kit(K:Frag)(T:String):Prop where
 non:kitOne K (.type "NoneType") (.type T)=some (jD "NoneType" T)
 bl:kitOne K (.type "bool") (.type T)=some (jD "bool" T)
 int:kitOne K (.type "int") (.type T)=some (jD "int" T)
 str:kitOne K (.type "str") (.type T)=some (jD "str" T)
 lst:kitOne K (.type "list") (.type T)=some (jD "list" T)
 tup:kitOne K (.type "tuple") (.type T)=some (jD "tuple" T)
theorem aOZ(K:Frag):Kit K "str":=⟨rfl,rfl,rfl,rfl,rfl,rfl⟩
theorem aK4(K:Frag):Kit K "list":=⟨rfl,rfl,rfl,rfl,rfl,rfl⟩
theorem aK5{X:Cx}:iG X (.builtin "isinstance") (λxs H Q=>∃ a ys c cv b,xs=[.ref a,c]/\SqL X.K H a ys/\aFF c=some cv/\kitOne X.K (.type "list") cv=some b/\Q (.bl b) H):=by
 intro a0 s Z H xs us Q I r h
 obtain⟨a,ys,c,cv,b,rfl,i,k,e,q⟩:=h
 obtain⟨u,v,rfl,j,g⟩:=sC r
 obtain rfl:=xP k g
 cases(show u=Value.ref a from j)
 obtain⟨f,_,d,_⟩:=I.list i
 obtain⟨o,h1,h2,_⟩:=d.isList
 exact B5 GF I.kIn ⟨o,h1,h2⟩ e (λz=>nomatch z) λl=>⟨.bl b,H,I.tok _,rfl,q⟩
def aK6(c:Ct)(T:String):L9 V->Hp->VK->Prop:=λxs H Q=>∃ F x v d,xs=[v,.ty T]/\aD F H/\aK c.K F H v x/\iE T x=.ok d/\∀ w F' H',Ext F H F' H'->DatV c.K F' w d->Q w H'
theorem aBF(g:X.K=c.K){T:String}(k:Kit X.K T):iG X (.builtin "isinstance") (aK6 c T):=by
 intro a0 s Z H xs us Q I r h
 obtain⟨F,x,v,d,rfl,a,f,e,q⟩:=h
 cases x with
 | dict _=>cases e
 | none=>
  cases e
  obtain rfl:=aK.non_of f
  exact lB a0 s Z H _ us Q I r ⟨_,_,_,_,_,rfl,.pl .non,rfl,k.non,q _ F H (Ext.refl a) (.bl _)⟩
 | bool b=>
  cases e
  obtain rfl:=aK.bl_of f
  exact lB a0 s Z H _ us Q I r ⟨_,_,_,_,_,rfl,.pl (.bl b),rfl,k.bl,q _ F H (Ext.refl a) (.bl _)⟩
 | int b=>
  cases e
  obtain rfl:=aK.int_of f
  exact lB a0 s Z H _ us Q I r ⟨_,_,_,_,_,rfl,.pl (.int b),rfl,k.int,q _ F H (Ext.refl a) (.bl _)⟩
 | str b=>
  cases e
  obtain rfl:=aK.str_of f
  exact lB a0 s Z H _ us Q I r ⟨_,_,_,_,_,rfl,.pl (.str b),rfl,k.str,q _ F H (Ext.refl a) (.bl _)⟩
 | tuple xs=>
  cases e
  obtain⟨p,vs,rfl,_,h1,h2⟩:=aK.tup_of a f
  rw[<-g]at h1
  exact aAP a0 s Z H _ us Q I r ⟨p,vs,_,_,_,rfl,h1,rfl,k.tup,q _ F H (Ext.refl a) (.bl _)⟩
 | list xs=>
  cases e
  obtain⟨p,vs,rfl,h1,h2⟩:=aK.lst_of a f
  rw[<-g]at h1
  exact aK5 a0 s Z H _ us Q I r ⟨p,vs,_,_,_,rfl,h1,rfl,k.lst,q _ F H (Ext.refl a) (.bl _)⟩
theorem aH6{T:String}{f:Sg->R Dz}(h:PE X e (tCB (aK6 c T) (cN (tV (aS c) c E f) (cN (tC (.ty T)) fY)))):PD X c E e (e1 (iE T) f):=PE.imp h λZ H Q d=>by
 obtain⟨Y,F,ab,k⟩:=d
 refine⟨Y,F,ab,(Rk.bind k).imp λx _ q v b H1 s1 r1=>?_⟩
 show aK6 c T [v,.ty T] H1 Q
 cases x with
 | dict _=>exact q.elim
 | none=>exact⟨b,_,v,_,rfl,s1.fh,r1,rfl,λw a H' s r=>Rk.ok q w a H' (s1.trans s) r⟩
 | bool _=>exact⟨b,_,v,_,rfl,s1.fh,r1,rfl,λw a H' s r=>Rk.ok q w a H' (s1.trans s) r⟩
 | int _=>exact⟨b,_,v,_,rfl,s1.fh,r1,rfl,λw a H' s r=>Rk.ok q w a H' (s1.trans s) r⟩
 | str _=>exact⟨b,_,v,_,rfl,s1.fh,r1,rfl,λw a H' s r=>Rk.ok q w a H' (s1.trans s) r⟩
 | list _=>exact⟨b,_,v,_,rfl,s1.fh,r1,rfl,λw a H' s r=>Rk.ok q w a H' (s1.trans s) r⟩
 | tuple _=>exact⟨b,_,v,_,rfl,s1.fh,r1,rfl,λw a H' s r=>Rk.ok q w a H' (s1.trans s) r⟩
noncomputable def lQ:L9 Dz->O9 (L9 Str)
 | []=>some []
 | .str s::t=>(lQ t).map (s :: ·)
 | _=>none
theorem oD{F:Hp}:∀ {vs:L9 V} {xs:L9 Dz} {ys:L9 Str},DatVs K F vs xs->lQ xs=some ys->vs=ys.map V.str
 | _,_,ys,.nil,e=>by cases e;rfl
 | _,_,ys,.cons (d:=d) (ds:=t) h h2,e=>by
  cases d with
  | str b=>
   unfold lQ at e
   cases q:lQ t with
   | none=>rw[q]at e;cases e
   | some cs=>
    rw[q]at e
    cases e
    rw[oD h2 q,h.str_of];rfl
  | _=>cases e
noncomputable def sL:Dz->Dz->R Dz
 | .str sep,.list xs=>match lQ xs with
  | some ys=>if (ys.map λy=>y.length).sum+ys.length * sep.length<=16777216 then .ok (.str (Txt.join sep ys))else .bad
  | none=>.bad
 | _,_=>.bad
theorem aDP{f g:Sg->R Dz}(j:X.K=c.K)(h:PE X e (tBM X.K "str" (aMW X.K) (tV (aS c) c E f) (cN (tV (aS c) c E g) fY)))(o:∀ Y x,f Y=.ok x->∃ z,x=.str z):PD X c E e (e2 sL f g):=PE.imp h λZ H Q ⟨Y,F,ab,k⟩=>by
 refine⟨Y,F,ab,(Rk.bind k).imp λx ex q v m H1 s1 r1=>?_⟩
 obtain⟨z,rfl⟩:=o Y x ex
 obtain rfl:=aK.str_of r1
 refine⟨rfl,Y,m,ab.ext s1,((Rk.bind q).ext s1).imp λy _ q u n H2 b r2=>?_⟩
 cases y with
 | list xs=>
  have a:Rk c E F H (match lQ xs with
   | some ys=>if (ys.map λy=>y.length).sum+ys.length * z.length<=16777216 then R.ok (PyData.str (Txt.join z ys))else .bad
   | none=>.bad) (λd=>∀ v F' H',Ext F H F' H'->bO c d v H F' H'->Q v H'):=q
  split at a
  .rename_i ys i
   split at a
   .rename_i l
    obtain⟨p,vs,rfl,h1,h2⟩:=aK.lst_of b.fh r2
    rw[<-j]at h1
    obtain rfl:=oD h2 i
    exact⟨z,p,ys,rfl,rfl,h1,l,Rk.ok a _ n H2 (s1.trans b) (.str _)⟩
   .exact a.elim
  .exact a.elim
 | _=>exact q.elim
noncomputable def v4:Dz->Dz->R Dz
 | .str z,.str y=>match Builtin.Str.occurrences z y 0 z.length 1 with
  | i::_=>.ok (.int i)
  | []=>.bad
 | _,_=>.bad
theorem aK7{f g:Sg->R Dz}(h:PE X e (tBM X.K "str" aHB (tV (aS c) c E f) (cN (tV (aS c) c E g) fY)))(m:∀ Y x,f Y=.ok x->∃ z,x=.str z):PD X c E e (e2 v4 f g):=PE.imp h λZ H Q ⟨Y,F,ab,k⟩=>by
 refine⟨Y,F,ab,(Rk.bind k).imp λx ex q v j H1 s1 r1=>?_⟩
 obtain⟨z,rfl⟩:=m Y x ex
 obtain rfl:=aK.str_of r1
 refine⟨rfl,Y,j,ab.ext s1,((Rk.bind q).ext s1).imp λy _ q u l H2 b r2=>?_⟩
 cases y with
 | str y=>
  have a:Rk c E F H (match Builtin.Str.occurrences z y 0 z.length 1 with
   | i::_=>R.ok (PyData.int i)
   | []=>.bad) (λd=>∀ v F' H',Ext F H F' H'->bO c d v H F' H'->Q v H'):=q
  split at a
  .rename_i i rest n
   obtain rfl:=aK.str_of r2
   exact⟨z,y,i,rest,rfl,rfl,n,Rk.ok a _ l H2 (s1.trans b) (.int _)⟩
  .exact a.elim
 | _=>exact q.elim
end
def b7(ce:L9 (Dz×Dz))(k:Dz):O9 Dz:=(ce.find? λp=>decide (p.1=k)).map (·.2)
def bC(ce:L9 (Dz×Dz))(k:Dz):Bool:=(b7 ce k).isSome
def putM(ce:L9 (Dz×Dz))(k v:Dz):L9 (Dz×Dz):=if bC ce k=true then ce.map (λp=>if p.1=k then(p.1,v)else p)else ce++[(k,v)]
theorem x5{K:Frag}{F:Hp}{k:Dz}:∀ {es:L9 Ent} {ce:L9 (Dz×Dz)},es.map (·.1)=ce.map (·.1)->DatVs K F (es.map (·.2.2)) (ce.map (·.2))->
  (atE es k=none/\b7 ce k=none)\/∃ v d,atE es k=some v/\b7 ce k=some d/\DatV K F v d
 | [],[],_,_=>.inl ⟨rfl,rfl⟩
 | [],_::_,h,_=>by cases h
 | _::_,[],h,_=>by cases h
 | e::es,p::ce,h,r=>by
  rw[AZ,AZ]at h r
  injection h with h1 h2
  obtain⟨v,t,e1,r1,r2⟩:=r.cons_of
  rw[FA]at e1
  obtain⟨rfl,rfl⟩:=e1
  have a:=x5 (k:=k) h2 r2
  unfold atE b7 at a ⊢
  rw[C3,C3,h1]
  by_cases q:p.1=k
  · rw [AY q]; exact .inr ⟨_, _, rfl, rfl, r1⟩
  · rw [A5 q]; exact a
theorem MapRel.get{K:Frag}{F:Hp}{es:L9 Ent}{ce:L9 (Dz×Dz)}(m:MapRel K F es ce)(k:Dz):(atE es k=none/\b7 ce k=none)\/∃ v d,atE es k=some v/\b7 ce k=some d/\DatV K F v d:=x5 m.k1 m.vs
theorem MapRel.has{K:Frag}{F:Hp}{es:L9 Ent}{ce:L9 (Dz×Dz)}(m:MapRel K F es ce)(k:Dz):(atE es k).isSome=bC ce k:=by
 unfold bC
 rcases m.get k with ⟨a,b⟩|⟨v,d,a,b,_⟩<;>rw[a,b]<;>rfl
theorem mU{ce:L9 (Dz×Dz)}{k:Dz}:bC ce k=true↔k∈ce.map (·.1):=by
 unfold bC b7
 simp_all
theorem aH7{ce:L9 (Dz×Dz)}{k v:Dz}:(putM ce k v).map (·.1)=if bC ce k=true then ce.map (·.1)else ce.map (·.1)++[k]:=by
 unfold putM
 cases h:bC ce k with
 | true=>
  rw[AJ rfl,AJ rfl,AX]
  refine BA λp _=>?_
  ext
 | false=>rw[AM (by decide),AM (by decide),A8];rfl
theorem aDQ{K:Frag}{F:Hp}{k d:Dz}{v:V}(r:DatV K F v d):∀ {es:L9 Ent} {ce:L9 (Dz×Dz)},es.map (·.1)=ce.map (·.1)->DatVs K F (es.map (·.2.1)) (ce.map (·.1))->DatVs K F (es.map (·.2.2)) (ce.map (·.2))->
  (es.map λe=>if e.1=k then(e.1,e.2.1,v)else e).map (·.1)=(ce.map λp=>if p.1=k then(p.1,d)else p).map (·.1) /\
  DatVs K F ((es.map λe=>if e.1=k then(e.1,e.2.1,v)else e).map (·.2.1)) ((ce.map λp=>if p.1=k then(p.1,d)else p).map (·.1)) /\
  DatVs K F ((es.map λe=>if e.1=k then(e.1,e.2.1,v)else e).map (·.2.2)) ((ce.map λp=>if p.1=k then(p.1,d)else p).map (·.2))
 | [],[],_,_,_=>⟨rfl,.nil,.nil⟩
 | [],_::_,h,_,_=>by cases h
 | _::_,[],h,_,_=>by cases h
 | e::es,p::ce,h,rk,rv=>by
  rw[AZ,AZ]at h rk rv
  injection h with h1 h2
  obtain⟨_,_,e1,r1,r2⟩:=rk.cons_of
  rw[FA]at e1
  obtain⟨rfl,rfl⟩:=e1
  obtain⟨_,_,e1,g,f⟩:=rv.cons_of
  rw[FA]at e1
  obtain⟨rfl,rfl⟩:=e1
  obtain⟨c,a,b⟩:=aDQ r h2 r2 f
  simp only[AZ]
  rw[h1,c]
  by_cases q:p.1=k
  · rw [AJ q, AJ q]; exact⟨rfl, .cons r1 a, .cons r b⟩
  · rw [AM q, AM q]; exact⟨by rw [h1], .cons r1 a, .cons g b⟩
theorem MapRel.put{K:Frag}{F:Hp}{es:L9 Ent}{ce:L9 (Dz×Dz)}{k d:Dz}{kv v:V}(m:MapRel K F es ce)(l:DatV K F kv k)(r:DatV K F v d):MapRel K F (mQ es k kv v) (putM ce k d):=by
 have e:=m.has k
 have nd:((putM ce k d).map (·.1)).Nodup:=by
  rw[aH7]
  cases h:bC ce k with
  | true=>rw[AJ rfl];exact m.nd
  | false=>
   rw[AM (by decide),DA]
   refine⟨m.nd,by simp,λa g b c z=>?_⟩
   rw[AK]at c
   subst c z
   rw[mU.mpr g]at h
   cases h
 unfold mQ
 rw[e]
 unfold putM at nd ⊢
 cases h:bC ce k with
 | true=>
  rw[h,AJ rfl]at nd
  rw[AJ rfl,AJ rfl]
  obtain⟨j,f,i⟩:=aDQ (k:=k) r m.k1 m.k2 m.vs
  exact⟨j,f,i,nd⟩
 | false=>
  rw[h,AM (by decide)]at nd
  rw[AM (by decide),AM (by decide)]
  refine⟨by rw[A8,A8,m.k1];rfl,?_,?_,nd⟩
  .rw[A8,A8];exact m.k2.append (.cons l .nil)
  .rw[A8,A8];exact m.vs.append (.cons r .nil)
theorem nM{K:Frag}{F:Hp}:∀ {es:L9 Ent} {ce:L9 (Dz×Dz)},es.map (·.1)=ce.map (·.1)->DatVs K F (es.map (·.2.1)) (ce.map (·.1))->∀ e∈es,DatV K F e.2.1 e.1
 | [],_,_,_,e,he=>by cases he
 | _::_,[],h,_,_,_=>by cases h
 | e0::es,p::ce,h,rk,e,he=>by
  rw[AZ,AZ]at h rk
  injection h with h1 h2
  obtain⟨_,_,e1,r1,r2⟩:=rk.cons_of
  rw[FA]at e1
  obtain⟨rfl,rfl⟩:=e1
  rcases AW.mp he with z|z
  · simp_all
  · exact nM h2 r2 e z
section
variable{X:Cx}{c:Ct}{E:XK}{e a b:E2}{st:Stmt}{pos:Pos}
theorem z8{Y:Sg}{Z:L2.St}{F H:Hp}{k:Dz}{kv:V}(b:X.K=c.K)(hW:X.w=c.w)(ab:Ab c Y Z F H)(hi:Y[i]? = some (some (.m ce)))(d:DatV c.K F kv k)(h:a7 k (ce.map (·.1))=true) :
  ∃ p es,Z[i]? = some (some (.ref p))/\DicAt X H p es k kv/\MapRel c.K F es ce:=by
 obtain⟨v,g,p,es,rfl,⟨f,h2⟩,n,l,a⟩:=ab.slot i _ hi
 refine⟨p,es,g,⟨⟨f,by rw[hW];exact h2⟩,λe j=>by rw[b];exact(nM a.k1 a.k2 e j).same ab.fh,by rw[a.k1];exact a.nd,by rw[b];exact d.same ab.fh,by rw[a.k1];exact h⟩,a⟩
theorem aH8{Y:Sg}{Z:L2.St}{F H:Hp}{k:Dz}{kv:V}(b:X.K=c.K)(hW:X.w=c.g.w)(ab:Ab c Y Z F H)(hi:Y[i]? = some (some (.f ce)))(d:DatV c.K F kv k)(l:a7 k (ce.map (·.1))=true) :
  ∃ p es,Z[i]? = some (some (.ref p))/\DicAt X H p es k kv/\MapRel c.K F es ce:=by
 obtain⟨v,j,p,es,rfl,⟨h,h2⟩,a⟩:=ab.slot i _ hi
 refine⟨p,es,j,⟨⟨h,by rw[hW];exact ab.fh _ _ h2⟩,λe m=>by rw[b];exact(nM a.k1 a.k2 e m).same ab.fh,by rw[a.k1];exact a.nd,by rw[b];exact d.same ab.fh,by rw[a.k1];exact l⟩,a⟩
def aM5(w:W9):TE:=λ_ H Q=>∀ p,H p=none->Q (.ref p) (upd H p (dA w p [] 0))
theorem aO0:PE X (.Dict [] [] pos) (aM5 X.w):=λa0 s Z H Q I h=>
 wpAny_Dict_empty ⟨.ref s.heap.objs.size,_,I.laid (a:=s.heap.objs.size) (o:=dA X.w s.heap.objs.size [] 0) (t':=s.toks) (λ_ _ q=>AE _ q) (AQ _)
  (j2 (FK.mpr (BL (BD I.big))) ⟨_,#[],A0 _ rfl,⟨rfl,rfl,rfl⟩,rfl,.nil⟩),rfl,h _ (I.hok.fresh (AQ _))⟩
noncomputable def lE(i:Nat):Sg->R Fw:=λY=>.ok (.nx (Y.set i (some (.m []))))
theorem aO1{w:W9}(hW:w=c.w)(h:PS X st (kQ (aM5 w) (kB i))):PSf X c E st (lE i):=PS.imp h λD Z H ⟨Y,F,ab,k⟩=>λp a=>by
 subst hW
 exact Rk.ok k _ F _ (a9 F) (ab.setM (Ext.own ab.fh a) a aN (aU ab.fh a) ⟨rfl,.nil,.nil,D8⟩)
def iR(neg:Bool)(i:Nat)(f:Sg->R Dz):Sg->R Dz:=λY=>(f Y).bind λk=>match Y[i]? with
 | some (some (.m ce))=>if a7 k (ce.map (·.1))=true then .ok (.bool (if neg=true then !bC ce k else bC ce k))else .bad
 | some (some (.f ce))=>if a7 k (ce.map (·.1))=true then .ok (.bool (if neg=true then !bC ce k else bC ce k))else .bad
 | _=>.bad
def aBG(X:Cx)(neg:Bool):R2:=λy x H Q=>∃ p es k,x=.ref p/\DicAt X H p es k y/\Q (.bl (if neg=true then !(atE es k).isSome else(atE es k).isSome)) H
theorem aDR(a:X.A.units+64 < cLine):OpR X (compareOp .In) (aBG X false):=by
 intro a0 s Z H y x v u Q I c d h
 obtain⟨p,es,k,rfl,D,q⟩:=h
 cases(show u=Value.ref p from d)
 exact aSC a D I c λs' b=>⟨.bl _,H,b,rfl,q⟩
theorem aBH(a:X.A.units+64 < cLine):OpR X (compareOp .NotIn) (aBG X true):=by
 intro a0 s Z H y x v u Q I c d h
 obtain⟨p,es,k,rfl,D,q⟩:=h
 cases(show u=Value.ref p from d)
 exact aOH a D I c λs' b=>⟨.bl _,H,b,rfl,q⟩
theorem aBI{a:Bool}{f:Sg->R Dz}(j:X.K=c.K)(hW:X.w=c.w)(n:c.w=c.g.w){Z:L2.St}{H:Hp}{Q:VK}(h:tV (bO c) c E (iR a i f) Z H Q):tOp (aBG X a) (tV (bO c) c E f) (jA i) Z H Q:=by
 obtain⟨Y,F,ab,k⟩:=h
 refine⟨Y,F,ab,(Rk.bind k).imp λd _ q v l H1 s1 r1=>?_⟩
 split at q
 .rename_i ce hi
  split at q
  .rename_i e
   obtain⟨p,es,b,D,m⟩:=z8 j hW (ab.ext s1) hi r1 e
   refine⟨_,b,p,es,d,rfl,D,?_⟩
   rw[m.has]
   exact Rk.ok q _ l H1 s1 (.bl _)
  .exact q.elim
 .rename_i ce hi
  split at q
  .rename_i e
   obtain⟨p,es,b,D,m⟩:=aH8 j (hW.trans n) (ab.ext s1) hi r1 e
   refine⟨_,b,p,es,d,rfl,D,?_⟩
   rw[m.has]
   exact Rk.ok q _ l H1 s1 (.bl _)
  .exact q.elim
 .exact q.elim
theorem aH9{a:Bool}{op:CmpOp}{f:Sg->R Dz}(d:X.K=c.K)(hW:X.w=c.w)(h:PE X e (tOp (aBG X a) (tV (bO c) c E f) (jA i)))(b:c.w=c.g.w:=by rfl):PD X c E e (iR a i f):=PE.imp h λZ H Q q=>aBI d hW b q
theorem aIA{a:Bool}{f:Sg->R Dz}(d:X.K=c.K)(hW:X.w=c.w)(h:PT X e (aMQ (tOp (aBG X a) (tV (bO c) c E f) (jA i))))(b:c.w=c.g.w:=by rfl):PTf X c E e (e1 asB (iR a i f)):=PT.imp h λZ H Q q=>aBI d hW b (xW q)
def gN(i:Nat)(f:Sg->R Dz):Sg->R Dz:=λY=>match Y[i]? with
 | some (some (.m ce))=>(f Y).bind λk=>if a7 k (ce.map (·.1))=true then match b7 ce k with
  | some v=>.ok v
  | none=>.bad else .bad
 | some (some (.f ce))=>(f Y).bind λk=>if a7 k (ce.map (·.1))=true then match b7 ce k with
  | some v=>.ok v
  | none=>.bad else .bad
 | _=>.bad
def aM6(X:Cx)(td ty:TE):TE:=λZ H Q=>td Z H λx H1=>ty Z H1 λy H2=>∃ p es k v,x=.ref p/\DicAt X H2 p es k y/\atE es k=some v/\Q v H2
theorem aO2{o i:E2}{c ty:TE}(t:X.A.units+64 < cLine)(C:PE X o c)(hi:PE X i ty)(B:aR8 i):PE X (.Subscript o i pos) (aM6 X c ty):=by
 intro a0 s Z H Q I h
 refine aN8 PySem.F.slot_dict_getitem.lookup B (thn (C a0 s Z H _ I h) λu s1 ⟨x,H1,m,f,l⟩=>thn (hi a0 s1 Z H1 _ m l) λG q b=>?_)
 obtain⟨y,H2,d,n,p,es,k,v,ex,D,z,j⟩:=b
 subst ex
 obtain rfl:u=Value.ref p:=f
 obtain⟨r,g⟩:=D.o
 obtain⟨⟨_,o',J,h1,h2,_⟩,_,_⟩:=(show bI X.prog X.w H2 q.heap p (dA X.w p es r)from d.hok p _ g)
 exact⟨⟨o',h1,h2.1⟩,aOI t D d n z λK E e a=>⟨v,H2,e,a,j⟩⟩
theorem aO3{f:Sg->R Dz}(t:X.K=c.K)(hW:X.w=c.w)(h:PE X e (aM6 X (jA i) (tV (bO c) c E f)))(u:c.w=c.g.w:=by rfl):PD X c E e (gN i f):=PE.imp h λZ H Q ⟨Y,F,ab,k⟩=>by
 unfold gN at k
 split at k
 .rename_i ce hi
  obtain⟨_,j,p,es,rfl,_⟩:=ab.slot i _ hi
  refine⟨_,j,Y,F,ab,(Rk.bind k).imp λd _ q v r H1 s1 r1=>?_⟩
  split at q
  .rename_i s
   obtain⟨y,b,a,D,m⟩:=z8 t hW (ab.ext s1) hi r1 s
   rw[j]at a
   cases a
   split at q
   .rename_i w o
    rcases m.get d with ⟨_,z⟩|⟨l,x,h1,h2,n⟩
    .grind
    .rw[o]at h2
     cases h2
     exact⟨p,b,d,l,rfl,D,h1,Rk.ok q l r H1 s1 n⟩
   .exact q.elim
  .exact q.elim
 .rename_i ce hi
  obtain⟨_,j,p,es,rfl,_⟩:=ab.slot i _ hi
  refine⟨_,j,Y,F,ab,(Rk.bind k).imp λd _ q v r H1 s1 r1=>?_⟩
  split at q
  .rename_i s
   obtain⟨y,b,a,D,m⟩:=aH8 t (hW.trans u) (ab.ext s1) hi r1 s
   rw[j]at a
   cases a
   split at q
   .rename_i w o
    rcases m.get d with ⟨_,z⟩|⟨l,x,h1,h2,n⟩
    .grind
    .rw[o]at h2
     cases h2
     exact⟨p,b,d,l,rfl,D,h1,Rk.ok q l r H1 s1 n⟩
   .exact q.elim
  .exact q.elim
 .exact k.elim
def iZ(i:Nat)(f g:Sg->R Dz):Sg->R Fw:=λY=>(g Y).bind λv=>match Y[i]? with
 | some (some (.m ce))=>(f Y).bind λk=>if a7 k (ce.map (·.1))=true/\ce.length<=16777216 then .ok (.nx (Y.set i (some (.m (putM ce k v)))))else .bad
 | _=>.bad
def aM7(X:Cx):aE2:=λo i v H Q=>∃ p es k,o=.ref p/\DicAt X H p es k i/\es.length<=sizeLine/\∀ ep,Q (upd H p (dA X.w p (mQ es k i v) ep))
theorem aK8(g:X.A.units+64 < cLine):aJ3 X (aM7 X):=by
 intro a0 s Z H o i v j l u Q I e b d h
 obtain⟨p,es,k,rfl,D,a,q⟩:=h
 cases(show j=Value.ref p from e)
 exact aOJ g D I b d a λc s' f=>⟨_,f,q c⟩
theorem aO4{f g:Sg->R Dz}(t:X.K=c.K)(hW:X.w=c.w)(h:PS X st (kQ (tV (bO c) c E g) (aJ6 (jA i) (tV (bO c) c E f) (aM7 X)))):PSf X c E st (iZ i f g):=PS.imp h λD Z H ⟨Y,F,ab,k⟩=>by
 refine⟨Y,F,ab,(Rk.bind k).imp λx _ q v y H1 s1 r1=>?_⟩
 split at q
 .rename_i ce hi
  have a:=ab.ext s1
  obtain⟨_,l,p,es,rfl,_⟩:=a.slot i _ hi
  refine⟨_,l,Y,y,a,((Rk.bind q).ext s1).imp λd _ q u s H2 n r2=>?_⟩
  have j:=a.ext n
  split at q
  .rename_i o
   obtain⟨z,b,e,r,m⟩:=z8 t hW j hi r2 o.1
   rw[l]at e
   cases e
   refine⟨p,b,d,rfl,r,?_,?_⟩
   .have:b.length=ce.length:=by have:=DB length m.k1;simpa using this
    rw[this,cO];exact o.2
   .intro A
    rw[hW]
    exact Rk.ok q Z s _ (s1.trans n).ff (j.putM hi l (m.put r2 (DatV.same n.ff r1)))
  .exact q.elim
 .exact q.elim
end
section
variable{X:Cx}{c:Ct}{E:XK}{e a b:E2}{st:Stmt}{pos p2:Pos}
def n5(fs:Dz->Sg->O9 Sg)(f:Sg->R Dz):Sg->R Fw:=λY=>(f Y).bind λx=>(x4 (fs x Y)).bind λY'=>.ok (.nx Y')
theorem aIB{g:TG}{fs:Dz->Sg->O9 Sg}{f:Sg->R Dz}(i:Tg c g fs is)(h:PS X st (kQ (tV (bO c) c E f) g)):PSf X c E st (n5 fs f):=PS.imp h λD Z H b=>by
 obtain⟨Y,F,ab,k⟩:=b
 refine⟨Y,F,ab,(Rk.bind k).imp λx _ q v d H1 s1 r1=>?_⟩
 cases h1:fs x Y with
 | none=>rw[h1]at q;exact q.elim
 | some Y'=>
  rw[h1]at q
  exact i v x Y Y' Z d H1 _ (ab.ext s1) r1 h1 λe _ _ a=>Rk.ok q e d H1 s1.ff a
end
theorem aSY{P:P9}{w:W9}{K:Frag}{mg:Str->O9 V9}{base:H9}{T:Hp}{x:Str}{st:Stmt}{N ps:L9 Str}{k:Nat}{f:Az}{fd:FuncData}{fb:Sg->R Fw}(c:Fun K x x st f fd)(S:FnScope N ps (aJ st))
  (a:∀ (cdv:V9) (A:U9) (outer:L9 Env) (s:S9) (H F:Hp) (E:XK),Room k (A.deeper (envOfC x (aJ st) s.heap.objs.size f cdv))->
   kE ((jB (CXe P w) P w K mg base N x (aJ st) f cdv A outer s H E).fly E) ⟨K,mg,w,F,H,gOf P w K mg base T,(envOfC x (aJ st) s.heap.objs.size f cdv).cells,λ_=>none⟩ E (bE st) fb):FnOk P w K mg base (CXe P w) (k+1) f fd ps (spF (gOf P w K mg base T) K mg ps.length (fnF N.length fb)):=by
 refine c.okX S (λvs H Q E h=>?_) (λcdv A outer s H vs Q E hr h=>?_)
 .obtain ⟨F,e,_,_,h2,b,_⟩:=h
  rw[h2.len,b]
 .obtain ⟨F,e,g,h1,h2,b,d⟩:=h
  exact⟨_,a cdv A outer s H F E hr,sK g h1 h2 d⟩
def v5(K:Frag)(T:Hp):Sp:=λvs H Q _=>∃ (a:Az) (ns:L9 Int),vs=[.ref a]/\ns.length<=63/\aD T H/\SqL K H a (ns.map V.int)/\∀ H',Q (.bl true) H'
theorem aBJ{K:Frag}{H:Hp}:∀ (ns:L9 Int),DatVs K H (ns.map V.int) (ns.map PyData.int)
 | []=>.nil
 | n::t=>.cons (.int n) (aBJ t)
theorem aSZ{P:P9}{w:W9}{K:Frag}{mg:Str->O9 V9}{base:H9}{T:Hp}{k:Nat}{f:Az}{fd:FuncData}{x:Str}{G:L9 A->R A}(h:FnOk P w K mg base (CXe P w) k f fd [x] (spF (gOf P w K mg base T) K mg 1 G))
  (b:∀ ns:L9 Int,ns.length<=63->G [.d (.list (ns.map .int))]=.ok (.d (.bool true))):FnOk P w K mg base (CXe P w) k f fd [x] (v5 K T):=h.imp λvs H Q E=>by
 rintro ⟨a,ns,rfl,hn,ht,hs,q⟩
 refine⟨H,[.d (.list (ns.map .int))],ht,a9 H,⟨.lst hs (aBJ ns),trivial⟩,rfl,?_⟩
 rw[b ns hn]
 intro v c H' _ r
 obtain rfl:=DatV.bl_of r
 exact q H'
theorem aVG(P:P9)(w:W9)(H:Hp)(s:S9)(e:V9)(s':S9)(h:CXe P w [] H s (λ_ _ _=>False) e s'):False:=by
 obtain⟨_,_,_,_,_,_,_,_,_,_,_,q⟩:=h
 exact q
theorem aO5{l:OpenLaw}{k:Nat}{q:P9}{b:L9 Str}{y:(Str->O9 V9)->H9->Prop}{j:W9->H9->Prop}{d:DefRec}{K:Params->Frag}{x:Str}{qs:L9 (Pos×Str)}{xs:L9 Str}
  (i:∀ x∈xs,∃ d∈recsOf q,d.name=x) (hNT:∀ w:W9,noTabs (K w.params)=true)
  (r:l.most=some 63) (c:d.params.defaults=[]) (hr:Room k callerA)
  (p:∀ (w:W9) (h:H9),j w h->(K w.params).In h)
  (F:∀ (w:W9) (mg:Str->O9 V9) (fa:Az) (h:H9),(K w.params).In h->h.Ns mainGlobals mg->mg d.name=some (.ref fa)->
   ∃ fd:FuncData,(∀ (s:S9) (u:V9),BindsTo s fd ⟨[u],[]⟩ [(x,u)]) /\
    ∀ (base:H9) (T:Hp),(K w.params).In base->base.Ns mainGlobals mg->aAY mg h base T qs xs->FnOk l.prog w (K w.params) mg base (CXe l.prog w) k fa fd [x] (v5 (K w.params) T)) :
  WalkO q b y j l.row.toRowW d [] (λf vs=>PySem.call f vs):=
 walk_ofT (K:=K) (CX:=λw=>CXe l.prog w) (qs:=qs) (xs:=xs) i hNT r (by decide) c hr p (λw mg fa h h1 h2 g=>by
  obtain⟨fd,A,o⟩:=F w mg fa h h1 h2 g
  exact⟨fd,A,λbase T h1 h2 g=>⟨_,o base T h1 h2 g,λH a t n m v=>⟨a,t,rfl,n,m,v,λ_=>rfl⟩⟩⟩) λw H s e s' z=>aVG _ w H s e s' z
variable{X:Cx}{c:Ct}{E:XK}{e:E2}
noncomputable def d2(G:Int->Int->Int):Dz->Dz->R Dz
 | .int i,.int j=>.ok (.int (G i j))
 | _,_=>.bad
noncomputable def uE(i j:Int):Int:=if j > i then j else i
noncomputable def uF(i j:Int):Int:=if j < i then j else i
theorem aIC{G:Int->Int->Int}{f g:Sg->R Dz}(h0:PE X e (tCB (λxs H Q=>∃ i j,xs=[.int i,.int j]/\Q (.int (G i j)) H) (cN (tV (aS c) c E f) (cN (tV (aS c) c E g) fY)))):PD X c E e (e2 (d2 G) f g):=PE.imp h0 λZ H Q a=>by
 obtain⟨Y,F,ab,k⟩:=a
 refine⟨Y,F,ab,(Rk.bind k).imp λx ex q v d H1 s1 r1=>?_⟩
 refine⟨Y,d,ab.ext s1,((Rk.bind q).ext s1).imp λy _ q u h H2 b r2=>?_⟩
 cases x with
 | int i=>
  cases y with
  | int j=>
   obtain rfl:=aK.int_of r1
   obtain rfl:=aK.int_of r2
   exact⟨i,j,rfl,Rk.ok q _ h H2 (s1.trans b) (.int _)⟩
  | _=>exact q.elim
 | _=>exact q.elim
end Fl
variable{q:Int}
namespace L2
variable{X:Cx}
end L2
namespace Fl
variable{X:Cx}{c:Ct}{E:XK}{e:E2}
variable{X:Cx}{c:Ct}{E:XK}{e:E2}{st:Stmt}
end Fl
namespace L2
theorem aO6{w:W9}{A:U9}{t:Az}{ws:L9 V9}(m:PlainL s.heap t vs.toArray)(hb:PlainL s.heap b ws.toArray)
  (h2:Q (.ref s.heap.objs.size) {s with heap:=s.heap.push {cls:=.type "list",data:=.seq (vs++ws).toArray}})
  (hsz:vs.length+ws.length<=sizeLine):wpAny (model prog w) A (binaryOp .Add (.ref t) (.ref b)) Q E s:=by
 obtain⟨⟨cls,dd,data,sl⟩,n,l,k,_,i⟩:=id m
 obtain⟨⟨j,g,h,f⟩,n2,c,a,_,d⟩:=id hb
 simp only at k i a d
 subst k i a d
 have e:vs.toArray++ws.toArray=(vs++ws).toArray:=by simp
 refine concat_meets ⟨_,l,rfl⟩ ⟨_,c,rfl⟩ noFill_list_add seq_list_add PySem.F.slot_list_add PySem.F.entry_list_add (PySem.F.args_list_add_2 _ _)
   (list_addW t b vs.toArray ws.toArray n n2 dd g sl f (by rw[A6,A6];exact hsz)) ⟨l,c,?_⟩
 rw[e]
 exact h2
end L2
variable{vs:L9 E2}
namespace Fl
section
variable{X:Cx}{c:Ct}{E:XK}{e a b:E2}{pos:Pos}
noncomputable def kW:Dz->Dz->R (L9 Dz)
 | .list xs,.list ys=>if xs.length+ys.length<=sizeLine then .ok (xs++ys)else .bad
 | _,_=>.bad
theorem aO7(A:X.K=c.K):OpR X (binaryOp .Add) (r2D (aS c) (aS c) (xV c) kW):=by
 intro a0 s Z H v u x y Q I t z h
 obtain⟨E,H1,F,a,b,d,g,r,B,e,q⟩:=h
 unfold kW at e
 split at e
 .rename_i xs ys
  split at e
  .rename_i p
   cases e
   obtain⟨D,vs,rfl,k,l⟩:=aK.lst_of g r
   obtain⟨C,us,rfl,n,m⟩:=aK.lst_of g B
   rw[<-A]at k n
   cases t
   cases z
   obtain⟨w,r1,o,_⟩:=I.list k
   obtain⟨j,r2,p2,_⟩:=I.list n
   have f:vs.length+us.length<=sizeLine:=by rw[l.length,m.length];exact p
   have i:=I.fresh
   refine aO6 o p2 ?_ (by rw[<-r1.length,<-r2.length];exact f)
   exact⟨.ref _,_,I.lnew (t':=s.toks) (r1.append r2) (by rw[A2];exact f),rfl,q _ F _ (Ext.own g i) ⟨_,_,rfl,i,aN,aU g i,l.append m⟩⟩
  .cases e
 .cases e
theorem aID:cK kW:=by
 intro a b e h
 unfold kW at h
 ext
theorem aS0(f:X.K=c.K){d fb:Sg->R Dz}(e:PR X c E a d)(hb:PR X c E b fb):PN X c E (.BinOp a .Add b pos) (e2 kW d fb):=
 PE.imp (aMP (aO7 f) e hb) λZ H Q h=>tV2 vX aID (qV c) (aM0 c) h
end
theorem aC4{H:Hp}{a b:HO}:upd (upd H p a) p b=upd H p b:=by
 funext x
 by_cases q:x=p
 · subst q; rw [aN, aN]
 · rw [aF q, aF q, aF q]
section
variable{X:Cx}{a0:L9 (Az×Obj)}{Z:L2.St}{H:Hp}{s:S9}{a:Az}{es:L9 Ent}{k:Dz}{kv v:V}{ku u:V9}{A:U9}{E:V9->S9->Prop}
theorem aFU{A:U9}(a:A.units+64 < cLine):(jP X.prog X.w).room A:=by show A.units+9 < cLine;ext
theorem aO8{Q:Unit->S9->Prop}(C:A.units+64 < cLine)(D:DicAt X H a es k kv)(I:Inv X a0 Z H s)(B:aP kv ku)(x:aP v u)(hz:es.length<=sizeLine)(h:∀ ep s',Inv X a0 Z (upd H a (dA X.w a (mQ es k kv v) ep)) s'->Q () s') :
  wpAny (model X.prog X.w) A (dictSet a ku u) Q E s:=by
 obtain⟨t,⟨b,xs,rfl,rfl,d,i,dd⟩|⟨F,xs,rfl,rfl,d,i,dd⟩⟩:=D.cases I B
 .have g:xs.length<=sizeLine:=by rw[<-Paired.length d];exact hz
  refine wpAny_dictSet_heap (a:=b) (aFU C) i dd (λh' c r=>?_) g
  obtain⟨f,p,ep,e,h2,m,q,_,y⟩:=c
  obtain⟨j,l⟩:=D.o
  refine h ep _ (mC I (by rw[l];exact True.intro) r ⟨f,e⟩ (j2 t ⟨f,p,e,h2,m,?_⟩))
  rw[q]
  exact pE (aFM x d)
 .have g:xs.length<=sizeLine:=by rw[<-Paired.length d];exact hz
  refine wpAny_dictSet_pairs i dd (λh' c r=>?_) g
  obtain⟨f,p,ep,e,h2,m,q,y,_⟩:=c
  obtain⟨j,l⟩:=D.o
  refine h ep _ (mC I (by rw[l];exact True.intro) r ⟨f,e⟩ (j2 t ⟨f,p,e,h2,m,?_⟩))
  exact pF (aFN x d) y λz n=>q z (by simpa using n)
end
abbrev TP:=L2.St->Hp->(L9 (V×V)->Hp->Prop)->Prop
def aS1(p:V×V)(u:V9×V9):Prop:=aP p.1 u.1/\aP p.2 u.2
def PPr(X:Cx)(keys:L9 (O9 E2))(vals:L9 E2)(t:TP):Prop:=∀ (pos:Pos) (a0:L9 (Az×Obj)) (s:S9) (Z:L2.St) (H:Hp) (Q:L9 (V×V)->Hp->Prop),Inv X a0 Z H s->t Z H Q->
 wpAny (model X.prog X.w) X.A (evalPairs (pairTrees keys vals X.env pos)) (λvs s'=>∃ ps H',Inv X a0 Z H' s'/\Paired aS1 ps vs/\Q ps H') X.xe s
def aVH:TP:=λ_ H Q=>Q [] H
def aS2(tk tv:TE)(t:TP):TP:=λZ H Q=>tk Z H λx H1=>tv Z H1 λy H2=>t Z H2 λps H3=>Q ((x,y)::ps) H3
section
variable{X:Cx}{c:Ct}{E:XK}{e a b:E2}{st:Stmt}{pos:Pos}
theorem aS3:PPr X [] [] aVH:=λpos a0 s Z H Q I h=>evalPairs_nil ⟨[],H,I,.nil,h⟩
theorem aO9{k v:E2}{d:L9 (O9 E2)}{b c:TE}{t:TP}(g:PE X k b)(p:PE X v c)(hr:PPr X d vs t):PPr X (some k::d) (v::vs) (aS2 b c t):=by
 intro pos a0 s Z H Q I h
 rw[pairTrees.eq_1]
 refine evalPairs_cons (thn (g a0 s Z H _ I h) λku s1 a=>?_)
 obtain⟨x,H1,m,r1,l⟩:=a
 refine AB (thn (p a0 s1 Z H1 _ m l) λr o a=>?_)
 obtain⟨y,H2,n,r2,j⟩:=a
 refine AB (DO (AH ?_))
 exact thn (hr pos a0 o Z H2 _ n j) λvs q ⟨ps,H3,f,i,e⟩=>⟨(x,y)::ps,H3,f,.cons ⟨r1,r2⟩ i,e⟩
def dX:L9 (Dz×Dz)->L9 (Dz×Dz)->R (L9 (Dz×Dz))
 | cf,[]=>.ok cf
 | cf,(k,v)::t=>if a7 k (cf.map (·.1))=true/\cf.length<=16777216 then dX (putM cf k v) t else .bad
def aK9(K:Frag)(F:Hp)(p:V×V)(d:Dz×Dz):Prop:=DatV K F p.1 d.1/\DatV K F p.2 d.2
theorem aIE{Z:L2.St}{F:Hp}(G:X.A.units+64 < cLine)(ce:L9 (Dz×Dz)):∀ (ps:L9 (V×V)) (vs:L9 (V9×V9)) (cf res:L9 (Dz×Dz)) (es:L9 Ent) (ep:Nat) (H:Hp) (s:S9) (Q:S9->Prop),
  Inv X a0 Z H s->aD F H->F p=none->H p=some (dA X.w p es ep)->MapRel X.K F es cf->Paired (aK9 X.K F) ps ce->Paired aS1 ps vs->dX cf ce=.ok res->
  (∀ es' ep' s',Inv X a0 Z (upd H p (dA X.w p es' ep')) s'->MapRel X.K F es' res->Q s')->wpAny (model X.prog X.w) X.A (storeAll p vs) (λ_ s=>Q s) X.xe s:=by
 induction ce with
 | nil=>
  intro ps vs cf res es ep H s Q I b g h m d r e q
  cases d
  cases r
  cases e
  have c:storeAll p []=pure PUnit.unit:=by unfold storeAll;rw[FR]
  rw[c]
  refine AH (q es ep s ?_ m)
  have:upd H p (dA X.w p es ep)=H:=by
   funext x
   by_cases z:x=p
   .subst z;rw[aN,h]
   .rw[aF z]
  simp_all
 | cons kv t ih=>
  obtain⟨k,v⟩:=kv
  intro ps vs cf res es ep H s Q I b g h m d r e q
  cases d with
  | @cons x _ ps _ d ds=>
   cases r with
   | @cons _ u _ vs r rs=>
    unfold dX at e
    split at e
    .rename_i c
     have D:DicAt X H p es k x.1:=⟨⟨ep,h⟩,λe J=>(nM m.k1 m.k2 e J).same b,by rw[m.k1];exact m.nd,d.1.same b,by rw[m.k1];exact c.1⟩
     have n:es.length<=sizeLine:=by
      have:es.length=cf.length:=by simpa using congrArg length m.k1
      rw[this,cO];exact c.2
     have j:storeAll p (u::vs)=(do dictSet p u.1 u.2;storeAll p vs):=by
      unfold storeAll
      simp_all
     rw[j]
     refine AB (aO8 G D I r.1 r.2 n λl s' y=>?_)
     have B:=m.put d.1 d.2
     have f:aD F (upd H p (dA X.w p (mQ es k x.1 x.2) l)):=λa o z=>by rw[aF (aV z g)];exact b a o z
     refine ih ps vs _ res _ _ _ s' Q y f g aN B ds rs e λes' ep' E i C=>?_
     rw[aC4]at i
     ext
    .cases e
def aM8(X:Cx)(tp:TP):TE:=λZ H Q=>∀ p,H p=none->tp Z (upd H p (dA X.w p [] 0)) λps H2=>∃ (F:Hp) (ce res:L9 (Dz×Dz)),aD F H2/\F p=none/\H2 p=some (dA X.w p [] 0)/\Paired (aK9 X.K F) ps ce/\dX [] ce=.ok res /\
 ∀ es' ep',MapRel X.K F es' res->Q (.ref p) (upd H2 p (dA X.w p es' ep'))
theorem aPA{b:L9 (O9 E2)}{c:L9 E2}{k:TP}(C:X.A.units+64 < cLine)(h:PPr X b c k)(h1:(b.all λx=>x.isSome)=true:=by rfl)(h2:b.length=c.length:=by rfl)(h3:b≠[]:=by exact λz=>nomatch z)(h4:b.length<=15:=by decide):PE X (.Dict b c pos) (aM8 X k):=by
 intro a0 s Z H Q I q
 have u:=I.laid (a:=s.heap.objs.size) (o:=dA X.w s.heap.objs.size [] 0) (t':=s.toks) (λ_ _ q=>AE {cls:=.type "dict",data:=.dict #[]} q) (AQ _)
  (j2 (FK.mpr (BL (BD I.big))) ⟨_,#[],A0 _ rfl,⟨rfl,rfl,rfl⟩,rfl,.nil⟩)
 have t:=q _ (I.hok.fresh (AQ _))
 refine wpAny_Dict_any h1 h2 h3 h4 (thn (h pos a0 _ Z _ _ u t) λvs B j=>?_)
 obtain⟨ps,H2,v,r,F,ce,g,y,l,p,d,e,z⟩:=j
 exact aIE C ce ps vs [] g [] 0 H2 B _ v y l p ⟨rfl,.nil,.nil,D8⟩ d r e λf i s' n m=>⟨.ref s.heap.objs.size,_,n,rfl,z f i m⟩
def aS4(c:Ct)(E:XK)(f:Sg->R (L9 (Dz×Dz))):TP:=λZ H Q=>∃ Y F,Ab c Y Z F H/\Rk c E F H (f Y) λce=>∀ ps F' H',Ext F H F' H'->Paired (aK9 c.K F') ps ce->Q ps H'
abbrev PPf(X:Cx)(c:Ct)(E:XK)(keys:L9 (O9 E2))(vals:L9 E2)(f:Sg->R (L9 (Dz×Dz))):Prop:=PPr X keys vals (aS4 c E f)
theorem PPr.imp{X:Cx}{a:L9 (O9 E2)}{t t':TP}(h:PPr X a vs t)(i:∀ Z H Q,t' Z H Q->t Z H Q):PPr X a vs t':=λpos a0 s Z H Q I q=>h pos a0 s Z H Q I (i Z H Q q)
noncomputable def uG:Sg->R (L9 (Dz×Dz)):=λ_=>.ok []
def lZ(f g:Sg->R Dz)(r:Sg->R (L9 (Dz×Dz))):Sg->R (L9 (Dz×Dz)):=λY=>(f Y).bind λx=>(g Y).bind λy=>(r Y).bind λt=>.ok ((x,y)::t)
theorem aPB:PPf X c E [] [] uG:=PPr.imp aS3 λZ H Q ⟨Y,F,ab,k⟩=>Rk.ok k [] F H (Ext.refl ab.fh) .nil
theorem aLA{k v:E2}{e:L9 (O9 E2)}{f g:Sg->R Dz}{r:Sg->R (L9 (Dz×Dz))}(h:PD X c E k f)(m:PD X c E v g)(hr:PPf X c E e vs r):PPf X c E (some k::e) (v::vs) (lZ f g r):=PPr.imp (aO9 h m hr) λZ H Q d=>by
 obtain⟨Y,F,ab,k⟩:=d
 refine⟨Y,F,ab,(Rk.bind k).imp λx _ q v l H1 s1 r1=>?_⟩
 refine⟨Y,l,ab.ext s1,((Rk.bind q).ext s1).imp λy _ q u n H2 a r2=>?_⟩
 refine⟨Y,n,ab.ext (s1.trans a),((Rk.bind q).ext (s1.trans a)).imp λt _ q ps j H3 b i=>?_⟩
 exact Rk.ok q _ j H3 ((s1.trans a).trans b) (.cons ⟨DatV.same (a.trans b).ff r1,DatV.same b.ff r2⟩ i)
def nN(i:Nat)(f:Sg->R (L9 (Dz×Dz))):Sg->R Fw:=λY=>(f Y).bind λce=>(dX [] ce).bind λres=>.ok (.nx (Y.set i (some (.m res))))
theorem zD:∀ (ce cf:L9 (Dz×Dz)) (x:Er),dX cf ce≠.ex x
 | [],cf,x,h=>by cases h
 | (k,v)::t,cf,x,h=>by
  unfold dX at h
  split at h
  · exact zD t _ x h
  · cases h
theorem aPC{f:Sg->R (L9 (Dz×Dz))}(t:X.K=c.K)(hW:X.w=c.w)(h:PS X st (kQ (aM8 X (aS4 c E f)) (kB i))):PSf X c E st (nN i f):=PS.imp h λD Z H ⟨Y,F,ab,k⟩=>λp d=>by
 have e1:=Ext.own (F:=F) (o:=dA X.w p [] 0) ab.fh d
 refine⟨Y,F,ab.ext e1,((Rk.bind k).ext e1).imp λce _ q ps g H2 b r2=>?_⟩
 have r:g p=none:=b.stay (aU ab.fh d) aN (λ_ z=>aA2 z)
 have h2:H2 p=some (dA X.w p [] 0):=b.hh _ _ aN
 cases e:dX [] ce with
 | bad=>rw[e]at q;exact q.elim
 | ex x=>exact absurd e (zD _ _ _)
 | ok res=>
  rw[e]at q
  refine⟨g,ce,res,b.fh,r,h2,by rw[t];exact r2,e,λj l m=>?_⟩
  have s:Ext F H g (upd H2 p (dA X.w p j l)):=by
   refine⟨λa o z=>?_,b.ff,λa o z=>?_,λa z n=>?_⟩
   .have u:a≠p:=aV z d
    rw[aF u]
    exact b.hh a o (by rw[aF u];exact z)
   .rw[aF (aV z r)];exact b.fh a o z
   .have:=b.nw a z n
    by_cases w:a=p
    · simp_all
    · unfold nJ at this; rw [aF w]at this; exact this
  rw[hW]at s ⊢
  rw[t]at m
  exact Rk.ok q _ g _ b.ff (ab.setM s d aN r m)
end
end Fl
variable{p:Pos}
namespace L2
def aS5(X:Cx)(T:String)(r:V->L9 V->Hp->VK->Prop)(to:TE)(t:TA):TE:=λZ H Q=>to Z H λx H1=>(∀ (a0:L9 (Az×Obj)) (s:S9) (v:V9),Inv X a0 Z H1 s->aP x v->s.TypeIs v T/\∀ a,v=.ref a->∃ ob,s.heap.get? a=some ob/\ob.dict=none)/\t Z H1 λxs H2=>r x xs H2 Q
theorem aIF{X:Cx}{o:E2}{to:TE}{t:TA}{apos cpos:Pos}{T id:String}{r:V->L9 V->Hp->VK->Prop}(p:PlainAttrs T)(slot:Slot T name id)(b:typeOf (.builtin id)=pure (.type "method_descriptor"))(g:MtR X id r)(q:PE X o to)(i:PA X (e::es) t)
  (a:attributeBase o name X.env (eval o X.env)=eval o X.env:=by rfl)
  (hfew:((backTo cpos (starEach (e::es) X.env)).all (λx=>!x.1) && (backToKw cpos (keywordEach [] X.env)).all (λx=>x.1.isSome)
   && decide ((e::es).length+([]:L9 Keyword).length+(if ([]:L9 Keyword).isEmpty then 0 else 1) < 30))=true:=by rfl)
  (hline:(apos.endLine == cpos.line)=true:=by rfl) (hs:starEach (e::es) X.env=(false,eval e X.env)::starEach es X.env:=by rfl) (hplain:(backTo cpos (starEach es X.env)).any (·.1)=false:=by rfl) :
  PE X (.Call (.Attribute o name apos) (e::es) [] cpos) (aS5 X T r to t):=by
 intro a0 s Z H Q I h
 refine HE a hfew hline rfl (thn (q a0 s Z H _ I h) λv s1 c=>?_)
 obtain⟨x,H1,f,r1,m,k⟩:=c
 obtain⟨h1,h2⟩:=m a0 s1 v f r1
 refine⟨T,id,p,slot,b,h1,h2,?_⟩
 have d:=i cpos a0 s1 Z H1 _ f k
 rw[hs]at d ⊢
 refine EZ (by show(false || (backTo cpos (starEach es X.env)).any (·.1))=false;rw[hplain]<;>rfl) (Calls.evalArgs_plain ?_)
 exact thn d λus n ⟨vs,H2,l,r2,j⟩=>g a0 n Z H2 x vs v us Q l r1 r2 j
end L2
namespace Fl
end Fl
namespace L2
variable{Z:St}{H:Hp}
def x6(X:Cx)(Z0:St)(E:XK)(ev:V9)(s':S9):Prop:=∃ e C od H',ev=.ref e/\Inv X [] Z0 H' s'/\FlyAt X H' s'.heap e C od false/\E (.ref C) (some e) H'
abbrev Cx.flyS(X:Cx)(Z0:St)(E:XK):Cx:=X.wish (x6 X Z0 E)
section
variable{X:Cx}
theorem aVI{E:XK}(I:Inv (X.flyS Z E) a0 Z H s)(h:CXe X.prog X.w X.stack H s E ev s'):x6 X Z E ev s':=by
 obtain⟨e,C,od,H',rfl,os,a,un,f,m,⟨vs,T,i,g,n⟩,q⟩:=h
 have d:Inv X a0 Z H s:=I.unwish
 have k:Inv X [] Z H s:=d.pins_of λp c=>absurd c (by simp)
 have j:Inv X [] Z H' s':=k.call' os un f a (λb r=>absurd r (by simp))
 refine⟨e,C,od,H',rfl,j,⟨m,vs,T,i,g,λt e1=>?_,λz=>nomatch z⟩,q⟩
 obtain⟨o,l⟩:=n t e1
 refine⟨o,AV d.sz l,λp c z=>?_⟩
 have:=AT (d.pin p (CP _ c)).1
 ext
theorem aPD{CX:CXT}{fd:FuncData}{sp:Sp}{E:XK}{Q:VK}{vs:L9 V}{W:V9->S9->Prop}(F:FnOk X.prog X.w X.K X.mg X.base CX k f fd ps sp)(hr:Room k X.A)(hb:jK X.K fd ps [])
  (hx:∀ e s',CX X.stack H s E e s'->W e s') (I:Inv X a0 Z H s) (r:aT vs us) (h:sp (vs++[]) H Q E):wpAny (model X.prog X.w) X.A (call (.ref f) us) (EP X a0 Z Q) W s:=by
 have r2:aT (vs++[]) (us++[]):=r.append .nil
 have b:(us++[]).length=ps.length:=by rw[<-r2.length];exact F.len _ _ _ _ h
 refine GJ (EM (F.run X.A X.stack s H ⟨us,[]⟩ (us++[]) (vs++[]) Q E hr I.env0 (hb s us I.kIn b) r2 h) λr s' a=>?_)
 cases r with
 | error e=>exact hx e s' a
 | ok fl=>
  cases fl with
  | ret u=>exact I.after a
  | next=>exact False.elim a
  | brk=>exact False.elim a
  | cont=>exact False.elim a
def PCl(X:Cx)(Z:St)(E:XK)(e:E2)(t:TE):Prop:=∀ (a0:L9 (Az×Obj)) (s:S9) (H:Hp) (Q:VK),Inv (X.flyS Z E) a0 Z H s->t Z H Q->wpAny (model X.prog X.w) X.A (eval e X.env) (EP (X.flyS Z E) a0 Z Q) (x6 X Z E) s
theorem aS6{sp:Sp}{E:XK}{t:TA}{pos:Pos}(C:Calls X.prog X.w X.K X.mg X.base (CXe X.prog X.w) k x ps sp)(hr:Room k X.A)(i:Gl X x)(d:PA (X.flyS Z E) (e::es) t)(a:(x == ("__debug__":Str))=false:=by decide)
  (he:starEach (e::es) X.env=(false,eval e X.env)::starEach es X.env:=by rfl) (hpl:(backTo pos (starEach es X.env)).any (·.1)=false:=by rfl):PCl X Z E (.Call (.Name x p) (e::es) [] pos) (sD sp [] E t):=by
 obtain⟨f,fd,F,b,m,g⟩:=C
 intro a0 s H Q I h
 refine CN (mB (X:=X.flyS Z E) I i m ?_ a)
 refine DX (h₀:=X.base) I.ok.mod.kin g (thn (d pos a0 s Z H _ I h) λus s1 ⟨vs,H1,c,r,q⟩=>⟨c.kIn,?_⟩) he hpl
 exact aPD (X:=X.flyS Z E) F hr b (λe s' z=>aVI c z) c r q
theorem aLB{t:TE}{E:XK}{pos a:Pos}{D:iF}(k:PCl (X.pnw (X.pn++a0)) Z E e t)(hN:X.N.Nodup)(g:X.N[j]? = some y)(hx:Loc X.env.scope y)(I:Inv X a0 Z H s)(h:t Z H λv H1=>D.nx (Z.set j (some v)) H1)(i:swapsWith e (some (.Name y a)) pos.line X.env=pure false:=by rfl)(hf:X.fn y=true\/X.env.scope.names.lookup y=some .local:=by first|exact .inl rfl|exact .inr rfl) :
  wpAny (model X.prog X.w) X.A (execs [.Assign [.Name y a] e pos] X.env) (λf s1=>SP X a0 D f s1) (x6 (X.pnw (X.pn++a0)) Z E) s:=by
 have d:=I.toPn
 have c:Inv ((X.pnw (X.pn++a0)).flyS Z E) [] Z H s:=d.wish _
 refine GP (thn (Q:=λf s1=>SP ((X.pnw (X.pn++a0)).flyS Z E) [] D f s1) (wpAny_Assign_Name (thn (k [] s H _ c h) λv s1 ⟨x,H1,d,r1,l⟩=>o8 (X:=(X.pnw (X.pn++a0)).flyS Z E) d hN g hx r1 (λn m=>⟨_,H1,m,l⟩) hf) i) λf s1 q=>?_)
 have b:=SP.ofPn q
 cases f with
 | next=>exact DW b
 | ret v=>exact b
 | brk=>exact b
 | cont=>exact b
end
end L2
namespace Fl
noncomputable def putO(j:O9 Nat)(a:A)(Y:Sg):Sg:=match j with
 | none=>Y
 | some j=>Y.set j (some a)
def x8(K:Frag)(mg:Str->O9 V9)(Wc:Az)(cl:L9 Str):Prop:=∀ nm∈cl,∃ C bm,mg nm=some (.ref C)/\SX.ExcAny K C bm/\(Value.ref C::bm).contains (.ref Wc)=true
section
variable{X:Cx}{c:Ct}{E:XK}
end
section
variable{X:Cx}{c:Ct}{E:XK}{e:E2}{P:P9}{w:W9}{base:H9}
end
end Fl
variable{N Wc:Az}
namespace L2
variable{H:Hp}
theorem bI.got{w:W9}{h:H9}{o:HO}(x:bI P w H h a o):∃ u,h.get? a=some u:=by
 cases o with
 | lst xs=>obtain⟨_,_,_,_,e⟩:=x;exact⟨_,e⟩
 | tup xs=>obtain⟨_,_,_,⟨o,e,_⟩⟩:=x;exact⟨_,e⟩
 | dK ce=>obtain⟨_,_,_,_,o,_,_,e,_⟩:=x;exact⟨_,e⟩
 | dT ce=>obtain⟨_,_,_,_,o,_,_,e,_⟩:=x;exact⟨_,e⟩
 | set S n=>obtain⟨o,_,_,_,e,_⟩:=x;exact⟨_,e⟩
 | ins C dx fs=>obtain⟨_,_,_,e,_⟩:=x;exact⟨_,e⟩
 | own y=>exact x
 | xd fs=>obtain⟨_,⟨_,_,_,e,_⟩,_⟩:=x;exact⟨_,e⟩
 | rng lo hi=>obtain⟨_,_,_,e⟩:=x;exact⟨_,e⟩
 | frz ob u=>exact⟨_,x.1⟩
 | tbl ps=>obtain⟨_,e,_⟩:=x;exact⟨_,e⟩
 | cod q=>obtain⟨c,o,vs,t,e,b,_⟩:=x;cases e;exact⟨_,b⟩
 | met f y=>exact⟨_,x⟩
 | ext φ=>exact x.2.1
theorem HOk.free{w:W9}{h:H9}(x:HOk P w H h)(e:h.get? a=none):H a=none:=by
 cases q:H a with
 | none=>rfl
 | some u=>
  obtain⟨o,z⟩:=(x a u q).got
  ext
theorem Inv.laidN{X:Cx}{Z:St}{o:HO}{t':Nat}(I:Inv X a0 Z H s)(k:∀ b u,s.heap.get? b=some u->h'.get? b=some u)(f:s.heap.get? a=none)(new:bI X.prog X.w (upd H a o) h' a o) :
  Inv X a0 Z (upd H a o) {s with heap:=h',toks:=t'}:=by
 have d:H a=none:=I.hok.free f
 refine I.un ⟨λb u q _ _ _=>k b u q,λb u q _ _ _=>⟨u.slots,k b u q⟩,λb u q n _=>?_,λb u q _=>⟨u,k b u q⟩,λb xs q=>by rw[aF (aV q d)];exact q,λb u xs q=>by rw[aF (aV q d)];exact q,λb ps q=>by rw[aF (aV q d)];exact q⟩ λb u e=>?_
 .rw[aF (λz=>by rw[z,f]at q;cases q)];exact n
 .by_cases g:b=a
  .subst g;rw[aN]at e;cases e;exact new
  .rw[aF g]at e
   exact(I.hok b u e).stay (λc v _ q=>k c v q) (λc q=>by rw[aF (aV q d)];exact q) (λc xs q=>by rw[aF (aV q d)];exact q) λc xs q=>by rw[aF (aV q d)];exact q
structure ErrP(K:Frag)(mg:Str->Option V9)(x:Str)(W C:Az):Prop where
 c:SX.ExcC K W C
 m:mg x=some (.ref C)
 lk:∃ nm q N bs sn sub ab col dd k0 k1 k2 k3 k5,K.lookup C=some (excClassObj nm q C N bs (.ref W::SX.jO) true sn sub ab col dd k0 k1 k2 k3 k5 "ValueError.__new__")/\nsOkIn K N=true/\nsIn K N "__init__"=some none
 lw:∃ c0 dd cd sl,K.lookup W=some ⟨c0,dd,.cls cd,sl⟩/\nsOkIn K cd.ns=true/\nsIn K cd.ns "__init__"=some none
def x9(C:Az)(E:XK)(ta:TA):TS:=λ_ Z H=>ta Z H λvs H1=>vs.length<=1000/\∀ e,H1 e=none->E (.ref C) (some e) (upd H1 e (ExO e C none))
theorem aM9{h:H9}{n:Str}(X:K.In h)(a:nsOkIn K N=true)(b:nsIn K N n=some none):∃ m,h.Ns N m/\m n=none:=by
 have:=Heap.Ns.of_isNs (PySem.W.isNs_of_in X a)
 exact⟨_,this,PySem.W.ns_none_of X this b⟩
section
variable{X:Cx}{E:XK}{W C:Az}{x:Str}{np cpos pos:Pos}{e0:E2}{rest:L9 E2}{ta:TA}
theorem iS(O:X.calm=true)(j:ErrP X.K X.mg x W C)(R:Gl X x)(Q:PA (X.fly E) (e0::rest) ta)(B:(x == ("__debug__":Str))=false:=by decide)
  (he:starEach (e0::rest) X.env=(false,eval e0 X.env)::starEach rest X.env:=by rfl) (hpl:(backTo cpos (starEach rest X.env)).any (·.1)=false:=by rfl) :
  PS (X.fly E) (.Raise (some (.Call (.Name x np) (e0::rest) [] cpos)) none pos) (x9 C E ta):=by
 intro a0 s Z H D I h
 obtain⟨nm,q,N,bs,sn,sub,ab,col,dd,k0,k1,k2,k3,k5,lk,o,u⟩:=j.lk
 obtain⟨c0,dw,cd,sl,lw,M,l⟩:=j.lw
 have b:wpAny (model X.prog X.w) X.A (eval (.Call (.Name x np) (e0::rest) [] cpos) X.env) (λv s1=>∃ e od vs,v=.ref e/\s1.heap.get? C=some (excClassObj nm q C N bs (.ref W::SX.jO) true sn sub ab col dd k0 k1 k2 k3 k5 "ValueError.__new__") /\
   s1.heap.get? e=some {cls:=.ref C,dict:=od,data:=.fields vs}/\vs[1]? = some .none/\Fly X E (.ref e) s1) (Fly X E) s:=by
  refine CN (mB (X:=X) I.unwish R j.m ?_ B)
  refine DX (h₀:=X.base) I.ok.mod.kin j.c.kp (thn (Q cpos a0 s Z H _ I h) λus s1 ⟨vs,H1,i,r,hz,V⟩=>⟨i.kIn,?_⟩) he hpl
  have L:Inv X a0 Z H1 s1:=i.unwish
  obtain⟨J,g,d,G,os⟩:=s1
  have n:us.length<=sizeLine:=by rw[<-r.length,HB];ext
  have kin:X.K.In J:=L.kIn
  obtain⟨mN,T,y⟩:=aM9 kin o u
  obtain⟨mW,Y,k⟩:=aM9 kin M l
  refine wpAny_call_exc_subT PySem.F.excBase_ValueError (.own (kin _ _ lw) Y k .base) (kin _ _ lk) T y (λh' e a=>?_) n
  obtain⟨t,f,_,_⟩:=a.there
  have P:Inv X a0 Z (upd H1 e (ExO e C none)) ⟨h',g,d,G,os⟩:=L.laidN (t':=G) a.keeps a.new (aG8 f)
  have U:=V e (L.hok.free a.new)
  have S:Inv X [] Z (upd H1 e (ExO e C none)) ⟨h',g,d,G,os⟩:=P.pins_of λp J=>absurd J (by simp)
  exact⟨e,none,_,rfl,P.kIn _ _ lk,f,rfl,e,C,none,Z,_,rfl,S,⟨aN,_,none,f,rfl,(λt z=>nomatch z),(λz=>nomatch z)⟩,U⟩
 show wpAny (model X.prog X.w) X.A (exec (.Raise (some (.Call (.Name x np) (e0::rest) [] cpos)) none pos) X.env) _ (Fly X E) s
 rw[arm_exec_Raise]
 first
  | refine AB (DO (SX.vO (SX.aKG W) (I.ok.hd O) (AB (BO b (λv s1 h1=>AB (DO (AH h1))) λ_ _ z=>z))))
  | (simp only[evalOpt,Option.map];refine AB (DO (SX.vO (SX.aKG W) (I.ok.hd O) (AB (BO b (λv s1 h1=>AB (DO (AH h1))) λ_ _ z=>z)))))
end
def few(i:Int):Prop:=i=40\/i=60\/i=200\/i=300
theorem aPE{i:Int}(h:few i):(Str.ofString (toString i)).length<=10/\i.natAbs.log2 < 1920:=by
 rcases h with rfl|rfl|rfl|rfl<;>decide +kernel
theorem i3(x y:Str):(x++y).length=x.length+y.length:=by
 show(x.cps++y.cps).size=x.cps.size+y.cps.size
 simp
def aS7(ta:TE):TE:=λZ H Q=>ta Z H λx H1=>∃ i:Int,x=.int i/\few i/\∀ z:Str,Q (.str z) H1
theorem aIG{X:Cx}{v:E2}{ta:TE}{a b:Str}{k1 k2:Nat}{f p2 m pos:Pos}(p:PE X v ta)(x:a.length<=1000:=by decide)(hb:b.length<=1000:=by decide) :
  PE X (.JoinedStr [.Constant (.str a) k1 f,.FormattedValue v (-1) none p2,.Constant (.str b) k2 m] pos) (aS7 ta):=by
 intro a0 s Z H Q I h
 have j:sizeLine=16777216:=rfl
 have d:(Str.empty).length=0:=rfl
 refine wpAny_JoinedStr (Joins_cons (thn (aAD (X:=X) a0 s Z H (λy H1=>y=.str a/\H1=H) I ⟨rfl,rfl⟩) λu s1 c=>?_))
 obtain⟨y,H1,o,r1,e1,e2⟩:=c
 subst e1 e2
 obtain⟨r,rfl⟩:=r1
 refine⟨a,r,rfl,by rw[i3,d];ext,Joins_cons (wpAny_FormattedValue_plain (thn (p a0 s1 Z _ _ o h) λu A c=>?_))⟩
 obtain⟨y,H2,n,r2,i,e,l,q⟩:=c
 subst e
 obtain⟨z,rfl⟩:=r2
 obtain⟨f1,f2⟩:=aPE l
 refine wpAny_formatField_int f2 ⟨_,_,rfl,by rw[i3,i3,d];ext,Joins_cons (thn (aAD (X:=X) a0 _ Z H2 (λy H1=>y=.str b/\H1=H2) (n.tok _) ⟨rfl,rfl⟩) λu w c=>?_)⟩
 obtain⟨y,H3,g,k,e1,e2⟩:=c
 subst e1 e2
 obtain⟨t,rfl⟩:=k
 refine⟨b,t,rfl,by rw[i3,i3,i3,d];ext,Joins_nil ⟨by rw[i3,i3,i3,d];ext,?_⟩⟩
 exact⟨.str _,_,g.tok _,⟨_,rfl⟩,q _⟩
section
variable{X:Cx}
theorem aS8{t:L9 V9}{b:L9 Stmt}{G:Stmt}{np i pos:Pos}(T:nH X)
  (N:Gl X x) (L:X.mg x=some (.ref Wc)) (hw:SX.ExcAny X.K Wc t) (m:(x == ("__debug__":Str))=false)   {Z:St}  {D:iF} {E:XK} (I:Inv X a0 Z H s)
  (hb:wpAny (model X.prog X.w) X.A (execs body X.env) (λf s1=>SP X a0 D f s1) (x6 (X.pnw (X.pn++a0)) Z E) s)
  (Q:∀ (C e:Az) (H':Hp),(∃ od,H' e=some (ExO e C od))->E (.ref C) (some e) H'->∃ bm,SX.ExcAny X.K C bm/\(Value.ref C::bm).contains (.ref Wc)=true/\∃ ts,PSs (X.inH e) (G::b) ts/\ts D Z H') :
  wpAny (model X.prog X.w) X.A (exec (.Try body [.ExceptHandler (some (.Name x np)) none (G::b) i] [] [] pos) X.env) (SP X a0 D) X.xe s:=by
 refine wpAny_Try_except (BO hb (λf s1 k=>?_) λev s1 q=>?_)
 .cases f with
  | next=>exact DW k
  | brk=>exact k
  | cont=>exact k
  | ret u=>exact k
 .obtain ⟨e,C,od,H1,rfl,U,f2,q⟩:=q
  have n:nH (X.pnw (X.pn++a0)):=T
  refine pA (X:=X.pnw (X.pn++a0)) n U f2 λW R O=>oC (X:=X.pnw (X.pn++a0)) R O λB y l=>?_
  have g:Inv X a0 Z H1 B:=y.ofPn
  obtain⟨bm,V,j,ts,o,r⟩:=Q C e H1 ⟨od,l.tr⟩ q
  refine wpAny_handleBy_cons (codeAny_handlers_test ?_) (by intro z;cases z)
  have P:Inv (X.inH e) a0 Z H1 B:=g.inH e
  refine mB (X:=X.inH e) P N L ?_ m
  obtain⟨vs,M⟩:=aAN g.hok l.tr
  refine SX.aCW g.kIn V hw M rfl ?_
  rw[j]
  refine codeAny_handlers_suite ?_
  refine oC (X:=X.pnw (X.pn++a0)) y l λF S f5=>?_
  have p:Inv X a0 Z H1 F:=S.ofPn
  refine BO (o a0 F Z H1 D (p.inH e) r) (λf Y a=>?_) λ_ _ z=>z.elim
  cases f with
  | next=>
   obtain⟨c,d,h,a⟩:=a
   exact⟨c,d,h.ofH I.ok,a⟩
  | brk=>
   obtain⟨c,d,h,a⟩:=a
   exact⟨c,d,h.ofH I.ok,a⟩
  | cont=>
   obtain⟨c,d,h,a⟩:=a
   exact⟨c,d,h.ofH I.ok,a⟩
  | ret u=>
   obtain⟨v,c,d,h,J,a⟩:=a
   exact⟨v,c,d,h.ofH I.ok,J,a⟩
end
end L2
namespace Fl
variable{G:L9 A->R A}
instance (i:Int):Decidable (few i):=by unfold few;infer_instance
def oJ(cn:Str)(f:Sg->R (L9 Dz)):Sg->R Fw:=λY=>(f Y).bind λxs=>if xs.length<=1000 then .ex ⟨cn,[]⟩else .bad
def oK(cn:Str)(g:Sg->R Dz):Sg->R Fw:=λY=>(g Y).bind λx=>match x with
 | .int i=>if few i then .ex ⟨cn,[]⟩else .bad
 | _=>.bad
section
variable{X:Cx}{c:Ct}{E:XK}{st:Stmt}{cn:Str}{C:Az}
theorem iS{f:Sg->R (L9 Dz)}(d:c.mg cn=some (.ref C))(h:PS X st (x9 C E (tAd c E f))):PSf X c E st (oJ cn f):=PS.imp h λD Z H a=>by
 obtain⟨Y,F,ab,k⟩:=a
 refine⟨Y,F,ab,(Rk.bind k).imp λxs _ q vs i H1 s1 r1=>?_⟩
 by_cases b:xs.length<=1000
 .rw[AJ b]at q
  exact⟨by rw[r1.length];exact b,λe g=>q e C _ _ ((ab.all.trans s1).trans (Ext.new s1.fh g)) ⟨d,none,aN,.inl ⟨rfl,rfl⟩⟩⟩
 .rw[AM b]at q;exact q.elim
theorem zE{g:Sg->R Dz}(a:c.mg cn=some (.ref C))(h:PS X st (x9 C E (cN (aS7 (tV (aS c) c E g)) fY))):PSf X c E st (oK cn g):=PS.imp h λD Z H ⟨Y,F,ab,k⟩=>by
 refine⟨Y,F,ab,(Rk.bind k).imp λx d q v j H1 s1 r1=>?_⟩
 clear d
 split at q
 .rename_i i
  split at q
  .rename_i b
   obtain rfl:=aK.int_of r1
   exact⟨i,rfl,b,λz=>⟨by show 1<=1000;decide,λe f=>q e C _ _ ((ab.all.trans s1).trans (Ext.new s1.fh f)) ⟨a,none,aN,.inl ⟨rfl,rfl⟩⟩⟩⟩
  .exact q.elim
 .exact q.elim
def v6(j:O9 Nat)(n:Nat)(G:L9 A->R A)(f:Sg->R (L9 A))(cl:L9 Str)(fs:Sg->R Fw):Sg->R Fw:=λY=>match f Y with
 | .ok as=>if as.length=n then(match G as with
  | .bad=>.bad
  | .ok a=>.ok (.nx (putO j a Y))
  | .ex e=>if cl.contains e.c=true then fs Y else .bad)else .bad
 | _=>.bad
theorem try_read0{j:O9 Nat}{L:L9 V9}{b:L9 Stmt}{N:Stmt}{np l pos:Pos}{f:Sg->R (L9 A)}{cl:L9 Str}{fs:Sg->R Fw}(J:X.K=c.K)(hM:X.mg=c.mg)
  (V:nH X) (P:Gl X x) (O:X.mg x=some (.ref Wc)) (hw:SX.ExcAny X.K Wc L) (u:(x == ("__debug__":Str))=false)
  (B:x8 X.K X.mg Wc cl)
  (hb:∀ (a0:L9 (Az×Obj)) (s:S9) (Z:L2.St) (H:Hp) (D:iF) (E':XK),Inv X a0 Z H s->sD (spF c.g X.K X.mg n G) [] E' (tAv c E f) Z H (λv H1=>D.nx (match j with|none=>Z|some j=>Z.set j (some v)) H1)->wpAny (model X.prog X.w) X.A (execs body X.env) (λf s1=>SP X a0 D f s1) (x6 (X.pnw (X.pn++a0)) Z E') s)
  (hs:∀ e,kE (X.inH e) c E (N::b) fs):PSf X c E (.Try body [.ExceptHandler (some (.Name x np)) none (N::b) l] [] [] pos) (v6 j n G f cl fs):=by
 intro a0 s Z H D I h
 obtain⟨Y,F,ab,k⟩:=h
 unfold v6 at k
 cases r:f Y with
 | bad=>rw[r]at k;exact k.elim
 | ex z=>rw[r]at k;exact k.elim
 | ok as=>
  rw[r]at k
  simp only at k
  by_cases t:as.length=n
  .rw[AJ t]at k
   let E':XK:=λQ U H'=>∃ C a e d,Q=.ref C/\U=some a/\Ext F H d H'/\kD c.K c.mg d e a C/\G as=.ex e
   refine aS8 (E:=E') V P O hw u I (hb a0 s Z H D E' I ?_) ?_
   .refine ⟨Y,F,ab,?_⟩
    rw[r]
    intro vs T H1 s1 r1
    refine⟨T,as,λa o z=>s1.ff a o (ab.f0 a o (ab.t0 a o z)),s1.fh,by rw[C0,J,hM];exact r1,t,?_⟩
    cases p:G as with
    | bad=>rw[p]at k;exact k
    | ok a=>
     rw[p]at k
     intro v d H' s' i
     rw[J,hM]at i
     have m:=(ab.ext (s1.trans s'))
     refine Rk.ok k _ d H' (s1.trans s').ff ?_
     cases j with
     | none=>exact m
     | some j=>exact m.setA i
    | ex e=>
     intro a C d H' s' i
     rw[J,hM]at i
     exact⟨C,a,e,d,rfl,rfl,s1.trans s',i,p⟩
   .rintro C e H' ⟨od,_⟩ ⟨C',a,er,d,h1,h2,s',i,p⟩
    cases h1
    cases h2
    rw[p]at k
    simp only at k
    by_cases y:cl.contains er.c=true
    .rw[AJ y]at k
     obtain⟨C2,bm,M,ca,S⟩:=B er.c (by simpa using y)
     obtain⟨W,_⟩:=id i
     rw[hM,W]at M
     cases M
     exact⟨bm,ca,S,_,hs e,Y,d,ab.ext s',(k.ext s').imp λw _ q=>iQ.same s'.ff q⟩
    .rw[AM y]at k;exact k.elim
  .rw[AM t]at k;exact k.elim
theorem aLC{j:Nat}{m:L9 V9}{a:L9 Stmt}{o:Stmt}{call:E2}{np i pos d b:Pos}{f:Sg->R (L9 A)}{cl:L9 Str}{fs:Sg->R Fw}(w:X.K=c.K)(hM:X.mg=c.mg)
  (q:nH X) (hN:X.N.Nodup) (v:X.N[j]? = some y) (u:Loc X.env.scope y) (t:Gl X x) (p:X.mg x=some (.ref Wc)) (hw:SX.ExcAny X.K Wc m) (l:x8 X.K X.mg Wc cl)
  (r:∀ pn Z E',PCl (X.pnw pn) Z E' call (sD (spF c.g X.K X.mg n G) [] E' (tAv c E f)))
  (z:∀ e,kE (X.inH e) c E (o::a) fs) (k:(x == ("__debug__":Str))=false:=by decide) (hsw:swapsWith call (some (.Name y b)) d.line X.env=pure false:=by rfl) (hf:X.fn y=true\/X.env.scope.names.lookup y=some .local:=by first|exact .inl rfl|exact .inr rfl) :
  PSf X c E (.Try [.Assign [.Name y b] call d] [.ExceptHandler (some (.Name x np)) none (o::a) i] [] [] pos) (v6 (some j) n G f cl fs):=
 try_read0 (j:=some j) w hM q t p hw k l (λa0 s Z H D E' I h=>aLB (r _ _ _) hN v u I h hsw hf) z
theorem zW{C:Az}(a:ErrP K mg x W C):x8 K mg C [x]:=λnm h=>by
 rw[AK.mp h]
 exact⟨C,_,a.m,a.c.any,by simp⟩
end
end Fl
namespace L2
noncomputable def aS9(e:DictEntry):Bool:=match e.key with
 | .str _ _=>true
 | _=>false
theorem sM{cl:V9}{d:O9 Az}{es:Array DictEntry}{ep:Nat}{sl:Array (O9 V9)}(l:K.lookup N=some ⟨cl,d,.dict es ep,sl⟩)(h:es.toList.all aS9=true):nsOkIn K N=true:=by
 unfold nsOkIn
 rw[show List.lookup N K=some ⟨cl,d,.dict es ep,sl⟩from l]
 show es.all _=true
 rw[<-Array.all_toList]
 exact h
end L2
variable{N:Nat}
namespace Fl
end Fl
namespace HT
end HT
variable{qs:L9 (Pos×Str)}
namespace Fl
variable{F:Hp}
theorem aDS{vs:L9 V}{i:Int}(h:DatVs K F vs [.int i,.str x]):vs=[.int i,.str x]:=by
 obtain⟨v,t,rfl,h1,h2⟩:=h.cons_of
 obtain⟨u,c,rfl,b,a⟩:=h2.cons_of
 obtain rfl:=h1.int_of
 obtain rfl:=b.str_of
 cases a
 rfl
def FnK(K:Frag)(H:Hp)(f:Az):Prop:=keepIn K (.ref f)=true\/∃ oc od fd sl,H f=some (FnO f ⟨oc,od,.func fd,sl⟩)
def aBK(X:Cx)(i:Nat)(E:XK)(t:TA):TE:=λZ H Q=>∃ f,Z[i]? = some (some (.ref f))/\FnK X.K H f/\t Z H λvs H1=>FnK X.K H1 f/\∃ k fd ps sp,Room k X.A/\FnOk X.prog X.w X.K X.mg X.base (CXe X.prog X.w) k f fd ps sp/\jK X.K fd ps []/\sp vs H1 Q E
theorem uH{X:Cx}{E:XK}{pos:Pos}{t:TA}(G:PE X (.Name x p) (jA i))(hx:lK (CXe X.prog X.w) X E)(z:PA X (e::es) t)
  (B:starEach (e::es) X.env=(false,eval e X.env)::starEach es X.env:=by rfl) (hpl:(backTo pos (starEach es X.env)).any (·.1)=false:=by rfl):PE X (.Call (.Name x p) (e::es) [] pos) (aBK X i E t):=by
 intro a0 s Z H Q I h
 obtain⟨f,D,d,h⟩:=h
 refine CN (thn (G a0 s Z H (λv H'=>v=.ref f/\H'=H) I ⟨_,D,rfl,rfl⟩) λu y n=>?_)
 obtain⟨v,l,c,C,e1,e2⟩:=n
 subst e1 e2
 obtain rfl:u=Value.ref f:=C
 have g:∀ (us:L9 V9) (s1:S9),AP X a0 Z (λvs H1=>FnK X.K H1 f/\∃ k fd ps sp,Room k X.A/\FnOk X.prog X.w X.K X.mg X.base (CXe X.prog X.w) k f fd ps sp/\jK X.K fd ps []/\sp vs H1 Q E) us s1->
   (∃ H1,Inv X a0 Z H1 s1/\FnK X.K H1 f)/\wpAny (model X.prog X.w) X.A (call (.ref f) us) (EP X a0 Z Q) X.xe s1:=by
  rintro us s1 ⟨vs,H1,b,r,a,k,fd,ps,sp,hr,F,hb,q⟩
  refine⟨⟨H1,b,a⟩,aG0 (dvs:=[]) (ds:=[]) F hr hb .nil hx b r ?_⟩
  ext
 rcases d with d|⟨m,od,fd,sl,d⟩
 .refine DX (h₀:=X.base) c.ok.mod.kin d (thn (z pos a0 y Z l _ c h) λus s1 j=>?_) B hpl
  obtain⟨⟨H1,b,_⟩,q⟩:=g us s1 j
  exact⟨b.kIn,q⟩
 .refine PySem.W.callWith_F ⟨m,od,fd,sl,FnO.get c.hok d⟩ (thn (z pos a0 y Z l _ c h) λus s1 j=>?_) B hpl
  obtain⟨⟨H1,b,a⟩,q⟩:=g us s1 j
  refine⟨?_,q⟩
  rcases a with a|⟨m,od,fd,sl,a⟩
  .cases e:X.K.lookup f with
   | none=>unfold keepIn at a;dsimp only at a;rw[e]at a;cases a
   | some o=>
    have e1:=b.kIn f o e
    exfalso
    have e2:=c.kIn f o e
    obtain⟨o',h1,h2⟩:∃ o',l f=some (FnO f o')/\True:=⟨_,d,trivial⟩
    have J:=c.bs f o (c.ok.mod.kin f o e)
    ext
  .exact ⟨m,od,fd,sl,FnO.get b.hok a⟩
def yA(m i:Nat)(f:Sg->R (L9 Dz)):Sg->R Dz:=λY=>match Y[i]? with
 | some (some (.g k n G))=>(f Y).bind λds=>if k<=m/\ds.length=n then G ds else .bad
 | _=>.bad
theorem aIH{X:Cx}{c:Ct}{E:XK}{m:Nat}{T:Hp}{f:Sg->R (L9 Dz)}(hG:c.g=gOf X.prog X.w X.K X.mg X.base T)(y:X.K=c.K)(hM:X.mg=c.mg)(hr:Room m X.A)(h:PE X e (aBK X i E (tAd c E f))):PD X c E e (yA m i f):=PE.imp h λZ H Q ⟨Y,F,ab,k⟩=>by
 unfold yA at k
 split at k
 .rename_i p n G hi
  obtain⟨v,O,I⟩:=ab.slot i _ hi
  obtain⟨s,N,rfl,s1,B⟩:=(show AF c.g c.K c.mg F (.g p n G) v from I)
  rw[hG]at B
  obtain⟨fd,ps,D,S,U,J⟩:=(show Beh X.prog X.w X.K X.mg X.base T s N p n G from B)
  have j:∀ b H',aD F b->aD b H'->FnK X.K H' s:=λb H' M L=>J.imp id λ⟨P,od,fd,sl,e⟩=>⟨P,od,fd,sl,L _ _ (M _ _ (s1 _ _ e))⟩
  refine⟨s,O,j F H (a9 F) ab.fh,Y,F,ab,(Rk.bind k).imp λds _ q vs b H' e1 r=>?_⟩
  refine⟨j b H' e1.ff e1.fh,?_⟩
  by_cases l:p<=m/\ds.length=n
  .rw[AJ l]at q
   refine⟨p,fd,ps,_,hr.mono l.1,U,S,b,ds,λa o z=>e1.ff a o (s1 a o z),λa o z=>e1.ff a o (ab.f0 a o (ab.t0 a o (by rw[hG];exact z))),e1.fh,by rw[y];exact r,l.2,?_⟩
   cases u:G ds with
   | bad=>rw[u]at q;exact q
   | ok d=>rw[u]at q;exact λv t H2 e2 r2=>Rk.ok q v t H2 (e1.trans e2) (by rw[y]at r2;exact r2)
   | ex x=>rw[u]at q;exact λa C t H2 e2 r2=>q a C t H2 ((ab.all.trans e1).trans e2) (by rw[y,hM]at r2;exact r2)
  .rw[AM l]at q;exact q.elim
 .exact k.elim
noncomputable def sN:Dz->Bool
 | .none=>true
 | .bool _=>true
 | .int _=>true
 | .str _=>true
 | _=>false
theorem aLD{a:Hp}{v:V}{d:Dz}(h:sN d=true)(r:DatV K F v d):DatV K a v d:=by
 cases d with
 | none=>cases r;exact .non
 | bool b=>cases r;exact .bl b
 | int i=>cases r;exact .int i
 | str x=>cases r;exact .str x
 | list xs=>cases h
 | tuple xs=>cases h
 | dict xs=>cases h
def pO(K:Frag)(F H:Hp):L9 V->L9 Dz->Prop
 | [],[]=>True
 | v::vs,d::ds=>aK K F H v d/\pO K F H vs ds
 | _,_=>False
theorem pO.ext{H F' H':Hp}(e:Ext F H F' H'):∀ {vs:L9 V} {ds:L9 Dz},pO K F H vs ds->pO K F' H' vs ds
 | [],[],_=>trivial
 | v::vs,d::ds,h=>⟨aK.ext e h.1,pO.ext e h.2⟩
def tAr(c:Ct)(E:XK)(f:Sg->R (L9 Dz)):TA:=λZ H Q=>∃ Y F,Ab c Y Z F H/\Rk c E F H (f Y) λds=>∀ vs F' H',Ext F H F' H'->pO c.K F' H' vs ds->Q vs H'
theorem aPF{X:Cx}{c:Ct}{E:XK}:PA X [] (tAr c E aC):=PA.imp bR λZ H Q ⟨Y,F,ab,k⟩=>Rk.ok k [] F H (Ext.refl ab.fh) trivial
theorem aBL{X:Cx}{c:Ct}{E:XK}{f:Sg->R Dz}{g:Sg->R (L9 Dz)}(h:PR X c E e f)(h2:PA X es (tAr c E g))(j:starEach (e::es) X.env=(false,eval e X.env)::starEach es X.env:=by rfl):PA X (e::es) (tAr c E (aA f g)):=PA.imp (aZ h h2 j) λZ H Q a=>by
 obtain⟨Y,F,ab,k⟩:=a
 refine⟨Y,F,ab,(Rk.bind k).imp λx _ q v d H1 s1 r1=>⟨Y,d,ab.ext s1,((Rk.bind q).ext s1).imp λxs _ q vs i H2 b r2=>?_⟩⟩
 exact Rk.ok q (v::vs) i H2 (s1.trans b) ⟨aK.ext b r1,r2⟩
theorem aTA{H:Hp}(s:aD F H):∀ {vs:L9 V} {ds:L9 Dz},pO K F H vs ds->∃ FL,aD F FL/\aD FL H/\DatVs K FL vs ds
 | [],[],_=>⟨F,a9 F,s,.nil⟩
 | v::vs,d::ds,h=>by
  obtain⟨FL,a,b,r⟩:=aTA s h.2
  rcases h.1 with q|⟨p,us,xs,rfl,rfl,h1,h2⟩
  .exact ⟨FL,a,b,.cons (q.same a) r⟩
  .refine ⟨λx=>if x=p then some (.lst us)else FL x,λx o z=>?_,λx o z=>?_,?_⟩
   .by_cases c:x=p
    .subst c
     have:=s x o z
     ext
    .exact (AM c).trans (a x o z)
   .by_cases c:x=p
    .grind
    .exact b x o ((AM c).symm.trans z)
   .have e:aD FL (λx=>if x=p then some (.lst us)else FL x):=λx o z=>by
     by_cases c:x=p
     .subst c
      have:=b x o z
      ext
     .grind
    exact .cons (.lst (SqL.of (AJ rfl)) (h2.same λx o z=>e x o (a x o z))) (r.same e)
def z9(m i:Nat)(f:Sg->R (L9 Dz)):Sg->R Dz:=λY=>match Y[i]? with
 | some (some (.g k n G))=>(f Y).bind λds=>if k<=m/\ds.length=n then(match G ds with | .ok d=>if sN d=true then .ok d else .bad|_=>.bad)else .bad
 | _=>.bad
theorem aPG{X:Cx}{c:Ct}{E:XK}{m:Nat}{T:Hp}{f:Sg->R (L9 Dz)}(hG:c.g=gOf X.prog X.w X.K X.mg X.base T)(D:X.K=c.K)(hM:X.mg=c.mg)(hr:Room m X.A)(h:PE X e (aBK X i E (tAr c E f))):PD X c E e (z9 m i f):=PE.imp h λZ H Q ⟨Y,F,ab,k⟩=>by
 unfold z9 at k
 split at k
 .rename_i s n G hi
  obtain⟨v,hv,L⟩:=ab.slot i _ hi
  obtain⟨C,O,rfl,s1,B⟩:=(show AF c.g c.K c.mg F (.g s n G) v from L)
  rw[hG]at B
  obtain⟨fd,ps,J,S,U,M⟩:=(show Beh X.prog X.w X.K X.mg X.base T C O s n G from B)
  have l:∀ j H',aD F j->aD j H'->FnK X.K H' C:=λj H' V N=>M.imp id λ⟨P,od,fd,sl,e⟩=>⟨P,od,fd,sl,N _ _ (V _ _ (s1 _ _ e))⟩
  refine⟨C,hv,l F H (a9 F) ab.fh,Y,F,ab,(Rk.bind k).imp λds _ q vs j H' e1 r=>?_⟩
  refine⟨l j H' e1.ff e1.fh,?_⟩
  by_cases p:s<=m/\ds.length=n
  .rw[AJ p]at q
   obtain⟨I,a,b,W⟩:=aTA e1.fh r
   refine⟨s,fd,ps,_,hr.mono p.1,U,S,I,ds,λx o z=>a x o (e1.ff x o (s1 x o z)),λx o z=>a x o (e1.ff x o (ab.f0 x o (ab.t0 x o (by rw[hG];exact z)))),b,by rw[D];exact W,p.2,?_⟩
   cases y:G ds with
   | bad=>rw[y]at q;exact q
   | ok d=>
    rw[y]at q
    intro v F2 H2 e2 r2
    have t:Rk c E F H (if sN d=true then R.ok d else .bad) _:=q
    by_cases u:sN d=true
    .rw[AJ u]at t
     refine Rk.ok t v j H2 (e1.trans ⟨e2.hh,a9 j,λx o z=>e2.hh x o (e1.fh x o z),λx z n=>absurd z n⟩) (by rw[D]at r2;exact aLD u r2)
    .rw[AM u]at t;exact t.elim
   | ex x=>rw[y]at q;exact q.elim
  .rw[AM p]at q;exact q.elim
 .exact k.elim
theorem aPH{xs:L9 V}(b:Celd cs F)(h:SqL K F a xs):SqL K (hid cs F) a xs:=by
 rcases h with (h|⟨o,h⟩)|h
 · exact .inl (.inl (by rw [bB (b.out h λ_ v z => nomatch z)]; exact h))
 · exact .inl (.inr ⟨o, by rw [bB (b.out h λ_ v z => by unfold dI at z; cases z)]; exact h⟩)
 · exact .inr h
theorem aPI{xs:L9 V}(b:Celd cs F)(h:SqT K F a xs):SqT K (hid cs F) a xs:=by
 rcases h with (h|⟨o,h⟩)|h
 · exact .inl (.inl (by rw [bB (b.out h λ_ v z => nomatch z)]; exact h))
 · exact .inl (.inr ⟨o, by rw [bB (b.out h λ_ v z => by unfold dI at z; cases z)]; exact h⟩)
 · exact .inr h
mutual
theorem aDT(hc:Celd cs F):∀ {v:V} {d:Dz},DatV K F v d->DatV K (hid cs F) v d
 | _,_,.non=>.non
 | _,_,.bl b=>.bl b
 | _,_,.int i=>.int i
 | _,_,.str x=>.str x
 | _,_,.lst h r=>.lst (aPH hc h) (mV hc r)
 | _,_,.tup h r=>.tup (aPI hc h) (mV hc r)
 | _,_,.pl h=>.pl (by rw[bB (hc.out h λ_ v z=>nomatch z)];exact h)
theorem mV(hc:Celd cs F):∀ {vs:L9 V} {ds:L9 Dz},DatVs K F vs ds->DatVs K (hid cs F) vs ds
 | _,_,.nil=>.nil
 | _,_,.cons h r=>.cons (aDT hc h) (mV hc r)
end
theorem aPJ{e C b:Az}{od:O9 Az}{o:Obj}{v:V}(h:ExO e C od=dI b o v):False:=by unfold ExO dI at h;cases h
theorem aLE{K:Frag}{mg:Str->O9 V9}{F:Hp}{e:Er}{a C:Az}{cs:L9 Az}(b:Celd cs F)(h:kD K mg F e a C):kD K mg (hid cs F) e a C/\a∉cs:=by
 obtain⟨m,od,h1,h2⟩:=h
 have c:=b.out h1 λ_ v z=>aPJ z
 refine⟨⟨m,od,by rw[bB c];exact h1,h2.imp id ?_⟩,c⟩
 rintro ⟨d,fvs,e1,e2,e3,e4⟩
 exact⟨d,fvs,e1,by rw[bB (b.out e2 λ_ v z=>nomatch z)];exact e2,e3,mV b e4⟩
theorem aBM{a:Cv}{H c:Hp}(s:aD (pub a H) c):Celd (cJ a) c:=λb d=>by
 obtain⟨p,e⟩:=hZ.mp d
 exact⟨p.1,p.2,s _ _ (qU e)⟩
theorem aLF{a:Cv}{F H:Hp}(s:aD F H):aD (pub a F) (pub a H):=λb o e=>by
 by_cases c:b∈cJ a
 .obtain ⟨p,q⟩:=hZ.mp c
  rw[qU q]at e ⊢;exact e
 .rw[dJ c]at e ⊢;exact s b o e
theorem zF{c:Cv}{F H h H2:Hp}(g:∀ b∈cJ c,H b=none)(s:aD F H)(e:Ext (pub c F) (pub c H) h H2):Ext F H (hid (cJ c) h) (hid (cJ c) H2):=by
 have i:∀ b∈cJ c,F b=none:=λb a=>aU s (g b a)
 have d:∀ b o,H b=some o->b∉cJ c:=λb o q z=>by rw[g b z]at q;cases q
 have f:∀ b o,F b=some o->b∉cJ c:=λb o q z=>by rw[i b z]at q;cases q
 refine⟨λb o q=>?_,λb o q=>?_,λb o q=>?_,λb q n=>?_⟩
 .have a:=d b o q
  rw[bB a];exact e.hh b o (by rw[dJ a];exact q)
 .have a:=f b o q
  rw[bB a];exact e.ff b o (by rw[dJ a];exact q)
 .obtain ⟨j,a⟩:=pC q
  rw[bB a];exact e.fh b o j
 .by_cases a:b∈cJ c
  .exact absurd (oE a) n
  .rw[bB a]at n
   have:=e.nw b (by rw[dJ a];exact q) n
   unfold nJ at this ⊢
   rw[dJ a]at this;exact this
noncomputable def dOf:R A->R Dz
 | .ok (.d x)=>.ok x
 | .ok _=>.bad
 | .ex e=>.ex e
 | .bad=>.bad
def CloOk(P:P9)(w:W9)(K:Frag)(mg:Str->O9 V9)(base:H9)(T:Hp)(S:ClSt)(fr:L9 Str)(k n:Nat)(Gm:L9 A->L9 Dz->R Dz):Prop:=
 ∀ (F0 F1:Hp) (caps:L9 A) (cvs:L9 V) (f:Az) (cl:L9 (Str×Az)) (doc pm ct:V9) (cc:Az),aD T F0->AFs (gOf P w K mg base T) K mg F0 caps cvs->aD F0 F1->
  F1 f=some (FnO f (S.obj cl doc pm cc ct))->F1 cc=some (.cod S.qual)->CapAt F1 fr cl cvs->(∀ c∈aO fr cl,F0 c=none)->Beh P w K mg base T f F1 k n (Gm caps)
theorem aDU{cs:L9 Az}{F H d H2:Hp}(s:aD F H)(g:Celd cs F)(f:∀ c∈cs,H2 c=none)(e:Ext (hid cs F) (hid cs H) d H2):Ext F H (shw cs F d) (shw cs H H2)/\aD d (shw cs F d):=by
 have i:∀ c∈cs,d c=none:=λc h=>aU e.fh (f c h)
 refine⟨⟨λb o q=>?_,λb o q=>?_,λb o q=>?_,λb q n=>?_⟩,λb o q=>?_⟩
 .by_cases a:b∈cs
  .rw[qT a];exact q
  .rw[dH a];exact e.hh b o (by rw[bB a];exact q)
 .by_cases a:b∈cs
  .rw[qT a];exact q
  .rw[dH a];exact e.ff b o (by rw[bB a];exact q)
 .by_cases a:b∈cs
  .rw[qT a]at q ⊢;exact s b o q
  .rw[dH a]at q ⊢;exact e.fh b o q
 .by_cases a:b∈cs
  .obtain ⟨o,v,z⟩:=g b a
   ext
  .rw[dH a]at n
   have:=e.nw b (by rw[bB a];exact q) n
   unfold nJ at this ⊢
   rw[bB a]at this;exact this
 .rw[dH λz=>by rw[i b z]at q;cases q];exact q
theorem AFs.data{g:Gb}{K:Frag}{mg:Str->O9 V9}{F:Hp}:∀ {vs:L9 V} {ds:L9 Dz},DatVs K F vs ds->AFs g K mg F (ds.map .d) vs
 | _,_,.nil=>trivial
 | _,_,.cons h r=>⟨h,AFs.data r⟩
theorem AFs.append{g:Gb}{K:Frag}{mg:Str->O9 V9}{F:Hp}:∀ {as bs:L9 A} {vs us:L9 V},AFs g K mg F as vs->AFs g K mg F bs us->AFs g K mg F (as++bs) (vs++us)
 | [],_,[],_,_,h=>h
 | a::as,bs,v::vs,us,h,h2=>⟨h.1,AFs.append h.2 h2⟩
section
variable{P:P9}{w:W9}{K:Frag}{mg:Str->O9 V9}{base:H9}{T:Hp}{S:ClSt}{N ps fr:L9 Str}{k:Nat}
theorem zG{f j F H:Hp}{a:L9 A}{cvs vs:L9 V}(h:aD T f)(e:AFs (gOf P w K mg base T) K mg f a cvs)(i:aD f j)(g:aD j F)(k:aD F H)(C:CapAt j fr cl cvs)(l:∀ c∈aO fr cl,f c=none)(p:DatVs K F vs ds) :
  Celd (aO fr cl) F/\aD T (hid (aO fr cl) F)/\aD (hid (aO fr cl) F) (hid (aO fr cl) H)/\AFs (gOf P w K mg base T) K mg (hid (aO fr cl) F) (ds.map .d++a) (vs++cvs):=by
 have m:Celd (aO fr cl) F:=(C.same g).celd
 have n:aD f (hid (aO fr cl) F):=λb o q=>by
  rw[bB λz=>by rw[l b z]at q;cases q];exact g b o (i b o q)
 refine⟨m,λb o q=>n b o (h b o q),λb o q=>?_,(AFs.data (mV m p)).append (e.same n)⟩
 obtain⟨r,s⟩:=pC q
 rw[bB s];exact k b o r
def cI(n:Nat)(fb:Sg->R Fw):L9 A->L9 Dz->R Dz:=λcaps ds=>dOf (fnF n fb (ds.map .d++caps))
theorem aDV{F H:Hp}{Q:VK}{E:XK}{r:R A}(b:aD F H)(j:Celd cs F)(h:match dOf r with
 | .bad=>False
 | .ok d=>∀ v F' H',Ext F H F' H'->DatV K F' v d->Q v H'
 | .ex e=>∀ a C F' H',Ext F H F' H'->kD K mg F' e a C->E (.ref C) (some a) H'):match (generalizing:=false) r with
 | .bad=>False
 | .ok a=>∀ v F' H',Ext (hid cs F) (hid cs H) F' H'->AF (gOf P w K mg base T) K mg F' a v->(∀ a∈cs,H' a=none)->Q v (shw cs H H')
 | .ex e=>∀ a C F' H',Ext (hid cs F) (hid cs H) F' H'->kD K mg F' e a C->(∀ a∈cs,H' a=none)->E (.ref C) (some a) (shw cs H H'):=by
 cases r with
 | bad=>exact h
 | ok a=>
  cases a with
  | d x=>
   intro v F' H' e q c
   obtain⟨e2,i⟩:=aDU b j c e
   exact h v _ _ e2 (DatV.same i q)
  | l xs=>exact False.elim h
  | m xs=>exact False.elim h
  | x e=>exact False.elim h
  | g k n f=>exact False.elim h
  | k S=>exact False.elim h
  | f S=>exact False.elim h
  | o S=>exact False.elim h
  | w S=>exact False.elim h
 | ex x=>
  intro a C F' H' e q c
  obtain⟨e2,i⟩:=aDU b j c e
  exact h a C _ _ e2 (q.same i)
theorem wA{body:L9 Stmt}{fb:Sg->R Fw}(hb:S.body=.stmts body)(Sc:CloScope N ps fr S.scope)(m:∀ (cl:L9 (Str×Az)) (doc pm:V9) (cc:Az) (ct:V9) (us:L9 V9),us.length=ps.length->bindArgs (S.fd cl doc pm cc ct) ⟨us,[]⟩=pure (ps.zip us))
  (g:∀ (f cc:Az) (cl:L9 (Str×Az)) (A:U9) (outer:L9 Env) (s:S9) (H F:Hp) (E E':XK),Room k (A.deeper (bS S.qual S.scope s.heap.objs.size f (.ref cc) cl))->
   kE ((iY (CXe P w) P w K mg base N fr S.qual S.scope f (.ref cc) cl A outer s H E').fly E) ⟨K,mg,w,F,hid (aO fr cl) H,gOf P w K mg base T,(bS S.qual S.scope s.heap.objs.size f (.ref cc) cl).cells,λ_=>none⟩ E body fb) :
  CloOk P w K mg base T S fr (k+1) ps.length (cI N.length fb):=by
 intro Y W i cvs f cl doc pm ct cc t l y D B C q
 refine⟨S.fd cl doc pm cc ct,ps,rfl,.all (m cl doc pm cc ct),⟨λvs H Q E h=>?_,λA outer s H args us vs Q E hr e0 x J u=>?_⟩,.inr ⟨_,_,_,_,D⟩⟩
 .obtain ⟨F,ds,_,_,_,h1,h2,_⟩:=h
  rw[h1.length,h2]
 .obtain ⟨F,ds,h1,h2,j,G,L,V⟩:=u
  obtain⟨U,O,I,M⟩:=zG t l y h1 j C q G
  refine aHG hb (j _ _ (h1 _ _ D)) (j _ _ (h1 _ _ B)) Sc (C.same λb o z=>j b o (h1 b o z)) hr e0 x J (by rw[G.length,L]) λp=>⟨_,g f cc cl A outer s H (hid (aO fr cl) F) _ E p,?_⟩
  have X:=aDV (P:=P) (w:=w) (base:=base) (T:=T) (r:=fnF N.length fb (ds.map .d++i)) j U V
  refine sK (n:=N.length) (fb:=fb) (Q:=λv H'=>(∀ a∈aO fr cl,H' a=none)->Q v (shw (aO fr cl) H H')) (E:=λc e H'=>(∀ a∈aO fr cl,H' a=none)->E c e (shw (aO fr cl) H H')) O I M ?_
  ext
theorem aII{body:E2}{fe:Sg->R Dz}(hb:S.body=.expr body)(Sc:CloScope N ps fr S.scope)(m:∀ (cl:L9 (Str×Az)) (doc pm:V9) (cc:Az) (ct:V9) (us:L9 V9),us.length=ps.length->bindArgs (S.fd cl doc pm cc ct) ⟨us,[]⟩=pure (ps.zip us))
  (g:∀ (f cc:Az) (cl:L9 (Str×Az)) (A:U9) (outer:L9 Env) (s:S9) (H F:Hp) (E E':XK),Room k (A.deeper (bS S.qual S.scope s.heap.objs.size f (.ref cc) cl))->
   PD ((iY (CXe P w) P w K mg base N fr S.qual S.scope f (.ref cc) cl A outer s H E').fly E) ⟨K,mg,w,F,hid (aO fr cl) H,gOf P w K mg base T,(bS S.qual S.scope s.heap.objs.size f (.ref cc) cl).cells,λ_=>none⟩ E body fe) :
  CloOk P w K mg base T S fr (k+1) ps.length (cI N.length (aM (vD fe))):=by
 intro Z Y c cvs f cl doc pm ct cc u l D I G C t
 refine⟨S.fd cl doc pm cc ct,ps,rfl,.all (m cl doc pm cc ct),⟨λvs H Q E h=>?_,λA outer s H args us vs Q E hr e0 B M y=>?_⟩,.inr ⟨_,_,_,_,I⟩⟩
 .obtain ⟨F,ds,_,_,_,h1,h2,_⟩:=h
  rw[h1.length,h2]
 .obtain ⟨F,ds,h1,h2,j,J,O,X⟩:=y
  obtain⟨W,V,L,U⟩:=zG u l D h1 j C t J
  refine aKM hb (j _ _ (h1 _ _ I)) (j _ _ (h1 _ _ G)) Sc (C.same λb o z=>j b o (h1 b o z)) hr e0 B M (by rw[J.length,O]) λn=>⟨_,g f cc cl A outer s H (hid (aO fr cl) F) _ E n,?_⟩
  have i:=aDV (P:=P) (w:=w) (base:=base) (T:=T) (r:=fnF N.length (aM (vD fe)) (ds.map .d++c)) j W X
  refine⟨_,_,aBD V L U,?_⟩
  unfold fnF aM vD at i
  cases e:fe ((ds.map Fl.A.d++c).map some++replicate (N.length - (ds.map Fl.A.d++c).length) none)with
  | bad=>rw[e]at i;exact i
  | ok d=>rw[e]at i;exact λv q H' e1 r1 p=>i v q H' e1 r1 p
  | ex x=>rw[e]at i;exact λa C q H' e1 r1 p=>i a C q H' e1 r1 p
end
def pP(c:Ct)(F:Hp)(S:ClSt)(v:V):Prop:=∃ f cl doc pm cc ct,v=.ref f/\F f=some (FnO f (S.obj cl doc pm cc ct))/\F cc=some (.cod S.qual)/\ClOf c.cells S.scope cl
theorem pP.same{c:Ct}{F a:Hp}{S:ClSt}{v:V}(s:aD F a):pP c F S v->pP c a S v:=by
 rintro ⟨f,cl,doc,pm,cc,ct,h1,h2,h3,h4⟩
 exact⟨f,cl,doc,pm,cc,ct,h1,s _ _ h2,s _ _ h3,h4⟩
theorem aDW{c:Ct}{S:ClSt}{P0:Az}{qs:L9 (Pos×Str)}{cells:L9 (Str×Az)}{Y:Sg}{Z:L2.St}{F H:Hp}{Q:VK}(e:cells=c.cells)(k:c.g.T P0=some (.tbl qs))(ab:Ab c Y Z F H)(h:∀ v F' H',Ext F H F' H'->pP c F' S v->Q v H'):tMk cells S P0 qs Z H Q:=by
 subst e
 refine⟨ab.fh _ _ (ab.f0 _ _ (ab.t0 _ _ k)),λf b cl doc pm ct H1 l m i=>?_⟩
 have e1:∃ d,Ext F H d H1/\d b=some (.cod S.qual):=by
  rcases l with ⟨q,rfl⟩|⟨q,rfl⟩
  .refine ⟨upd F b (.cod S.qual),⟨a9 _,λa o z=>?_,λa o z=>?_,λa z n=>?_⟩,aN⟩
   .by_cases w:a=b
    .subst w
     have:=ab.fh a o z
     rw[q]at this;cases this
     exact aN
    .rw[aF w];exact z
   .by_cases w:a=b
    .subst w;rw[aN]at z;rw[q];exact z
    .rw[aF w]at z;exact ab.fh a o z
   .by_cases w:a=b
    .subst w;exact .inr ⟨_,q⟩
    .rw[aF w]at n;exact absurd z n
  .exact ⟨upd F b (.cod S.qual),Ext.new ab.fh q,aN⟩
 obtain⟨d,e1,j⟩:=e1
 have e2:Ext d H1 (upd d f (FnO f (S.obj cl doc pm b ct))) (upd H1 f (FnO f (S.obj cl doc pm b ct))):=Ext.new e1.fh m
 exact h (.ref f) _ _ (e1.trans e2) ⟨f,cl,doc,pm,b,ct,rfl,aN,e2.ff _ _ j,i⟩
noncomputable def l5(i:Nat)(q:Str):Sg->R Fw:=λY=>.ok (.nx (Y.set i (some (.k q))))
theorem sO{X:Cx}{c:Ct}{E:XK}{st:Stmt}{i:Nat}{q:Str}{S:ClSt}{P0:Az}{qs:L9 (Pos×Str)}{cells:L9 (Str×Az)}(b:cells=c.cells)(l:c.cls q=some S)(j:c.g.T P0=some (.tbl qs))(h:PS X st (kQ (tMk cells S P0 qs) (kB i))):PSf X c E st (l5 i q):=PS.imp h λD Z H d=>by
 obtain⟨Y,F,ab,k⟩:=d
 refine aDW b j ab λv m H' e n=>?_
 exact Rk.ok k _ m H' e.ff ((ab.ext e).setF (a:=.k q) (let ⟨f,cl,doc,pm,cc,ct,h⟩:=n;⟨S,f,cl,doc,pm,cc,ct,l,h⟩) λz=>nomatch z)
noncomputable def l6:O9 (O9 A)->O9 A
 | some (some (.d x))=>some (.d x)
 | some (some (.x e))=>some (.x e)
 | some (some (.g k n G))=>some (.g k n G)
 | _=>none
noncomputable def eJ:L9 Nat->Sg->O9 (L9 A)
 | [],_=>some []
 | j::js,Y=>match l6 Y[j]?,eJ js Y with
  | some a,some as=>some (a::as)
  | _,_=>none
theorem wC{o:O9 (O9 A)}{a:A}(h:l6 o=some a):o=some (some a)/\∀ {c:Ct} {F H:Hp} {v:V},AO c F H a v->AF c.g c.K c.mg F a v:=by
 unfold l6 at h
 split at h<;>cases h
 · exact⟨rfl, λz => z⟩
 · exact⟨rfl, λz => z⟩
 · exact⟨rfl, λz => z⟩
theorem aDX{c:Ct}{Y:Sg}{Z:L2.St}{F H:Hp}(ab:Ab c Y Z F H):∀ {js:L9 Nat} {caps:L9 A},eJ js Y=some caps->∃ cvs,AFs c.g c.K c.mg F caps cvs/\cvs.length=js.length/\∀ (i:Nat) j,js[i]? = some j->∃ v,cvs[i]? = some v/\Z[j]? = some (some v)
 | [],_,h=>by cases h;exact⟨[],trivial,rfl,λi j z=>by simp at z⟩
 | j::js,caps,h=>by
  unfold eJ at h
  split at h
  .rename_i a as h1 h2
   cases h
   obtain⟨cvs,r,l,g⟩:=aDX ab h2
   obtain⟨p,o⟩:=wC h1
   obtain⟨v,n,f⟩:=ab.slot j a p
   refine⟨v::cvs,⟨o f,r⟩,by simp[l],λi d e=>?_⟩
   cases i with
   | zero=>simp at e;subst e;exact⟨v,rfl,n⟩
   | succ i=>obtain⟨b,m,k⟩:=g i d (by simpa using e);exact⟨b,by simpa using m,k⟩
  .cases h
def aBN(X:Cx)(T:Hp)(c:Ct)(js:L9 Nat)(Y:Sg)(F:Hp)(a:A)(v:V):Prop:=AF c.g c.K c.mg F a v \/
 ∃ S fr sl k n Gm caps,a=.g k n (Gm caps)/\pP c F S v/\CloOk X.prog X.w X.K X.mg X.base T S fr k n Gm/\(∀ y,(y,NameKind.free)∈S.scope.names->y∈fr)/\(∀ y∈fr,(y,NameKind.free)∈S.scope.names)/\sl.map (λj=>X.N[j]?)=fr.map some/\(∀ j∈sl,j∈js)/\eJ sl Y=some caps
theorem aBN.same{X:Cx}{T:Hp}{c:Ct}{js:L9 Nat}{Y:Sg}{F d:Hp}{a:A}{v:V}(s:aD F d)(h:aBN X T c js Y F a v):aBN X T c js Y d a v:=by
 rcases h with h|⟨S,fr,sl,k,n,Gm,b,h1,h2,e⟩
 · exact .inl (AF.same s h)
 · exact .inr ⟨S, fr, sl, k, n, Gm, b, h1, h2.same s, e⟩
def aFV(X:Cx)(T:Hp)(c:Ct)(js:L9 Nat)(Y:Sg)(F:Hp):L9 A->L9 V->Prop
 | [],[]=>True
 | a::as,v::vs=>aBN X T c js Y F a v/\aFV X T c js Y F as vs
 | _,_=>False
def tK1(X:Cx)(T:Hp)(c:Ct)(js:L9 Nat)(E:XK)(f:Sg->R A):TE:=λZ H Q=>∃ Y F,Ab c Y Z F H/\Rk c E F H (f Y) λa=>∀ v F' H',Ext F H F' H'->aBN X T c js Y F' a v->Q v H'
def tKs(X:Cx)(T:Hp)(c:Ct)(js:L9 Nat)(E:XK)(f:Sg->R (L9 A)):TA:=λZ H Q=>∃ Y F,Ab c Y Z F H/\Rk c E F H (f Y) λas=>∀ vs F' H',Ext F H F' H'->aFV X T c js Y F' as vs->Q vs H'
section
variable{X:Cx}{T:Hp}{c:Ct}{js:L9 Nat}{E:XK}{e:E2}{es:L9 E2}
theorem sP{f:Sg->R A}(h:PV X c E e f):PE X e (tK1 X T c js E f):=PE.imp h λZ H Q ⟨Y,F,ab,k⟩=>⟨Y,F,ab,k.imp λa _ q v b H' e1 r=>q v b H' e1 (.inl r)⟩
def lF(q:Str)(sl:L9 Nat)(k n:Nat)(Gm:L9 A->L9 Dz->R Dz)(i:Nat):Sg->R A:=λY=>match Y[i]?,eJ sl Y with
 | some (some (.k q')),some caps=>if q'=q then .ok (.g k n (Gm caps))else .bad
 | _,_=>.bad
theorem sQ{q:Str}{S:ClSt}{sl:L9 Nat}{Gm:L9 A->L9 Dz->R Dz}(p:c.cls q=some S)(M:CloOk X.prog X.w X.K X.mg X.base T S fr k n Gm)(h1:∀ y,(y,NameKind.free)∈S.scope.names->y∈fr)(h2:∀ y∈fr,(y,NameKind.free)∈S.scope.names)
  (o:sl.map (λj=>X.N[j]?)=fr.map some) (r:∀ j∈sl,j∈js) (h:PE X e (jA i)):PE X e (tK1 X T c js E (lF q sl k n Gm i)):=PE.imp h λZ H Q ⟨Y,F,ab,k⟩=>by
 unfold lF at k
 split at k
 .rename_i s a hi m
  by_cases d:s=q
  .rw[AJ d]at k
   subst d
   obtain⟨v,t,u,f,cl,doc,pm,l,ct,g,b⟩:=ab.slot i _ hi
   rw[p]at g;cases g
   have b:pP c F S v:=⟨f,cl,doc,pm,l,ct,b⟩
   exact⟨v,t,Rk.ok k v F H (Ext.refl ab.fh) (.inr ⟨_,fr,sl,_,_,Gm,a,rfl,b,M,h1,h2,o,r,m⟩)⟩
  .rw[AM d]at k;exact k.elim
 .exact k.elim
def n6(sl:L9 Nat)(k n:Nat)(Gm:L9 A->L9 Dz->R Dz):Sg->R A:=λY=>match eJ sl Y with
 | some caps=>.ok (.g k n (Gm caps))
 | none=>.bad
theorem aIJ{S:ClSt}{sl:L9 Nat}{Gm:L9 A->L9 Dz->R Dz}{P0:Az}{cells:L9 (Str×Az)}(b:cells=c.cells)(d:c.g.T P0=some (.tbl qs))(M:CloOk X.prog X.w X.K X.mg X.base T S fr k n Gm)(h1:∀ y,(y,NameKind.free)∈S.scope.names->y∈fr)(h2:∀ y∈fr,(y,NameKind.free)∈S.scope.names)
  (o:sl.map (λj=>X.N[j]?)=fr.map some) (f:∀ j∈sl,j∈js) (h:PE X e (tMk cells S P0 qs)):PE X e (tK1 X T c js E (n6 sl k n Gm)):=PE.imp h λZ H Q ⟨Y,F,ab,k⟩=>by
 unfold n6 at k
 split at k
 .rename_i a m
  exact aDW b d ab λv l H' e1 i=>Rk.ok k v l H' e1 (.inr ⟨_,fr,sl,_,_,Gm,a,rfl,i,M,h1,h2,o,f,m⟩)
 .exact k.elim
theorem sR:PA X [] (tKs X T c js E aC):=PA.imp bR λZ H Q ⟨Y,F,ab,k⟩=>Rk.ok k [] F H (Ext.refl ab.fh) trivial
end
section
variable{X:Cx}{T:Hp}{c:Ct}{js:L9 Nat}{E:XK}{e:E2}{es:L9 E2}
theorem eF{f:Sg->R A}{g:Sg->R (L9 A)}(h:PE X e (tK1 X T c js E f))(h2:PA X es (tKs X T c js E g))(j:starEach (e::es) X.env=(false,eval e X.env)::starEach es X.env:=by rfl):PA X (e::es) (tKs X T c js E (aA f g)):=PA.imp (aZ h h2 j) λZ H Q a=>by
 obtain⟨Y,F,ab,k⟩:=a
 refine⟨Y,F,ab,(Rk.bind k).imp λx _ q v d H1 s1 r1=>⟨Y,d,ab.ext s1,((Rk.bind q).ext s1).imp λxs _ q vs i H2 b r2=>?_⟩⟩
 exact Rk.ok q (v::vs) i H2 (s1.trans b) ⟨r1.same b.ff,r2⟩
theorem aBO:∀ {js:L9 Nat} {Y:Sg} {caps:L9 A},eJ js Y=some caps->∀ j∈js,∃ a,Y[j]? = some (some a)
 | [],_,_,_,j,hj=>by simp at hj
 | i::js,Y,caps,h,j,hj=>by
  unfold eJ at h
  split at h
  .rename_i a b h1 h2
   rcases AW.mp hj with z|z
   · subst z; exact⟨a, (wC h1).1⟩
   · exact aBO h2 j z
  .cases h
theorem aPK{N:L9 α}{sl:L9 Nat}{fr:L9 α}(h:sl.map (λj=>N[j]?)=fr.map some):sl.length=fr.length/\∀ (i:Nat) x,fr[i]? = some x->∃ j,sl[i]? = some j/\N[j]? = some x:=by
 have a:sl.length=fr.length:=by have:=DB length h;simpa using this
 refine⟨a,λi x e=>?_⟩
 have hi:i < fr.length:=(AD.mp e).1
 have h2:(sl.map (λj=>N[j]?))[i]? = (fr.map some)[i]?:=by rw[h]
 rw[AC,AC,e,AI (by ext)]at h2
 exact⟨sl[i],AI _,BK h2⟩
theorem aLG{S:ClSt}{sl:L9 Nat}{Gm:L9 A->L9 Dz->R Dz}{d:L9 A}{Y:Sg}{Z:L2.St}{F H:Hp}{p:Cv}{v:V}(hG:c.g=gOf X.prog X.w X.K X.mg X.base T)(I:X.K=c.K)(hM:X.mg=c.mg)(q:X.env.cells=c.cells)(ab:Ab c Y Z F H)(R:PubRel X Z H js p)
  (W:pP c F S v) (M:CloOk X.prog X.w X.K X.mg X.base T S fr k n Gm) (h1:∀ y,(y,NameKind.free)∈S.scope.names->y∈fr) (h2:∀ y∈fr,(y,NameKind.free)∈S.scope.names)
  (h3:sl.map (λj=>X.N[j]?)=fr.map some) (h4:∀ j∈sl,j∈js) (hc:eJ sl Y=some d):AF c.g c.K c.mg (pub p F) (.g k n (Gm d)) v:=by
 obtain⟨f,cl,doc,pm,cc,ct,rfl,q1,q2,D⟩:=W
 obtain⟨cvs,r,l,gt⟩:=aDX ab hc
 obtain⟨L,g3⟩:=aPK h3
 have C:∀ b∈cJ p,F b=none:=λb hb=>aU ab.fh (R.free b hb)
 have J:aD F (pub p F):=kT C
 have s:∀ (i:Nat) x v,fr[i]? = some x->cvs[i]? = some v->∃ a o,cl.lookup x=some a/\p.lookup a=some (o,v):=λi x v e1 e2=>by
  obtain⟨j,m,B⟩:=g3 i x e1
  obtain⟨v',O,e6⟩:=gt i j m
  rw[e2]at O;cases O
  obtain⟨x',a,o,v2,P,e8,U,E⟩:=R.all j (h4 j (AG m))
  rw[B]at P;cases P
  rw[e6]at U;cases U
  obtain⟨Q,u⟩:=D.all (x,.free) (h2 x (AG e1)) rfl
  have t:=D.of _ _ u
  rw[<-q]at t
  have h:X.env.cells.lookup x=some Q:=t
  rw[e8]at h;cases h
  exact⟨a,o,u,E⟩
 refine⟨f,pub p F,rfl,a9 _,?_⟩
 rw[hG]
 refine M F (pub p F) d cvs f cl doc pm ct cc (λa o z=>ab.f0 a o (ab.t0 a o (by rw[hG];exact z))) (by rw[I,hM,<-I,<-hM];rw[hG]at r;rw[<-I,<-hM]at r;exact r) J (J _ _ q1) (J _ _ q2) ⟨l.trans L,λn c e=>h1 n (D.only n c e),λn n' c e e'=>R.inj n n' c (by rw[q];exact D.of _ _ e) (by rw[q];exact D.of _ _ e'),λi x v e1 e2=>?_⟩ λa ha=>?_
 .obtain ⟨a,o,m,B⟩:=s i x v e1 e2
  exact⟨a,o,m,qU B⟩
 .obtain ⟨x,hx,e⟩:=DH.mp ha
  obtain⟨i,hi,G⟩:=E9.mp hx
  obtain⟨Q,o,m,B⟩:=s i x (cvs[i]'(by rw[l,L];exact hi)) (by rw[AI hi,G]) (AI _)
  rw[e]at m;cases m
  exact C a (hZ.mpr ⟨_,B⟩)
theorem zI{Y:Sg}{Z:L2.St}{F H:Hp}{cv:Cv}(hG:c.g=gOf X.prog X.w X.K X.mg X.base T)(hK:X.K=c.K)(hM:X.mg=c.mg)(hcl:X.env.cells=c.cells)(ab:Ab c Y Z F H)(R:PubRel X Z H js cv):∀ {as:L9 A} {vs:L9 V},aFV X T c js Y F as vs->AFs c.g c.K c.mg (pub cv F) as vs
 | [],[],_=>trivial
 | a::as,v::vs,h=>by
  refine⟨?_,zI hG hK hM hcl ab R h.2⟩
  rcases h.1 with q|⟨S,fr,sl,k,n,Gm,d,rfl,e,l,m,j,i,p,f⟩
  · exact AF.same (kT λb o => aU ab.fh (R.free b o)) q
  · exact aLG hG hK hM hcl ab R e l m j i p f
def hU(js:L9 Nat)(n:Nat)(G:L9 A->R A)(f:Sg->R (L9 A)):Sg->R A:=λY=>match eJ js Y with
 | some _=>(f Y).bind λas=>if as.length=n then(dOf (G as)).bind λx=>.ok (.d x)else .bad
 | none=>.bad
theorem wD{G:L9 A->R A}{g:Gb}{f:Sg->R (L9 A)}(hG:c.g=gOf X.prog X.w X.K X.mg X.base T)(hK:X.K=c.K)(hM:X.mg=c.mg)(u:X.env.cells=c.cells)(W:g=c.g)(M:K=c.K)(P:mg=c.mg)
  (B:∀ j∈js,∃ x,X.N[j]? = some x/\X.env.kindOf x=some .cell/\X.fn x=true) (h:PE X e (aHL X js (spF g K mg n G) E (tKs X T c js E f))):PV X c E e (hU js n G f):=PE.imp h λZ H Q ⟨Y,F,ab,k⟩=>by
 subst W M P
 unfold hU at k
 split at k
 .rename_i D hc
  refine⟨Y,F,ab,(Rk.bind k).imp λs _ q vs J H1 e1 r1=>⟨λj L=>?_,λI R=>?_⟩⟩
  .obtain ⟨x,a1,O,a3⟩:=B j L
   obtain⟨a,U⟩:=aBO hc j L
   obtain⟨v,hv,_⟩:=ab.slot j a U
   exact⟨x,v,a1,O,a3,hv⟩
  .by_cases p:s.length=n
   .rw[AJ p]at q
    have r:=ab.ext e1
    have y:∀ b∈cJ I,J b=none:=λb t=>aU e1.fh (R.free b t)
    refine⟨pub I J,s,λa o z=>kT y a o (e1.ff a o (ab.f0 a o (ab.t0 a o z))),aLF e1.fh,zI hG hK hM u r R r1,p,?_⟩
    cases i:G s with
    | bad=>rw[i]at q;exact q
    | ok a=>
     rw[i]at q
     cases a with
     | d x=>
      intro v V H2 e2 r2
      exact Rk.ok q v _ _ (e1.trans (zF R.free e1.fh e2)) (aDT (aBM e2.ff) r2)
     | l xs=>exact False.elim q
     | m xs=>exact False.elim q
     | x xs=>exact False.elim q
     | g k n f=>exact False.elim q
     | k S=>exact False.elim q
     | f S=>exact False.elim q
     | o S=>exact False.elim q
     | w S=>exact False.elim q
    | ex x=>
     rw[i]at q
     intro a C V H2 e2 r2
     obtain⟨q1,q2⟩:=aLE (aBM e2.ff) r2
     exact⟨q a C _ _ ((ab.all.trans e1).trans (zF R.free e1.fh e2)) q1,λb t=>by cases t;exact q2⟩
   .rw[AM p]at q;exact q.elim
 .exact k.elim
end
section
variable{P:P9}{w:W9}{K:Frag}{mg:Str->O9 V9}{base:H9}{T:Hp}
def gF(G:L9 A->R A):L9 Dz->R Dz:=λds=>dOf (G (ds.map .d))
theorem aIK{G:L9 A->R A}(C:bH P w K mg base T k x ps G):∃ f,mg x=some (.ref f)/\∀ F1,Beh P w K mg base T f F1 k ps.length (gF G):=by
 obtain⟨f,fd,F,b,m,j⟩:=C
 refine⟨f,m,λF1=>⟨fd,ps,rfl,b,F.imp λvs H Q E h=>?_,.inl j⟩⟩
 obtain⟨F,ds,_,h2,p,i,q,c⟩:=h
 refine⟨F,ds.map .d,h2,p,AFs.data i,by simpa using q,?_⟩
 unfold gF at c
 cases e:G (ds.map .d)with
 | bad=>rw[e]at c;exact c
 | ok a=>
  rw[e]at c
  cases a with
  | d x=>exact c
  | l xs=>exact False.elim c
  | m xs=>exact False.elim c
  | x xs=>exact False.elim c
  | g k n f=>exact False.elim c
  | k S=>exact False.elim c
  | f S=>exact False.elim c
  | o S=>exact False.elim c
  | w S=>exact False.elim c
 | ex x=>rw[e]at c;exact c
def aFW(k n:Nat)(G:L9 A->R A):Sg->R A:=λ_=>.ok (.g k n (gF G))
theorem aPL{X:Cx}{c:Ct}{E:XK}{k:Nat}{x:Str}{ps:L9 Str}{G:L9 A->R A}(hG:c.g=gOf X.prog X.w X.K X.mg X.base T)(C:bH X.prog X.w X.K X.mg X.base T k x ps G)(b:Gl X x)(a:(x == ("__debug__":Str))=false:=by decide):PV X c E (.Name x p) (aFW k ps.length G):=by
 obtain⟨f,m,B⟩:=aIK C
 exact PE.imp (xI (v:=.ref f) b m rfl a) λZ H Q ⟨Y,F,ab,k⟩=>Rk.ok k (.ref f) F H (Ext.refl ab.fh) ⟨f,F,rfl,a9 F,by rw[hG];exact B F⟩
structure DefAtT(K:Frag)(mg:Str->Option V9)(base:Heap)(T:Hp)(qs:List (Pos×Str))(x:Str)(st:Stmt)(ps:List Str):Prop where
 ex:∃ f oc od kV doc pm an c0 ct osl P0,K.lookup f=some ⟨oc,od,.func (fnOf x x (fZ st) (bE st) (aJ st) .none kV doc pm an (.ref c0) ct),osl⟩/\codeIn K (.ref c0) x=true/\keepIn K (.ref f)=true /\
  jK K (fnOf x x (fZ st) (bE st) (aJ st) .none kV doc pm an (.ref c0) ct) ps []/\mg x=some (.ref f)/\Tb mg base c0 P0/\T P0=some (.tbl qs)
theorem aFX{h:H9}{xs:L9 Str}(D:DefAt K mg x st ps)(j:K.In h)(i:aAY mg h base T qs xs)(hx:x∈xs):DefAtT K mg base T qs x st ps:=by
 obtain⟨f,fd,F,b,m⟩:=D.ex
 obtain⟨n,od,kV,doc,pm,p,d,ct,c,rfl,g,a⟩:=F.ex
 obtain⟨c0,P0,o,k,l⟩:=i x hx
 have e:d=.ref c0:=l f _ _ m (j _ _ g) rfl
 subst e
 exact⟨f,n,od,kV,doc,pm,p,c0,ct,c,P0,g,a,F.kp,b,m,k,o⟩
theorem sS{x:Str}{st:Stmt}{N ps:L9 Str}{k:Nat}{qs:L9 (Pos×Str)}{cls:Str->O9 ClSt}{fb:Sg->R Fw}(D:DefAtT K mg base T qs x st ps)(S:FnScope N ps (aJ st))
  (a:∀ (f c0 P0:Az) (A:U9) (outer:L9 Env) (s:S9) (H F:Hp) (E:XK),Tb mg base c0 P0->T P0=some (.tbl qs)->Room k (A.deeper (envOfC x (aJ st) s.heap.objs.size f (.ref c0)))->
   kE ((jB (CXe P w) P w K mg base N x (aJ st) f (.ref c0) A outer s H E).fly E) ⟨K,mg,w,F,H,gOf P w K mg base T,(envOfC x (aJ st) s.heap.objs.size f (.ref c0)).cells,cls⟩ E (bE st) fb):bH P w K mg base T (k+1) x ps (fnF N.length fb):=by
 obtain⟨f,q,od,kV,doc,pm,r,c0,ct,g,P0,e,c,i,b,m,j,o⟩:=D.ex
 refine⟨f,_,aE7 e c S (λvs H Q E h=>?_) (λA outer s H vs Q E hr h=>?_),b,m,i⟩
 .obtain ⟨F,n,_,_,h2,d,_⟩:=h
  rw[h2.len,d]
 .obtain ⟨F,n,p,h1,h2,d,l⟩:=h
  exact⟨_,(a f c0 P0 A outer s H F E j o hr).unfly λ_ _ z=>yY z,sK p h1 h2 l⟩
end
noncomputable def aFY:Stmt->E2
 | .Assign _ e _=>e
 | .Return (some e) _=>e
 | _=>.Constant .none 0 ⟨0,0,0,0⟩
noncomputable def aFZ(e:E2)(i:Nat):E2:=match e with
 | .Call _ as _ _=>as.getD i (.Constant .none 0 ⟨0,0,0,0⟩)
 | e=>e
noncomputable def clS(q:Str):Stmt->ClSt
 | .FunctionDef x a b _ _ _ sc _ _ _=>⟨x,q,a,.stmts b,sc⟩
 | s=>⟨"",q,fZ s,.stmts [],aJ s⟩
noncomputable def clE(q:Str):E2->ClSt
 | .Lambda a b sc _=>⟨"<lambda>",q,a,.expr b,sc⟩
 | _=>⟨"",q,fZ (.Pass ⟨0,0,0,0⟩),.stmts [],aJ (.Pass ⟨0,0,0,0⟩)⟩
noncomputable def aF0:Stmt->Pos
 | .FunctionDef _ _ _ _ _ _ _ _ _ p=>p
 | _=>⟨0,0,0,0⟩
noncomputable def aTB:E2->Pos
 | .Lambda _ _ _ p=>p
 | _=>⟨0,0,0,0⟩
theorem wE{X:Cx}:∀ j∈([]:L9 Nat),∃ x,X.N[j]? = some x/\X.env.kindOf x=some .cell/\X.fn x=true:=λj h=>by simp at h
theorem mE{X:Cx}{i:Nat}{js:L9 Nat}(h:∃ x,X.N[i]? = some x/\X.env.kindOf x=some .cell/\X.fn x=true)(t:∀ j∈js,∃ x,X.N[j]? = some x/\X.env.kindOf x=some .cell/\X.fn x=true):∀ j∈i::js,∃ x,X.N[j]? = some x/\X.env.kindOf x=some .cell/\X.fn x=true:=λj a=>by
 rcases AW.mp a with z|z
 · subst z; exact h
 · exact t j z
end Fl
variable{c:Bool}{z i1 i2:Az}
namespace Zp
variable{f1 f2:L9 Az}{P1 P2:Nat->V9->Prop}{S1 S2:Nat->H9->Prop}
section
variable{prog:P9}{w:W9}{A:U9}{E:V9->S9->Prop}{s:S9}
theorem tJ{t:Az}{items}{x:V9}(a:s.heap.IsTupleIter it t i)
  (f:s.heap.IsTuple t items) (hx:items[i]? = some x) (g:∀ h',h'.IsTupleIter it t (i+1)->Heap.SameBut it s.heap h'->Q x {s with heap:=h'}) :
  wpAny (model prog w) A (Builtin.SmallTypes.nextOf (.ref it)) Q E s:=by
 obtain⟨o,c,h,b⟩:=id a
 obtain⟨k,d,_,j,e⟩:=f
 unfold Builtin.SmallTypes.nextOf
 refine AB (DV (name:=Str.ofString "__next__") a.typeIs DP
  (EB DP a.typeIs FZ ?_ (FS _)))
 show wpAny _ _ (field (.ref it) 0 >>= _) _ _ s
 refine AB (B0 c b (x:=.ref t) rfl ?_)
 show wpAny _ _ (if (Value.ref t == Value.none)=true then _ else _) _ _ s
 rw[AM (show ¬ ((Value.ref t == Value.none)=true)from BM)]
 show wpAny _ _ (field (.ref it) 1 >>= _) _ _ s
 refine AB (B0 c b (x:=.int i 0) rfl ?_)
 show wpAny _ _ (seqItems? (.ref t) >>= _) _ _ s
 refine AB (DC d e ?_)
 simp only[C9,hx]
 refine AB (ER c b (by simp) (AH ⟨x,rfl,AH (g _ ?_ (CH ..))⟩))
 exact⟨_,BN _ c (E7 (DZ b _)),(Obj.cls_mapFields ..).trans h,by
  rw[DZ b];simp[rawInt]⟩
theorem uI{t:Az}{items}(h:A.handled=none)
  (b:s.heap.IsTupleIter it t i) (j:s.heap.IsTuple t items) (hx:items[i]? = none)
  (k:∀ h' e,Heap.ExtBut it s.heap h'->(∃ o,h'.get? e=some o/\o.cls=.type "StopIteration")->E (.ref e) {s with heap:=h'}) :
  wpAny (model prog w) A (Builtin.SmallTypes.nextOf (.ref it)) Q E s:=by
 obtain⟨o,g,p,d⟩:=id b
 obtain⟨n,c,_,l,f⟩:=j
 unfold Builtin.SmallTypes.nextOf
 refine AB (DV (name:=Str.ofString "__next__") b.typeIs DP
  (EB DP b.typeIs FZ ?_ (FS _)))
 show wpAny _ _ (field (.ref it) 0 >>= _) _ _ s
 refine AB (B0 g d (x:=.ref t) rfl ?_)
 show wpAny _ _ (if (Value.ref t == Value.none)=true then _ else _) _ _ s
 rw[AM (show ¬ ((Value.ref t == Value.none)=true)from BM)]
 show wpAny _ _ (field (.ref it) 1 >>= _) _ _ s
 refine AB (B0 g d (x:=.int i 0) rfl ?_)
 show wpAny _ _ (seqItems? (.ref t) >>= _) _ _ s
 refine AB (DC c f ?_)
 simp only[C9,hx]
 refine AB (ES (AB (ER g d (by simp) ?_)))
 show wpAny _ _ (newExc (.type "StopIteration") [] >>= _) _ _ _
 refine AB ?_
 simp only[newExc,newTuple]
 refine AB (CZ ?_ (by size_fits))
 refine AB (m:=firstArgMember _ _) (wpAny_of_eq (a:=Value.none) (by first|rfl|(simp only[firstArgMember];rfl)) ?_)
 refine CZ ?_ (by size_fits)
 simp only[raiseNew]
 refine AB (wpAny_handled ?_)
 first|rw[show A.in1.handled=none from h]|rw[h]
 refine AB (AH (wpAny_throw ?_))
 exact k _ _ (((CH ..).extBut.push _).push _) ⟨_,A0 _ rfl,rfl⟩
end
theorem aCZ{w:W9}{A:U9}(e:A.handled=none)(it l:Az)(c:l≠it)(items:Array V9) :
  Draws prog w A it [it,l] items.size (λi v=>items[i]? = some v) (λi h=>h.IsTupleIter it l i/\h.IsTuple l items) where
 live:=λ_ _ st=>let ⟨o,ho,_⟩:=st.1;⟨o,ho⟩
 frame:=λ_ _ _ st d=>⟨let ⟨o,ho,r⟩:=st.1;⟨o,d it (by simp) o ho,r⟩,let ⟨o,ho,r⟩:=st.2;⟨o,d l (by simp) o ho,r⟩⟩
 item:=λi s Q E hi st g=>by
  refine tJ st.1 st.2 (x:=items[i]) (by simp[hi]) λh' b a=>?_
  exact g _ h' s.toks (by simp[hi]) ⟨b,st.2.extBut a.extBut c⟩ a
 done:=λs Q E st f=>uI e st.1 st.2 (by simp) f
structure Apart(z TI TO i1 i2:Az)(f1 f2:List Az):Prop where
 TIz:TI≠z
 TOz:TO≠z
 i1z:i1≠z
 i2z:i2≠z
 TITO:TI≠TO
 TIi1:TI≠i1
 TIi2:TI≠i2
 TOi1:TO≠i1
 TOi2:TO≠i2
 i12:i1≠i2
 z1:z∉f1
 z2:z∉f2
 t1:TO∉f1
 t2:TO∉f2
 i1f2:i1∉f2
 i2f1:i2∉f1
section
variable{prog:P9}{w:W9}{A:U9}{E:V9->S9->Prop}{s:S9}
abbrev mX(h:H9)(z TI TO:Az)(f0 f1:V9):Prop:=h.get? z=some {cls:=.type "zip",dict:=none,data:=.fields #[f0,f1,.bool false,.ref TI,.ref TO],slots:=#[]}
theorem aBP{M:Model}{A:U9}{E:V9->S9->Prop}{s:S9}{Q:O9 Obj->S9->Prop}(h:Q (s.heap.get? a) s):wpAny M A (loadIfAlive a) Q E s:=λΓ p _=>by
 unfold loadIfAlive
 simp_all
theorem aIL{TI TO:Az}{f0:V9}{Q:Bool->S9->Prop}(hz:mX s.heap z TI TO f0 (.bool c))(a:f0=.none\/∃ T:Az,f0=rawInt T/\s.heap.get? T=none)(h:Q true s):wpAny (model prog w) A (Builtin.SmallTypes.ownedTupleIsFree (.ref z)) Q E s:=by
 unfold Builtin.SmallTypes.ownedTupleIsFree
 refine AB (B0 hz rfl (x:=f0) rfl ?_)
 rcases a with rfl|⟨T,rfl,b⟩
 .exact AH h
 .show wpAny _ _ (loadIfAlive ((T:Int)).toNat >>= _) _ _ s
  refine AB (aBP ?_)
  rw[show((T:Int)).toNat=T by ext,b]
  exact AH h
def ZN(h:H9)(z TI TO:Az):Prop:=(∃ f0 bb,mX h z TI TO f0 (.bool bb)/\(f0=.none\/∃ T:Az,f0=rawInt T))/\∃ a b,IsPair h TO a b
theorem aPM{TI TO T:Az}{oT:Obj}{Q:Bool->S9->Prop}(hz:mX s.heap z TI TO (rawInt T) (.bool c))(d:s.heap.get? T=some oT)
  (h:∀ h',mX h' z TI TO (rawInt T) (.bool true)->Heap.SameBut z s.heap h'->Q false {s with heap:=h'}):wpAny (model prog w) A (Builtin.SmallTypes.ownedTupleIsFree (.ref z)) Q E s:=by
 unfold Builtin.SmallTypes.ownedTupleIsFree
 refine AB (B0 hz rfl (x:=rawInt T) rfl ?_)
 show wpAny _ _ (loadIfAlive ((T:Int)).toNat >>= _) _ _ s
 refine AB (aBP ?_)
 rw[show((T:Int)).toNat=T by ext,d]
 show wpAny _ _ (field (.ref z) 1 >>= _) _ _ s
 refine AB (B0 hz rfl (x:=.bool c) rfl ?_)
 cases c with
 | true=>exact AH (h _ hz ⟨rfl,λ_ _=>rfl⟩)
 | false=>
  show wpAny _ _ (setField (.ref z) 1 (.bool true) >>= _) _ _ s
  refine AB (C6 hz (by simp) λh1 a b=>?_)
  exact AH (h h1 a b)
theorem Draws.nx{f:L9 Az}{P:Nat->V9->Prop}{S:Nat->H9->Prop}(D:Draws prog w A it f n P S)(h:i<=n)(st:S i s.heap)
  (a:i < n->∀ x h' tk,P i x->S (i+1) h'->Heap.SameBut it s.heap h'->Q x {s with heap:=h',toks:=tk})
  (hE:i=n->∀ h' e,Heap.ExtBut it s.heap h'->(∃ o,h'.get? e=some o/\o.cls=.type "StopIteration")->E (.ref e) {s with heap:=h'}):wpAny (model prog w) A (Builtin.SmallTypes.nextOf (.ref it)) Q E s:=by
 rcases EQ i n with l|l
 .exact D.item i s Q E l st (a l)
 .obtain rfl:i=n:=Nat.le_antisymm h l
  exact D.done s Q E st (hE rfl)
structure Nxt(P1 P2:Nat->V9->Prop)(S1 S2:Nat->Heap->Prop)(h:Heap)(z TI TO i1 i2:Az)(i:Nat)(x y:V9)(h':Heap):Prop where
 p1:P1 i x
 p2:P2 i y
 zn:ZN h' z TI TO
 s1:S1 (i+1) h'
 s2:S2 (i+1) h'
 pr:IsPair h' h.objs.size x y
 sz:h'.objs.size=h.objs.size+1
 kp:∀ c o,c≠z->c≠TO->c≠i1->c≠i2->h.get? c=some o->h'.get? c=some o
theorem aTC{TI TO:Az}{n1 n2:Nat}(D:Apart z TI TO i1 i2 f1 f2)
  (W:Draws prog w A i1 f1 n1 P1 S1) (X:Draws prog w A i2 f2 n2 P2 S2) (hz:ZN s.heap z TI TO) (ak:IsPair s.heap TI (.ref i1) (.ref i2)) (h1:S1 i s.heap) (h2:S2 i s.heap) (l1:i<=n1) (l2:i < n1->i<=n2)
  (hQ:i < n1->i < n2->∀ x y h' tk,Nxt P1 P2 S1 S2 s.heap z TI TO i1 i2 i x y h'->Q (.ref s.heap.objs.size) {s with heap:=h',toks:=tk})
  (hE:i=n1\/(i < n1/\i=n2)->∀ h' tk e,(∀ c o,c≠z->c≠TO->c≠i1->c≠i2->s.heap.get? c=some o->h'.get? c=some o)->(∃ o,h'.get? e=some o/\o.cls=.type "StopIteration")->E (.ref e) {s with heap:=h',toks:=tk}) :
  wpAny (model prog w) A (Builtin.«zip.__next__» ⟨[.ref z],[]⟩) (λal s'=>∃ v,al=.done (.ret v)/\Q v s') E s:=by
 have fr:∀ {f:L9 Az} {c:Az} {g g':H9},Heap.SameBut c g g'->c∉f->∀ b∈f,∀ o,g.get? b=some o->g'.get? b=some o:=λhs hc b hb o e=>hs.extBut _ _ (λz=>hc (z▸hb)) e
 obtain⟨⟨f0,bb,hz,hf⟩,a,b,aj⟩:=hz
 show wpAny _ _ (field (.ref z) 2 >>= _) _ _ _
 refine AB (B0 hz rfl (x:=.bool false) rfl ?_)
 show wpAny _ _ (field (.ref z) 3 >>= _) _ _ _
 refine AB (B0 hz rfl (x:=.ref TI) rfl (AB (DC ak rfl ?_)))
 show wpAny _ _ (Builtin.SmallTypes.ownedTupleIsFree (.ref z) >>= _) _ _ _
 have hc:(f0=.none\/∃ T:Az,f0=rawInt T/\s.heap.get? T=none)\/∃ (T:Az) (o:Obj),f0=rawInt T/\s.heap.get? T=some o:=by
  rcases hf with h|⟨T,h⟩
  .exact .inl (.inl h)
  .cases hg:s.heap.get? T with
   | none=>exact .inl (.inr ⟨T,h,hg⟩)
   | some o=>exact .inr ⟨T,o,h,hg⟩
 rcases hc with ao|⟨T,oT,rfl,hT⟩
 .refine AB (aIL hz ao ?_)
  simp only[CU]
  refine AB (ES ?_)
  refine AB (B0 hz rfl (x:=.ref TO) rfl ?_)
  refine AB (C6 hz (by simp) λB t k=>?_)
  replace t:mX B z TI TO .ellipsis (.bool bb):=t
  refine AB ?_
  simp only[List.zipIdx_cons,List.zipIdx_nil,DM,FR]
  refine AB (AB (wpAny_onRaise ?_))
  show wpAny _ _ (Builtin.SmallTypes.nextOf (.ref i1) >>= _) _ _ _
  refine AB (Draws.nx (s:={s with heap:=B}) W l1 (W.frame _ _ _ h1 (fr k D.z1)) (λq1 x r U px L d=>AH ?_) λq r e d he=>?_)
  .have d:Heap.SameBut i1 B r:=d
   have M:IsPair r TO a b:=d.extBut _ _ D.TOi1 (k.extBut _ _ D.TOz aj)
   refine AB (DC M rfl ?_)
   refine AB (wpAny_updateSeq_pair M λl F j=>?_)
   replace F:IsPair l TO x b:=F
   have j:Heap.SameBut TO r l:=j
   refine AB (wpAny_letGo (AH ?_))
   refine AB (AB (wpAny_onRaise ?_))
   show wpAny _ _ (Builtin.SmallTypes.nextOf (.ref i2) >>= _) _ _ _
   have O:mX l z TI TO .ellipsis (.bool bb):=j.extBut _ _ D.TOz.symm (d.extBut _ _ D.i1z.symm t)
   refine AB (Draws.nx (s:={s with heap:=l,toks:=U}) X (l2 q1) (X.frame _ _ _ (X.frame _ _ _ (X.frame _ _ _ h2 (fr k D.z2)) (fr d D.i1f2)) (fr j D.t2)) (λq2 y C af py ah m=>AH ?_) λq C e m he=>?_)
   .have m:Heap.SameBut i2 l C:=m
    have N:IsPair C TO x b:=m.extBut _ _ D.TOi2 F
    refine AB (DC N rfl ?_)
    refine AB (wpAny_updateSeq_pair N λp u n=>?_)
    replace u:IsPair p TO x y:=u
    refine AB (wpAny_letGo (AH (AH ?_)))
    refine AB (DC u rfl ?_)
    refine AB (wpAny_newTuple ?_)
    have n:Heap.SameBut TO C p:=n
    have hsz:p.objs.size=s.heap.objs.size:=by rw[n.1,m.1,j.1,d.1,k.1]
    have R:mX p z TI TO .ellipsis (.bool bb):=n.extBut _ _ D.TOz.symm (m.extBut _ _ D.i2z.symm O)
    have ac:z < p.objs.size:=AT R
    show wpAny _ _ (Builtin.SmallTypes.ownedTupleHandOut (.ref z) (.ref p.objs.size) >>= _) _ _ _
    refine AB ?_
    unfold Builtin.SmallTypes.ownedTupleHandOut
    have ad:mX (p.push {cls:=.type "tuple",data:=.seq #[x,y]}) z TI TO .ellipsis (.bool bb):=AE _ R
    refine AB (C6 ad (by simp) λh₇ K H=>?_)
    replace K:mX h₇ z TI TO (rawInt p.objs.size) (.bool bb):=K
    refine C6 K (by simp) λh₈ ae J=>?_
    have up:∀ c o,c≠z->p.get? c=some o->h₈.get? c=some o:=λc o G e=>J.extBut _ _ G (H.extBut _ _ G (AE _ e))
    refine AH ⟨_,rfl,?_⟩
    show Q (.ref p.objs.size) _
    rw[hsz]
    refine hQ q1 q2 x y h₈ af ⟨px,py,⟨⟨_,false,ae,.inr ⟨_,rfl⟩⟩,x,y,up _ _ D.TOz u⟩,?_,?_,?_,by rw[J.1,H.1,BW,hsz],λc o G Y Z c4 e=>up c o G (n.extBut _ _ Y (m.extBut _ _ c4 (j.extBut _ _ Y (d.extBut _ _ Z (k.extBut _ _ G e)))))⟩
    .exact W.frame _ _ _ (W.frame _ _ _ (W.frame _ _ _ (W.frame _ _ _ L (fr j D.t1)) (fr m D.i2f1)) (fr n D.t1)) λb hb o e=>up b o (λq=>D.z1 (q▸hb)) e
    .exact X.frame _ _ _ (X.frame _ _ _ ah (fr n D.t2)) λb hb o e=>up b o (λq=>D.z2 (q▸hb)) e
    .rw[<-hsz]
     exact J.extBut _ _ (CJ ac) (H.extBut _ _ (CJ ac) (A0 _ rfl))
   .have m:Heap.ExtBut i2 l C:=m
    obtain⟨oe,I,V⟩:=he
    have S:mX C z TI TO .ellipsis (.bool bb):=m _ _ D.i2z.symm O
    have ai:e≠z:=λx=>by subst x;rw[S]at I;cases I;simp at V
    exact C6 S (by simp) λp _ n=>hE (.inr ⟨q1,q⟩) p U e (λc o G Y Z c4 x=>n.extBut _ _ G (m _ _ c4 (j.extBut _ _ Y (d.extBut _ _ Z (k.extBut _ _ G x))))) ⟨oe,n.extBut _ _ ai I,V⟩
  .obtain ⟨oe,I,V⟩:=he
   have P:mX r z TI TO .ellipsis (.bool bb):=d _ _ D.i1z.symm t
   have ai:e≠z:=λx=>by subst x;rw[P]at I;cases I;simp at V
   exact C6 P (by simp) λl _ j=>hE (.inl q) l s.toks e (λc o G _ Z _ x=>j.extBut _ _ G (d _ _ Z (k.extBut _ _ G x))) ⟨oe,j.extBut _ _ ai I,V⟩
 .refine AB (aPM hz hT λB t k=>?_)
  simp only[CY,D0]
  show wpAny _ _ ((forIn #[Value.ref i1,Value.ref i2] _ _) >>= _) _ _ _
  refine AB ?_
  rw[<-Array.forIn_toList]
  simp only[DM,FR]
  refine AB (AB (CT ?_))
  show wpAny _ _ (Builtin.SmallTypes.nextOf (.ref i1) >>= _) _ _ _
  refine AB (Draws.nx (s:={s with heap:=B}) W l1 (W.frame _ _ _ h1 (fr k D.z1)) (λq1 x r U px L d=>AH (AH ?_)) λq r e d he=>hE (.inl q) r s.toks e (λc o G _ Y _ x=>d _ _ Y (k.extBut _ _ G x)) he)
  have d:Heap.SameBut i1 B r:=d
  refine AB (AB (CT ?_))
  show wpAny _ _ (Builtin.SmallTypes.nextOf (.ref i2) >>= _) _ _ _
  refine AB (Draws.nx (s:={s with heap:=r,toks:=U}) X (l2 q1) (X.frame _ _ _ (X.frame _ _ _ h2 (fr k D.z2)) (fr d D.i1f2)) (λq2 y l af py ag j=>AH (AH (AH ?_))) λq l e j he=>hE (.inr ⟨q1,q⟩) l U e (λc o G _ Y Z x=>j _ _ Z (d.extBut _ _ Y (k.extBut _ _ G x))) he)
  have j:Heap.SameBut i2 r l:=j
  have hsz:l.objs.size=s.heap.objs.size:=by rw[j.1,d.1,k.1]
  refine AB (wpAny_newTuple (hsz:=by show 2<=sizeLine;decide) (AH ⟨_,rfl,?_⟩))
  show Q (.ref l.objs.size) _
  rw[hsz]
  have up:∀ c o,l.get? c=some o->(l.push {cls:=.type "tuple",data:=.seq #[x,y]}).get? c=some o:=λc o e=>AE _ e
  have kp:∀ c o,c≠z->c≠TO->c≠i1->c≠i2->s.heap.get? c=some o->(l.push {cls:=.type "tuple",data:=.seq #[x,y]}).get? c=some o:=λc o G _ Y Z e=>up c o (j.extBut _ _ Z (d.extBut _ _ Y (k.extBut _ _ G e)))
  refine hQ q1 q2 x y _ af ⟨px,py,⟨⟨_,true,up _ _ (j.extBut _ _ D.i2z.symm (d.extBut _ _ D.i1z.symm t)),.inr ⟨_,rfl⟩⟩,a,b,up _ _ (j.extBut _ _ D.TOi2 (d.extBut _ _ D.TOi1 (k.extBut _ _ D.TOz aj)))⟩,W.frame _ _ _ (W.frame _ _ _ L (fr j D.i2f1)) λb hb o e=>up b o e,X.frame _ _ _ ag λb hb o e=>up b o e,?_,by rw[BW,hsz],kp⟩
  rw[<-hsz]
  exact A0 _ rfl
theorem sT{TI TO:Az}{n1 n2:Nat}{Q:O9 V9->S9->Prop}(D:Apart z TI TO i1 i2 f1 f2)
  (f:Draws prog w A.in1 i1 f1 n1 P1 S1) (v:Draws prog w A.in1 i2 f2 n2 P2 S2) (hz:ZN s.heap z TI TO) (a:IsPair s.heap TI (.ref i1) (.ref i2)) (h1:S1 i s.heap) (h2:S2 i s.heap) (p:i<=n1) (u:i < n1->i<=n2)
  (j:i < n1->i < n2->∀ x y h' tk,Nxt P1 P2 S1 S2 s.heap z TI TO i1 i2 i x y h'->Q (some (.ref s.heap.objs.size)) {s with heap:=h',toks:=tk})
  (hE:i=n1\/(i < n1/\i=n2)->∀ h' tk,(∀ c o,c≠z->c≠TO->c≠i1->c≠i2->s.heap.get? c=some o->h'.get? c=some o)->Q none {s with heap:=h',toks:=tk}):wpAny (model prog w) A (pyNext (.ref z)) Q E s:=by
 have d:s.TypeIs (.ref z) "zip":=by obtain⟨⟨_,_,h,_⟩,_⟩:=hz;exact⟨_,h,rfl⟩
 unfold pyNext
 refine AB (HN (DV (name:=Str.ofString "__next__") d HA
  (EB HA d F.entry_zip_next
   (aTC D f v hz a h1 h2 p u (λl m x y h' tk n=>AH (j l m x y h' tk n)) λq h' tk e g r=>?_) (F.args_zip_next_1 _))))
 obtain⟨o,t,k⟩:=r
 refine AB (wpAny_isInstance (T:="StopIteration") (b:=true) ⟨o,t,k⟩ isSubtype_stop ?_)
 exact AH (hE q _ _ g)
theorem aTD{TI TO T:Az}{Q:Unit->S9->Prop}(hz:ZN s.heap z TI TO)(ne:TO≠z)(f:∀ h',ZN h' z TI TO->Heap.SameBut z s.heap h'->Q () {s with heap:=h'}):wpAny (model prog w) A (letOwnedTupleGo tg (.ref z) (.ref T)) Q E s:=by
 have stay:Q () s:=f s.heap hz ⟨rfl,λ_ _=>rfl⟩
 obtain⟨⟨j,i,g,k⟩,a,b,h⟩:=hz
 have d:wpAny (model prog w) A (do
   let o <-load z
   match o.cls,o.data with
   | .type n,.fields vs=>
    if ["enumerate","zip","dict_itemiterator","dict_reverseitemiterator","odict_iterator","itertools.zip_longest","itertools.pairwise"].contains n && vs[0]? == some (rawInt T)then
     rule "for.unpacks-the-owned-tuple"
     updateField z 0 .none
   | _,_=>pure ()) Q E s:=by
  refine AB (wpAny_load g ?_)
  show wpAny _ _ (if _ then _ else _) Q E s
  split
  .refine AB (ES ?_)
   show wpAny _ _ (setField (.ref z) 0 .none) Q E s
   exact C6 g (by simp) λh' e c=>f h' ⟨⟨_,_,e,.inl rfl⟩,a,b,c.extBut _ _ ne h⟩ c
  .exact AH stay
 unfold letOwnedTupleGo
 cases tg<;>first|exact d|exact AH stay
theorem aTE{TI TO:Az}(hz:ZN s.heap z TI TO)(h:Q (.ref z) s):wpAny (model prog w) A (pyIter (.ref z)) Q E s:=by
 have a:s.TypeIs (.ref z) "zip":=by obtain⟨⟨_,_,h,_⟩,_⟩:=hz;exact⟨_,h,rfl⟩
 refine wpAny_pyIter_slot a F.slot_zip_iter (EB F.slot_zip_iter a F.entry_zip_iter ?_ (F.args_zip_iter_1 _))
 show wpAny _ _ (ret (.ref z)) _ _ s
 exact AH ⟨_,rfl,"zip",_,a,HA.lookup,h⟩
end
def mY(v:V9)(o:Obj)(h:H9):Prop:=∀ (prog:P9) (w:W9) (A:U9) (E:V9->S9->Prop) (s:S9) (Q:V9->S9->Prop),s.heap=h->Q (.ref h.objs.size) {s with heap:=h.push o}->wpAny (model prog w) A (pyIter v) Q E s
noncomputable abbrev H2(h:H9)(o1 o2:Obj):H9:=(h.push o1).push o2
noncomputable abbrev H3(h:H9)(o1 o2:Obj):H9:=(H2 h o1 o2).push {cls:=.type "tuple",data:=.seq #[.ref h.objs.size,.ref (h.push o1).objs.size]}
noncomputable abbrev H4(h:H9)(o1 o2:Obj):H9:=(H3 h o1 o2).push {cls:=.type "tuple",data:=.seq #[.none,.none]}
noncomputable abbrev H5(h:H9)(o1 o2:Obj):H9:=(H4 h o1 o2).push {cls:=.type "zip",data:=.fields #[.none,.bool false,.bool false,.ref (H2 h o1 o2).objs.size,.ref (H3 h o1 o2).objs.size]}
theorem aIM(k f:V9)(a e:Obj) :
  Meets (Builtin.«zip.__new__» ⟨[.type "zip",k,f],[]⟩) (λ_ R s=>mY k a s.heap/\mY f e (s.heap.push a) /\
   R (.ok (.ret (.ref (H4 s.heap a e).objs.size))) {s with heap:=H5 s.heap a e}):=
 .of_wp λprog w A R s h=>by
  obtain⟨b,g,d,c,os⟩:=s;obtain⟨i,l,h⟩:=h
  have m:=sub_zip
  have n:∀ {A:U9} {E:V9->S9->Prop} {Q:V9->S9->Prop},Q (.ref b.objs.size) ⟨b.push a,g,d,c,os⟩->wpAny (model prog w) A (pyIter k) Q E ⟨b,g,d,c,os⟩:=λj=>i prog w _ _ ⟨b,g,d,c,os⟩ _ rfl j
  have p2:∀ {A:U9} {E:V9->S9->Prop} {Q:V9->S9->Prop},Q (.ref (b.push a).objs.size) ⟨(b.push a).push e,g,d,c,os⟩->wpAny (model prog w) A (pyIter f) Q E ⟨b.push a,g,d,c,os⟩:=λj=>l prog w _ _ ⟨b.push a,g,d,c,os⟩ _ rfl j
  wp_walk using n,p2
  exact⟨_,rfl,h⟩
section
variable{prog:P9}{w:W9}{A:U9}{E:V9->S9->Prop}{s:S9}
theorem aBQ{j d:V9}{a b:Obj}(h1:mY j a s.heap)(h2:mY d b (s.heap.push a))(f1:a.isFreed=false)(f2:b.isFreed=false)
  (h:∀ h',IsZip h' (s.heap.objs.size+4) (s.heap.objs.size+2) (s.heap.objs.size+3) .none->IsPair h' (s.heap.objs.size+2) (.ref s.heap.objs.size) (.ref (s.heap.objs.size+1))->
   IsPair h' (s.heap.objs.size+3) .none .none->h'.get? s.heap.objs.size=some a->h'.get? (s.heap.objs.size+1)=some b->h'.objs.size=s.heap.objs.size+5->
   (∀ c o,s.heap.get? c=some o->h'.get? c=some o)->Q (.ref (s.heap.objs.size+4)) {s with heap:=h'}) :
  wpAny (model prog w) A (call (.type "zip") [j,d]) Q E s:=by
 refine callType_new F.called_zip (by decide) (F.typeCall_zip_2 _ _) (F.newCall_zip_2 _ _) (λobj=>F.args_object_init_3 obj _ _) F.entry_zip_new
  (aIM j d a b) ⟨h1,h2,?_⟩
 have g:(s.heap.push a).objs.size=s.heap.objs.size+1:=BW ..
 have i:(H2 s.heap a b).objs.size=s.heap.objs.size+2:=by rw[BW,g]
 have k:(H3 s.heap a b).objs.size=s.heap.objs.size+3:=by rw[BW,i]
 have f:(H4 s.heap a b).objs.size=s.heap.objs.size+4:=by rw[BW,k]
 have q:(H5 s.heap a b).objs.size=s.heap.objs.size+5:=by rw[BW,f]
 have e:(H5 s.heap a b).get? (H4 s.heap a b).objs.size=some _:=A0 _ rfl
 have m:(H5 s.heap a b).get? (H3 s.heap a b).objs.size=some _:=AE _ (A0 _ rfl)
 have n:(H5 s.heap a b).get? (H2 s.heap a b).objs.size=some _:=AE _ (AE _ (A0 _ rfl))
 have l:(H5 s.heap a b).get? (s.heap.push a).objs.size=some b:=AE _ (AE _ (AE _ (A0 _ f2)))
 have p:(H5 s.heap a b).get? s.heap.objs.size=some a:=AE _ (AE _ (AE _ (AE _ (A0 _ f1))))
 show _/\_
 rw[i,k,f]at e
 rw[g,i]at n
 rw[k]at m
 rw[g]at l
 rw[f]
 exact⟨⟨_,e,rfl⟩,h _ e n m p l q λc o x=>
  AE _ (AE _ (AE _ (AE _ (AE _ x))))⟩
end
end Zp
variable{c:Nat}
namespace L2
variable{Z:St}{H:Hp}
abbrev Col:=Hp->L9 V->Prop
structure ColOk(P:Program)(w:World)(K:Frag)(C:Col)(it:Az)(tn:Nat->Heap->Prop):Prop where
 obj:∀ i h,tn i h->∃ o,h.get? it=some o/\∀ v,o.data≠.cell v
 keep:∀ i h h',tn i h->(∀ o,h.get? it=some o->h'.get? it=some o)->tn i h'
 one:∀ (X:Cx),X.prog=P->X.w=w->X.K=K->∀ a0 s Z H xs ys,Inv X a0 Z H s->C H xs->C H ys->xs=ys
 draw:∀ (X:Cx),X.prog=P->X.w=w->X.K=K->∀ (i:Nat) (a0:List (Az×Obj)) (s:S9) (Z:St) (H:Hp) (xs:List V) (A:Around),Inv X a0 Z H s->iC X a0 H it->tn i s.heap->C H xs->A.handled=none->
  ∃ fp Pv St,Draws P w A it fp xs.length Pv St/\St i s.heap/\(∀ j h,St j h->tn j h)/\(∀ j v,Pv j v->∃ x,xs[j]? = some x/\aP x v)/\∀ b,iC X a0 H b->b≠it->b∉fp
theorem aDY{X:Cx}(I:Inv X a0 Z H s)(f:iC X a0 H b)(e:X.base.get? a=some o):b≠a:=by
 obtain⟨_,_,_,d,_⟩:=f
 intro z
 rcases d with c|c
 .exact I.ok.noex a o e (z▸c)
 .have h:=AT e
  have g:=I.ok.bsz
  ext
theorem aIN{X:Cx}{xs:L9 V}(I:Inv X a0 Z H s)(c:iC X a0 H b)(h:SqL X.K H a xs):b≠a:=by
 rcases h with (h|⟨o,h⟩)|⟨o,vs,n,h,_⟩
 · intro z; rw [<- z, c.1]at h; cases h
 · intro z; rw [<- z, c.1]at h; cases h
 · exact aDY I c (I.ok.mod.kin _ _ h)
theorem aIO{X:Cx}{xs:L9 V}(I:Inv X a0 Z H s)(c:iC X a0 H b)(h:SqT X.K H a xs):b≠a:=by
 rcases h with (h|⟨o,h⟩)|⟨o,vs,n,h,_⟩
 · intro z; rw [<- z, c.1]at h; cases h
 · intro z; rw [<- z, c.1]at h; cases h
 · exact aDY I c (I.ok.mod.kin _ _ h)
theorem aLH{w:W9}(a it:Az):ColOk P w K (λH xs=>SqL K H a xs) it (λi h=>h.IsListIter it a i) where
 obj:=λi h ⟨o,e,c,d⟩=>⟨o,e,λv z=>by rw[d]at z;cases z⟩
 keep:=λi h h' st k=>st.at λo e=>k o e
 one:=by
  intro X x r n a0 s Z H xs ys I h1 h2
  subst n
  exact I.list_inj h1 h2
 draw:=by
  intro X x r n i a0 s Z H xs A I E st l C
  subst x r n
  obtain⟨f,g,p,J⟩:=I.list l
  have m:=aIN I E l
  refine⟨[it,a],(λi v=>f.toArray[i]? = some v),(λi h=>h.IsListIter it a i/\h.IsList a f.toArray),by rw[show xs.length=f.toArray.size by rw[g.length];simp];exact Draws.list C it a (BL m) f.toArray,⟨st,p.isList⟩,λj h z=>z.1,λj v e=>?_,λb G B D=>?_⟩
  .have q:f[j]? = some v:=by simpa using e
   have t:j < xs.length:=by rw[g.length];exact(AD.mp q).1
   obtain⟨u,y,F⟩:=g.get (AI t)
   rw[q]at y;cases y
   exact⟨_,AI t,F⟩
  .rcases AW.mp D with z|z
   · exact B z
   · exact aIN I G l (by simpa using z)
theorem aIP{w:W9}(a it:Az):ColOk P w K (λH xs=>SqT K H a xs) it (λi h=>h.IsTupleIter it a i) where
 obj:=λi h ⟨o,e,c,d⟩=>⟨o,e,λv z=>by rw[d]at z;cases z⟩
 keep:=λi h h' ⟨o,e,r⟩ k=>⟨o,k o e,r⟩
 one:=by
  intro X t q n a0 s Z H xs ys I h1 h2
  subst n
  exact I.tuple_inj h1 h2
 draw:=by
  intro X t q n i a0 s Z H xs A I B st l x
  subst t q n
  obtain⟨f,g,p,G⟩:=I.tuple l
  have m:=aIO I B l
  refine⟨[it,a],(λi v=>f.toArray[i]? = some v),(λi h=>h.IsTupleIter it a i/\h.IsTuple a f.toArray),by rw[show xs.length=f.toArray.size by rw[g.length];simp];exact Zp.aCZ x it a (BL m) f.toArray,⟨st,p⟩,λj h z=>z.1,λj v e=>?_,λb E F y=>?_⟩
  .have C:f[j]? = some v:=by simpa using e
   have D:j < xs.length:=by rw[g.length];exact(AD.mp C).1
   obtain⟨u,J,L⟩:=g.get (AI D)
   simp_all
  .rcases AW.mp y with z|z
   · ext
   · exact aIO I E l (by simpa using z)
noncomputable def uJ(z:Str):L9 V:=z.cps.toList.map λc=>V.str ⟨#[c]⟩
theorem aPN{w:W9}(z:Str)(t:Tok)(it:Az):ColOk P w K (λ_ xs=>xs=uJ z) it (λi h=>h.IsStrIter it (strIterType z) z t i) where
 obj:=λi h ⟨o,e,c,d⟩=>⟨o,e,λv z=>by rw[d]at z;cases z⟩
 keep:=λi h h' ⟨o,e,r⟩ k=>⟨o,k o e,r⟩
 one:=λ_ _ _ _ _ _ _ _ _ _ _ h1 h2=>h1.trans h2.symm
 draw:=by
  intro X q n p i a0 s Z H xs A I x st l a
  subst q n p l
  have m:Draws X.prog X.w A it [it] z.cps.size (λi v=>∃ c u,z.cps[i]? = some c/\v=.str ⟨#[c]⟩ u) (λi h=>h.IsStrIter it (strIterType z) z t i):=by
   unfold strIterType
   split
   · exact Draws.strAscii a it z t
   · exact Draws.strWide a it z t
  refine⟨[it],_,_,by rw[show(uJ z).length=z.cps.size by unfold uJ;simp];exact m,st,λj h z=>z,?_,λb y f g=>f (by simpa using g)⟩
  rintro j v ⟨c,u,hc,rfl⟩
  exact⟨.str ⟨#[c]⟩,by unfold uJ;rw[AC,D9,hc];rfl,u,rfl⟩
def Itz(C1 C2:Col):It:=
 ⟨λi H=>∃ xs ys,C1 H xs/\C2 H ys/\i < xs.length/\i < ys.length,λi H x H'=>∃ p u v,H p=none/\x=.ref p/\H'=upd H p (.tup [u,v])/\(∀ xs,C1 H xs->xs[i]? = some u)/\∀ ys,C2 H ys->ys[i]? = some v,
  λi H=>∃ xs ys,C1 H xs/\C2 H ys/\(i=xs.length\/(i < xs.length/\i=ys.length))⟩
theorem aBR{w:W9}{q B:Col}{TI TO:Az}{p m:Nat->H9->Prop}{X:Cx}{xs ys:L9 V}(C:ColOk P w K q i1 p)(r:ColOk P w K B i2 m)(hd:[z,TI,TO,i1,i2].Nodup)(E:X.prog=P)(hw:X.w=w)(D:X.K=K)(W:X.calm=true)(I:Inv X a0 Z H s)(d:∀ b∈[z,TI,TO,i1,i2],iC X a0 H b)
  (st:Zp.ZN s.heap z TI TO/\IsPair s.heap TI (.ref i1) (.ref i2)/\p i s.heap/\m i s.heap) (Y:q H xs) (q2:B H ys) :
  (∀ c∈[z,TI,TO,i1,i2],c < s.heap.objs.size)/\∃ f1 P1 S1 f2 P2 S2,Draws P w X.A.in1 i1 f1 xs.length P1 S1/\Draws P w X.A.in1 i2 f2 ys.length P2 S2/\S1 i s.heap/\(∀ j h,S1 j h->p j h)/\(∀ j v,P1 j v->∃ x,xs[j]? = some x/\aP x v)/\S2 i s.heap/\(∀ j h,S2 j h->m j h)/\(∀ j v,P2 j v->∃ x,ys[j]? = some x/\aP x v)/\Zp.Apart z TI TO i1 i2 f1 f2:=by
 obtain⟨⟨⟨_,_,s1,_⟩,a,b,L⟩,s2,t,u⟩:=st
 simp only[DL,AW,DD,FT,not_or,D8,and_true,not_false_eq_true]at hd
 obtain⟨⟨d1,d2,F,G⟩,⟨N,d6,O⟩,⟨J,y⟩,f⟩:=hd
 have g:X.A.in1.handled=none:=I.ok.hd W
 obtain⟨f1,P1,S1,S,U,M,T,n⟩:=C.draw X E hw D i a0 s Z H xs X.A.in1 I (d i1 (by simp)) t Y g
 obtain⟨f2,P2,S2,D2,Q,R,b3,l⟩:=r.draw X E hw D i a0 s Z H ys X.A.in1 I (d i2 (by simp)) u q2 g
 refine⟨λc k=>?_,f1,P1,S1,f2,P2,S2,S,D2,U,M,T,Q,R,b3,BL d1,BL d2,BL F,BL G,N,d6,O,J,y,f,n z (d z (by simp)) F,l z (d z (by simp)) G,n TO (d TO (by simp)) J,l TO (d TO (by simp)) y,l i1 (d i1 (by simp)) f,n i2 (d i2 (by simp)) (BL f)⟩
 simp only[AW,DD,FT]at k
 rcases k with rfl|rfl|rfl|rfl|rfl
 .exact AT s1
 .exact AT s2
 .exact AT L
 .obtain ⟨o,e,_⟩:=C.obj _ _ t;exact AT e
 .obtain ⟨o,e,_⟩:=r.obj _ _ u;exact AT e
theorem aLI{w:W9}{C1 C2:Col}{TI TO:Az}{t1 t2:Nat->H9->Prop}(M:ColOk P w K C1 i1 t1)(N:ColOk P w K C2 i2 t2)(hd:[z,TI,TO,i1,i2].Nodup) :
  Turn P w K tg (Itz C1 C2) [z,TI,TO,i1,i2] z (λi h=>Zp.ZN h z TI TO/\IsPair h TI (.ref i1) (.ref i2)/\t1 i h/\t2 i h) where
 mem:=by simp
 obj:=λi h ad c O=>by
  obtain⟨⟨⟨_,_,s1,_⟩,a,b,s3⟩,s2,s4,s5⟩:=ad
  simp only[AW,DD,FT]at O
  rcases O with rfl|rfl|rfl|rfl|rfl
  .exact ⟨_,s1,λv z=>by have z':Data.fields _=Data.cell v:=z;cases z'⟩
  .grind
  .grind
  .exact M.obj i h s4
  .exact N.obj i h s5
 keep:=λi h h' ⟨⟨⟨f,g,s1,r⟩,a,b,s3⟩,s2,s4,s5⟩ k=>⟨⟨⟨f,g,k z (by simp) _ s1,r⟩,a,b,k TO (by simp) _ s3⟩,k TI (by simp) _ s2,M.keep i h h' s4 λo e=>k i1 (by simp) o e,N.keep i h h' s5 λo e=>k i2 (by simp) o e⟩
 item:=by
  intro X L B F O i a0 s Z H E I t st hg
  obtain⟨xs,ys,V,U,l1,l2⟩:=hg
  obtain⟨D,f1,P1,S1,f2,P2,S2,D1,D2,a1,a2,a3,b1,b2,b3,p⟩:=aBR M N hd L B F O I t st V U
  have Q:=λzs (h:C1 H zs)=>M.one X L B F a0 s Z H zs xs I h V
  have R:=λzs (h:C2 H zs)=>N.one X L B F a0 s Z H zs ys I h U
  subst L B F
  refine Zp.sT p D1 D2 st.1 st.2.1 a1 b1 (B7 l1) (λ_=>B7 l2) (λ_ _ x y h' tk n=>?_) λq=>by ext
  obtain⟨u,hu,ru⟩:=a3 i x n.p1
  obtain⟨v,hv,rv⟩:=b3 i y n.p2
  refine⟨_,rfl,Zp.aTD n.zn p.TOz λh2 zn S=>?_⟩
  have ae:s.heap.objs.size≠z:=CJ (D z (by simp))
  have fT:H s.heap.objs.size=none:=I.hok.fresh (AQ _)
  have j:∀ c o,c∉[z,TI,TO,i1,i2]->s.heap.get? c=some o->h2.get? c=some o:=λc o d q=>by
   simp only[AW,DD,FT,not_or]at d
   exact(S.2 c d.1).trans (n.kp c o d.1 d.2.2.1 d.2.2.2.1 d.2.2.2.2 q)
  have ac:∀ c l,H c=some l->c∉[z,TI,TO,i1,i2]:=λc l q C=>by rw[(t c C).1]at q;cases q
  have T:HOk X.prog X.w H h2:=λc l q=>by
   refine(I.hok c l q).stay (λY v' d q'=>j Y v' ?_ q') (λ_ q=>q) (λ_ _ q=>q) λ_ _ q=>q
   ext
  have J:∀ c l,H c=some l->c≠s.heap.objs.size:=λc l q=>aV q fT
  refine⟨.ref s.heap.objs.size,upd H s.heap.objs.size (.tup [u,v]),?_,rfl,⟨_,u,v,fT,rfl,rfl,λzs G=>by rw[Q zs G];exact hu,λzs G=>by rw[R zs G];exact hv⟩,⟨zn,(S.2 TI p.TIz).trans (n.kp TI _ p.TIz p.TITO p.TIi1 p.TIi2 st.2.1),M.keep _ _ _ (a2 _ _ n.s1) λo e=>(S.2 i1 p.i1z).trans e,N.keep _ _ _ (b2 _ _ n.s2) λo e=>(S.2 i2 p.i2z).trans e⟩,λc d=>by rw[aF (BD (D c d))];exact(t c d).1⟩
  show Inv X a0 Z _ {s with heap:=h2,gens:=s.gens,drawn:=s.drawn,toks:=tk}
  refine I.step (ch:=[z,TI,TO,i1,i2]) (λc d=>?_) (λc o _ _ d q _=>j c o d q) (λc o _ _ d q _=>⟨o.slots,j c o d q⟩)
   (λc o _ q n=>by rw[aF (BD (AT q))];exact n) (λc o d q=>⟨o,j c o d q⟩) (λc ys q=>by rw[aF (J c _ q)];exact q) (λc o l q=>by rw[aF (J c _ q)];exact q)
   (λc ps q=>by rw[aF (J c _ q)];exact q) (λm W=>?_) (HOk.track T fT ⟨by show 2<=sizeLine;decide,[x,y],.cons ru (.cons rv .nil),⟨_,(S.2 _ ae).trans n.pr,⟨rfl,rfl⟩,_,rfl⟩⟩) I.bare
  .obtain ⟨e0,e1,e2,e3,e4,e5⟩:=t c d
   ext
  .obtain ⟨o,A,ep,ho,r⟩:=W
   exact⟨o,A,ep,j _ o (λC=>(t _ C).2.1 rfl) ho,r⟩
 done:=by
  intro X L B F O i a0 s Z H E I t st hg
  obtain⟨xs,ys,V,U,af⟩:=hg
  obtain⟨D,f1,P1,S1,f2,P2,S2,D1,D2,a1,a2,a3,b1,b2,b3,p⟩:=aBR M N hd L B F O I t st V U
  subst L B F
  refine Zp.sT p D1 D2 st.1 st.2.1 a1 b1 (by ext) (λ_=>by ext) (λ_ _=>by ext) λ_ h' tk kp=>⟨rfl,?_⟩
  have j:∀ c o,c∉[z,TI,TO,i1,i2]->s.heap.get? c=some o->h'.get? c=some o:=λc o d q=>by
   ext
  have ac:∀ c l,H c=some l->c∉[z,TI,TO,i1,i2]:=λc l q C=>by rw[(t c C).1]at q;cases q
  refine I.step (g':=s.gens) (d':=s.drawn) (ch:=[z,TI,TO,i1,i2]) (λc d=>?_) (λc o _ _ d q _=>j c o d q) (λc o _ _ d q _=>⟨o.slots,j c o d q⟩) (λ_ _ _ _ n=>n) (λc o d q=>⟨o,j c o d q⟩) (λ_ _ q=>q) (λ_ _ _ q=>q) (λ_ _ q=>q) (λm W=>?_) (λc l q=>?_) I.bare
  .obtain ⟨e0,e1,e2,e3,e4,e5⟩:=t c d
   ext
  .obtain ⟨o,A,ep,ho,r⟩:=W
   exact⟨o,A,ep,j _ o (λC=>(t _ C).2.1 rfl) ho,r⟩
  .refine (I.hok c l q).stay (λY v' d q'=>j Y v' ?_ q') (λ_ q=>q) (λ_ _ q=>q) λ_ _ q=>q
   ext
 self:=λ_ _ _ _ _ st h=>Zp.aTE st.1 h
def rA(K:Frag)(H:Hp)(x:V)(C:Col):Prop:=
 (∃ a xs,x=.ref a/\SqL K H a xs/\C=λH xs=>SqL K H a xs)\/(∃ a xs,x=.ref a/\SqT K H a xs/\C=λH xs=>SqT K H a xs)\/∃ z,x=.str z/\C=λ_ xs=>xs=uJ z
theorem mZ{X:Cx}{x:V}{C:Col}(I:Inv X a0 Z H s)(r:aP x u)(h:rA X.K H x C) :
  ∃ (o:Obj) (tn:Az->Nat->H9->Prop),(∀ h':H9,(∀ b ob,s.heap.get? b=some ob->h'.get? b=some ob)->Zp.mY u o h')/\o.isFreed=false/\(∀ it,ColOk X.prog X.w X.K C it (tn it))/\∀ it h',h'.get? it=some o->tn it 0 h':=by
 rcases h with ⟨a,xs,rfl,f,rfl⟩|⟨a,xs,rfl,f,rfl⟩|⟨z,rfl,rfl⟩
 .cases r
  obtain⟨c,j,p,g⟩:=I.list f
  refine⟨{cls:=.type "list_iterator",data:=.fields #[.ref a,.int 0 0]},λit i h=>h.IsListIter it a i,λh' d prog w A E s' Q e q=>?_,rfl,λit=>aLH a it,λit h' e=>⟨_,e,rfl,rfl⟩⟩
  subst e
  refine wpAny_pyIter_list (l:=a) (items:=c.toArray) ?_ q
  obtain⟨o,e,r⟩:=p.isList
  exact⟨o,d _ _ e,r⟩
 .cases r
  obtain⟨c,j,p,g⟩:=I.tuple f
  refine⟨{cls:=.type "tuple_iterator",data:=.fields #[.ref a,.int 0 0]},λit i h=>h.IsTupleIter it a i,λh' d prog w A E s' Q e q=>?_,rfl,λit=>aIP a it,λit h' e=>⟨_,e,rfl,rfl⟩⟩
  subst e
  refine wpAny_pyIter_tuple (t:=a) (items:=c.toArray) ?_ q
  obtain⟨o,e,r⟩:=p
  exact⟨o,d _ _ e,r⟩
 .obtain ⟨t,rfl⟩:=r
  refine⟨{cls:=.type (strIterType z),data:=.fields #[.str z t,.int 0 0]},λit i h=>h.IsStrIter it (strIterType z) z t i,λh' d prog w A E s' Q e q=>?_,rfl,λit=>aPN z t it,λit h' e=>⟨_,e,rfl,rfl⟩⟩
  subst e
  exact wpAny_pyIter_strU q
def aLJ(K:Frag)(ta:TA):TI:=λZ H R=>ta Z H λvs H1=>∃ x y C1 C2,vs=[x,y]/\rA K H1 x C1/\rA K H1 y C2/\R (Itz C1 C2) H1
theorem aIQ{X:Cx}{a b:E2}{ta:TA}{pos:Pos}(n:Gl X "zip")(k:X.mg "zip"=none)(l:PA X [a,b] ta)(E:starEach [a,b] X.env=[(false,eval a X.env),(false,eval b X.env)]:=by rfl)(hs2:starEach [b] X.env=[(false,eval b X.env)]:=by rfl) :
  PI X tg (.Call (.Name "zip" p) [a,b] [] pos) (aLJ X.K ta):=by
 intro a0 s Z H R I h
 refine Call_ (lJ I n k HG (CM (thn (l pos a0 s Z H _ I h) λus s1 ⟨vs,H1,f,r1,B⟩=>?_) (by rw[E,hs2]) (by rw[hs2];rfl)))
 obtain⟨x,y,N,U,rfl,D,r,q⟩:=B
 cases r1 with
 | cons ru rr=>
  cases rr with
  | cons rv rr=>
   cases rr
   rename_i L _ O
   obtain⟨S,Q,A,j,z,J⟩:=mZ f ru D
   obtain⟨M,P,u,v,G,i⟩:=mZ f rv r
   refine Zp.aBQ (A _ λ_ _ e=>e) (u _ λ_ _ e=>AE _ e) j v λh' g t F w o V m=>?_
   have C:Inv X a0 Z H1 {s1 with heap:=h'}:=f.kept (t':=s1.toks) m
   refine wpAny_pyIter_zip g ?_
   refine⟨s1.heap.objs.size+4,[s1.heap.objs.size+4,s1.heap.objs.size+2,s1.heap.objs.size+3,s1.heap.objs.size,s1.heap.objs.size+1],_,_,H1,rfl,C,aLI (z _) (G _) ?_,⟨⟨⟨_,_,g,.inl rfl⟩,_,_,F⟩,t,J _ _ w,i _ _ o⟩,λc T=>?_,q⟩
   .grind
   .have d:s1.heap.objs.size<=c:=by
     ext
    exact f.fpOk d (f.hok.fresh d)
end L2
variable{z:Str}
namespace Fl
variable{F B:Hp}
noncomputable def aF1(p:Dz×Dz):Dz:=.tuple [p.1,p.2]
noncomputable def f9(x y:Dz):R (L9 Dz):=(aH x).bind λxs=>(aH y).bind λys=>.ok ((xs.zip ys).map aF1)
theorem kG{d:Dz}(h:aH d=.ok xs):xs.length<=16777216:=by
 unfold aH at h
 ext
theorem gH{d:Dz}{e:Er}:aH d≠.ex e:=by
 intro h
 unfold aH at h
 ext
theorem uK:∀ (cs:L9 Nat),DatVs K F (cs.map λc=>V.str ⟨#[c]⟩) (cs.map λc=>PyData.str ⟨#[c]⟩)
 | []=>.nil
 | c::t=>.cons (.str _) (uK t)
theorem oM{v:V}{d:Dz}(s:aD F B)(r:aK K F B v d)(h:aH d=.ok xs):∃ C vs,rA K B v C/\(∀ H1,aD B H1->C H1 vs)/\DatVs K F vs xs:=by
 unfold aH at h
 split at h
 .split at h
  .cases h
   obtain⟨p,vs,rfl,h1,h2⟩:=aK.lst_of s r
   exact⟨_,vs,.inl ⟨p,vs,rfl,h1,rfl⟩,λH1 q=>h1.same q,h2⟩
  .cases h
 .split at h
  .cases h
   obtain⟨p,vs,rfl,h1,_,h2⟩:=aK.tup_of s r
   exact⟨_,vs,.inr (.inl ⟨p,vs,rfl,h1.same s,rfl⟩),λH1 q=>(h1.same s).same q,h2⟩
  .cases h
 .rename_i z
  split at h
  .cases h
   obtain rfl:=aK.str_of r
   exact⟨_,uJ z,.inr (.inr ⟨z,rfl,rfl⟩),λ_ _=>rfl,uK _⟩
  .cases h
 .cases h
theorem uL{v:V}{d:Dz}(s:aD F B)(r:DatV K F v d)(h:aH d=.ok xs):∃ C vs,rA K B v C/\(∀ H1,aD F H1->C H1 vs)/\DatVs K F vs xs:=by
 unfold aH at h
 split at h
 .split at h
  .cases h
   obtain⟨p,vs,rfl,h1,h2⟩:=DatV.lst_of r
   exact⟨_,vs,.inl ⟨p,vs,rfl,h1.same s,rfl⟩,λH1 q=>h1.same q,h2⟩
  .cases h
 .split at h
  .cases h
   obtain⟨p,vs,rfl,h1,h2⟩:=DatV.tup_of r
   exact⟨_,vs,.inr (.inl ⟨p,vs,rfl,h1.same s,rfl⟩),λH1 q=>h1.same q,h2⟩
  .cases h
 .rename_i z
  split at h
  .cases h
   obtain rfl:=DatV.str_of r
   exact⟨_,uJ z,.inr (.inr ⟨z,rfl,rfl⟩),λ_ _=>rfl,uK _⟩
  .cases h
 .cases h
theorem aDZ:∀ {xs:L9 α} {ys:L9 β} {i:Nat} {x:α} {y:β},xs[i]? = some x->ys[i]? = some y->(xs.zip ys)[i]? = some (x,y)
 | [],_,_,_,_,h,_=>by simp at h
 | _::_,[],_,_,_,_,h=>by simp at h
 | x::xs,y::ys,0,_,_,h1,h2=>by simp at h1 h2;subst h1 h2;rfl
 | x::xs,y::ys,i+1,_,_,h1,h2=>by
  show(xs.zip ys)[i]? = _
  exact aDZ (by simpa using h1) (by simpa using h2)
theorem aD0{j k:Col}{us vs:L9 V}{ys:L9 Dz}(hz:xs.length<=16777216)(h1:∀ H1,aD F H1->aD B H1->j H1 us)(h2:∀ H1,aD F H1->aD B H1->k H1 vs)(f:DatVs K F us xs)(d2:DatVs K F vs ys) :
  Yld K (Itz j k) F B ((xs.zip ys).map aF1) where
 len:=by rw[cO,AA,EK];ext
 go:=λi l H1 d c a hi=>by
  rw[AA,EK]at hi
  have b:aD F H1:=λx o z=>c x o (d x o z)
  exact⟨us,vs,h1 H1 b a,h2 H1 b a,by rw[f.length];ext,by rw[d2.length];ext⟩
 yld:=λi l H1 v H2 x d c a y e=>by
  obtain⟨p,u,w,h,rfl,rfl,n,m⟩:=y
  have b:aD F H1:=λx o z=>c x o (d x o z)
  obtain⟨dx,e1,r1⟩:=f.get (n us (h1 H1 b a))
  obtain⟨q,e2,r2⟩:=d2.get (m vs (h2 H1 b a))
  rw[AC,aDZ e1 e2]at e
  cases e
  have g:=aD.upd (o:=.tup [u,w]) (aU c h)
  exact⟨_,Ext.new c h,.tup (SqT.of aN) (.cons ((r1.same d).same g) (.cons ((r2.same d).same g) .nil))⟩
 stop:=λl H1 d c a=>by
  have b:aD F H1:=λx o z=>c x o (d x o z)
  refine⟨us,vs,h1 H1 b a,h2 H1 b a,?_⟩
  rw[AA,EK,f.length,d2.length]
  ext
section
variable{X:Cx}{c:Ct}{E:XK}{tg e:E2}
theorem aPO{f g:Sg->R Dz}(o:X.K=c.K)(h:PI X tg e (aLJ X.K (cN (tV (bO c) c E f) (cN (tV (bO c) c E g) fY)))):PI0 X c E tg e (λY=>(f Y).bind λx=>(g Y).bind λy=>f9 x y):=PI.imp h λZ H Q b=>by
 obtain⟨Y,F,ab,k⟩:=b
 refine⟨Y,F,ab,(Rk.bind k).imp λx _ q v t H1 s1 r1=>⟨Y,t,ab.ext s1,((Rk.bind q).ext s1).imp λy _ q w d H' s r=>?_⟩⟩
 unfold f9 at q
 cases e1:aH x with
 | bad=>rw[e1]at q;exact q.elim
 | ex e=>exact absurd e1 gH
 | ok xs=>
  rw[e1]at q
  cases e2:aH y with
  | bad=>rw[R.bind_ok,e2]at q;exact q.elim
  | ex e=>exact absurd e2 gH
  | ok ys=>
   rw[R.bind_ok,e2]at q
   have a:DatV c.K d v x:=DatV.same s.ff r1
   obtain⟨n,us,m,j,l⟩:=uL s.fh a e1
   obtain⟨p,vs,u,i,A⟩:=uL s.fh r e2
   rw[o]
   exact⟨v,w,n,p,rfl,m,u,Rk.ok q _ d H' (s1.trans s) (aD0 (kG e1) (λH1 z _=>j H1 z) (λH1 z _=>i H1 z) l A)⟩
theorem aPP{f g:Sg->R Dz}(o:X.K=c.K)(h:PI X tg e (aLJ X.K (cN (tV (aS c) c E f) (cN (tV (aS c) c E g) fY)))):PIf X c E tg e (λY=>(f Y).bind λx=>(g Y).bind λy=>f9 x y):=PI.imp h λZ H Q b=>by
 obtain⟨Y,F,ab,k⟩:=b
 refine⟨Y,F,ab,(Rk.bind k).imp λx _ q v t H1 s1 r1=>⟨Y,t,ab.ext s1,((Rk.bind q).ext s1).imp λy _ q w d H' s r=>?_⟩⟩
 unfold f9 at q
 cases e1:aH x with
 | bad=>rw[e1]at q;exact q.elim
 | ex e=>exact absurd e1 gH
 | ok xs=>
  rw[e1]at q
  cases e2:aH y with
  | bad=>rw[R.bind_ok,e2]at q;exact q.elim
  | ex e=>exact absurd e2 gH
  | ok ys=>
   rw[R.bind_ok,e2]at q
   have a:aK c.K d H' v x:=aK.ext s r1
   obtain⟨n,us,m,j,l⟩:=oM s.fh a e1
   obtain⟨p,vs,u,i,A⟩:=oM s.fh r e2
   rw[o]
   exact⟨v,w,n,p,rfl,m,u,Rk.ok q _ H' d H' (s1.trans s) (a9 _) (aD0 (kG e1) (λH1 _ z=>j H1 z) (λH1 _ z=>i H1 z) l A)⟩
end
end Fl
variable{y:V9}
namespace L2
variable{key:V9}
section
variable{K:Type}[DecidableEq K]{prog:P9}{w:W9}{knd:KeyKind prog w K}{A:U9}{E:V9->S9->Prop}{s:S9}
theorem oN{ce:L9 (K×V9)}{k:K}(h:valueAt ce k=none):k∉ce.map (·.1):=λq=>by
 obtain⟨kv,a,e⟩:=AN.mp q
 unfold valueAt at h
 have h:=Option.map_eq_none_iff.mp h
 ext
theorem aLK{d:Az}{ce:L9 (K×V9)}{k:K}(c:knd.is k key=true)(i:s.heap.DictOf knd d ce)
  (h1:∀ v,valueAt ce k=some v->Q v {s with toks:=s.toks+1})
  (h2:valueAt ce k=none->∀ h',h'.DictOf knd d (ce++[(k,y)])->Heap.SameBut d s.heap h'->Q y {s with heap:=h',toks:=s.toks+1})
  (hsz:ce.length<=sizeLine):wpAny (model prog w) A (dictSetDefault d key y) Q E s:=by
 have hz:s.heap.DictLe d sizeLine:=λo es n g f=>by
  obtain⟨o',p,x,a,_,b,_,h,_⟩:=i
  rw[g]at a;cases a
  rw[f]at b;cases b
  have e1:=h.length
  ext
 cases e:valueAt ce k with
 | some v=>exact wpAny_dictSetDefault_of (hz:=hz) c i.mapOf (λu z=>h1 u z) λj=>by rw[e]at j;cases j
 | none=>
  have t:=oN e
  obtain⟨o,es,n,g,r,f,m,h,j⟩:=i
  have hi:(es.findIdx? λe=>knd.is k e.key)=none:=by
   have q:(es.findIdx? λe=>knd.is k e.key)=ce.findIdx? λkv=>decide (kv.1=k):=by rw[<-h.findIdx k];obtain⟨l⟩:=es;simp
   ext
  unfold dictSetDefault
  try with_reducible refine CT ?_
  refine AB (knd.pyHash c (AB (wpAny_dictFind_of (s:={s with toks:=s.toks+1}) c g f m ?_)))
  rw[hi]
  have B:=hz _ _ _ g f
  refine AB (ES (AB (wpAny_updateDictKeys (hz:=B) (s:={s with toks:=s.toks+1}) g f (AH (h2 e _ ⟨_,_,n+1,BN _ g (Obj.isFreed_of_dict (EE f _)),r.mapDictKeys _,EE f _,m.push c _,?_,?_⟩ (CH ..))))))
  .have q:=h.append c (knd.hash k) y
   ext
  .grind
end
section
variable{K:Type}[DecidableEq K]{prog:P9}{w:W9}{knd:HeapKind prog w K}{A:U9}{E:V9->S9->Prop}{s:S9}
theorem aPQ{d:Az}{xs:L9 (K×Az×V9)}{k:K}(B:knd.room A)(b:knd.is s.heap k a)(C:s.heap.DictOfH knd d xs)
  (h1:∀ p,atKey xs k=some p->Q p.2 {s with toks:=s.toks+knd.draws k})
  (h2:atKey xs k=none->∀ h',h'.DictOfH knd d (storedH xs k a y)->Heap.SameBut d s.heap h'->Q y {s with heap:=h',toks:=s.toks+knd.draws k})
  (hsz:xs.length<=sizeLine):wpAny (model prog w) A (dictSetDefault d (.ref a) y) Q E s:=by
 obtain⟨o,es,F,g,D,c,n,h,u⟩:=C
 unfold dictSetDefault
 try with_reducible refine CT ?_
 refine AB (knd.pyHash B b (AB (wpAny_dictFind_heap (s:={s with toks:=s.toks+knd.draws k}) B b g c n h u (λi=>?_) (λj p v=>?_))))
 .have m:k∉xs.map (·.1):=not_mem_keys_of_get i
  have l:=atKey_none_of_get i
  have h2:=h2 l
  rw[storedH_new l]at h2
  have r:es.size<=sizeLine:=by have e:=size_of_entries n;ext
  refine AB (ES (AB (wpAny_updateDictKeys (hz:=r) (s:={s with toks:=s.toks+knd.draws k}) g c (AH (h2 _ ⟨_,_,F+1,BN _ g (Obj.isFreed_of_dict (EE c _)),D.mapDictKeys _,EE c _,by simp[n,entryOfKey],λx f=>?_,?_⟩ (CH ..))))))
  .rcases A7.mp f with f|f
   · exact knd.keeps (h x f) g c (CH ..)
   · rw [AK.mp f]; exact knd.keeps b g c (CH ..)
  .rw[A8,DA]
   refine⟨u,by simp,λx f z t=>?_⟩
   rw[show z=k by simpa using t]
   exact λq=>m (q▸f)
 .refine AB (wpAny_dictEntries (s:={s with toks:=s.toks+knd.draws k}) g c ?_)
  rw[entry_at n j,v]
  exact AB (ES (AH (h1 p (atKey_of_get u v))))
end
theorem aBS{w:W9}{d:Az}(c:(d == sysModules)=false) :
  MeetsIn prog w (Builtin.«dict.setdefault» ⟨[.ref d,key,y],[]⟩) (λA R s=>s.TypeIs (.ref d) "dict"/\wpAny (model prog w) A.in1 (dictSetDefault d key y) (λv s'=>R (.ok (.ret v)) s') (λe s'=>R (.error e) s') s):=
 .of_wp λA R s a=>by
  obtain⟨b,h⟩:=a
  unfold Builtin.«dict.setdefault»
  refine AB ?_
  unfold Builtin.Dict.keyAndDefault
  refine AB (wpAny_notOrdered_dict b ?_)
  show wpAny _ _ (pure (d,key,some y)) _ _ s
  refine AH ?_
  show wpAny _ _ (if (d == sysModules)=true then _ else(dictSetDefault d key y >>= _)) _ _ s
  rw[AM (by rw[c];exact BM)]
  exact AB (BO h (λv s' q=>AH ⟨v,rfl,q⟩) λ_ _ q=>q)
end L2
variable{y:Dz}
namespace Fl
def aTF(X:Cx):V->L9 V->Hp->VK->Prop:=λx xs H Q=>∃ p es k kv y,x=.ref p/\xs=[kv,y]/\DicAt X H p es k kv/\es.length<=sizeLine/\(∀ v,atE es k=some v->Q v H)/\(atE es k=none->∀ ep,Q y (upd H p (dA X.w p (mQ es k kv y) ep)))
section
variable{X:Cx}{c:Ct}{E:XK}{e a b:E2}{st:Stmt}{pos:Pos}
theorem aIR(T:X.A.units+64 < cLine):MtR X "dict.setdefault" (aTF X):=by
 intro a0 s Z H x xs v us Q I S P h
 obtain⟨p,es,k,kv,y,rfl,rfl,D,L,O,N⟩:=h
 cases(show v=Value.ref p from S)
 cases P with
 | @cons _ ku _ us r1 t=>
  cases t with
  | @cons _ yu _ us r2 t=>
   cases t
   have c:s.TypeIs (.ref p) "dict":=by
    obtain⟨ep,j⟩:=D.o
    obtain⟨⟨_,o,n,h1,h2,_⟩,_,_⟩:=(show bI X.prog X.w H s.heap p (dA X.w p es ep)from I.hok p _ j)
    exact⟨o,h1,h2.1⟩
   obtain⟨m,⟨b,xs,rfl,rfl,d,r,dd⟩|⟨g,xs,rfl,rfl,d,r,dd⟩⟩:=D.cases I r1
   .have F:xs.length<=sizeLine:=by rw[<-Paired.length d];exact L
    have a:=oG (k:=k) d
    refine call_meetsIn DE c FI (FB _ _ _) (aBS m) ⟨c,aPQ (lN T) r dd (λU G=>?_) (λG h' f K=>?_) F⟩
    .rw[G]at a
     cases e:atE es k with
     | none=>rw[e]at a;cases a
     | some z=>
      rw[e]at a
      exact⟨_,H,I.tok _,a,O z e⟩
    .rw[G]at a
     have e:atE es k=none:=by
      cases e:atE es k with
      | none=>rfl
      | some z=>rw[e]at a;cases a
     obtain⟨l,n,ep,i,h2,B,E,_,M⟩:=f
     obtain⟨u,j⟩:=D.o
     refine⟨y,_,mC I (by rw[j];exact True.intro) K ⟨l,i⟩ (j2 (ep:=ep) m ⟨l,n,i,h2,B,?_⟩),r2,N e ep⟩
     rw[E]
     exact pE (aFM r2 d)
   .have F:xs.length<=sizeLine:=by rw[<-Paired.length d];exact L
    have a:=oH (k:=g) d
    refine call_meetsIn DE c FI (FB _ _ _) (aBS m) ⟨c,aLK r dd (λv q=>?_) (λq h' f K=>?_) F⟩
    .rw[q]at a
     cases e:atE es (iI g)with
     | none=>rw[e]at a;cases a
     | some z=>
      rw[e]at a
      exact⟨_,H,I.tok _,a,O z e⟩
    .rw[q]at a
     have e:atE es (iI g)=none:=by
      cases e:atE es (iI g)with
      | none=>rfl
      | some z=>rw[e]at a;cases a
     have pv:=aFN (k:=g) r2 d
     have J:stored xs g yu=xs++[(g,yu)]:=by
      unfold stored
      rw[AM]
      intro z
      obtain⟨kv,h1,h2⟩:=GW.mp z
      exact oN q (AN.mpr ⟨kv,h1,BH h2⟩)
     rw[J]at pv
     obtain⟨l,n,ep,i,h2,B,E,M,_⟩:=f
     obtain⟨u,j⟩:=D.o
     refine⟨y,_,mC I (by rw[j];exact True.intro) K ⟨l,i⟩ (j2 (ep:=ep) m ⟨l,n,i,h2,B,?_⟩),r2,N e ep⟩
     exact pF pv M λR C=>E R (by simpa using C)
def pQ(i:Nat)(f g:Sg->R Dz):Sg->R Fw:=λY=>match Y[i]? with
 | some (some (.m ce))=>(f Y).bind λk=>(g Y).bind λy=>if a7 k (ce.map (·.1))=true/\ce.length<=16777216 then .ok (.nx (if bC ce k=true then Y else Y.set i (some (.m (putM ce k y)))))else .bad
 | _=>.bad
theorem aD1{f g:Sg->R Dz}(P:X.K=c.K)(hW:X.w=c.w)(h:PS X st (vG (aS5 X "dict" (aTF X) (jA i) (cN (tV (bO c) c E f) (cN (tV (bO c) c E g) fY))))):PSf X c E st (pQ i f g):=PS.imp h λD Z H ⟨Y,F,ab,k⟩=>by
 unfold pQ at k
 split at k
 .rename_i ce hi
  obtain⟨_,x,p,es,rfl,⟨J,B⟩,_⟩:=ab.slot i _ hi
  refine⟨_,x,λa0 s v I r=>?_,Y,F,ab,(Rk.bind k).imp λd _ q v Q H1 s1 r1=>?_⟩
  .cases (show v=Value.ref p from r)
   rw[<-hW]at B
   obtain⟨⟨_,o,S,h1,h2,_⟩,_,_⟩:=(show bI X.prog X.w H s.heap p (dA X.w p es J)from I.hok p _ B)
   exact⟨⟨o,h1,h2.1⟩,λa z=>by cases z;exact⟨o,h1,h2.2.1⟩⟩
  .refine ⟨Y,Q,ab.ext s1,((Rk.bind q).ext s1).imp λy _ q u C H2 A r2=>?_⟩
   split at q
   .rename_i L
    have b:=s1.trans A
    have e:=ab.ext b
    obtain⟨T,j,l,M,m⟩:=z8 P hW e hi (DatV.same A.ff r1) L.1
    rw[x]at l
    cases l
    have G:=x5 (k:=d) m.k1 m.vs
    refine⟨p,j,d,v,u,rfl,rfl,M,?_,λz N=>?_,λN=>?_⟩
    .have:j.length=ce.length:=by have:=DB length m.k1;simpa using this
     rw[this,cO];exact L.2
    .have t:bC ce d=true:=by
      rcases G with ⟨O,_⟩|⟨_,_,_,n,_⟩
      · simp_all
      · unfold bC; rw [n]; rfl
     rw[AJ t]at q
     exact Rk.ok q Z C _ b.ff e
    .have t:¬ bC ce d=true:=by
      rcases G with ⟨_,n⟩|⟨_,_,O,_,_⟩
      · unfold bC; rw [n]; intro z; cases z
      · simp_all
     rw[AM t]at q
     intro J
     rw[hW]
     exact Rk.ok q Z C _ b.ff (e.putM hi x (m.put (DatV.same A.ff r1) r2))
   .exact q.elim
 .exact k.elim
end
def aF2(i:Nat):Sg->R Fw:=λY=>match Y[i]? with
 | some (some (.l xs))=>.ok (.nx (Y.set i (some (.l xs.reverse))))
 | _=>.bad
theorem zJ{F:Hp}:∀ {vs:L9 V} {xs:L9 Dz},DatVs K F vs xs->DatVs K F vs.reverse xs.reverse
 | _,_,.nil=>.nil
 | _,_,.cons h t=>by
  rw[D5,D5]
  exact(zJ t).append (.cons h .nil)
section
variable{X:Cx}{c:Ct}{E:XK}{st:Stmt}
theorem aTG(h:PS X st (vG (aR3 X.K "list" aAI (jA i)))):PSf X c E st (aF2 i):=PS.imp h λD Z H ⟨Y,F,ab,k⟩=>by
 unfold aF2 at k
 split at k
 .rename_i xs hi
  obtain⟨v,a,p,vs,rfl,h2,e,d,b⟩:=ab.slot i _ hi
  refine⟨_,a,.inl ⟨rfl,vs,SqL.of h2⟩,p,vs,rfl,rfl,h2,?_⟩
  exact Rk.ok k Z F _ (a9 F) (ab.putL hi a (zJ b))
 .exact k.elim
end
end Fl
namespace Zp
theorem aIS(v:V9)(o:Obj) :
  Meets (Builtin.«enumerate.__new__» ⟨[.type "enumerate",v],[]⟩) (λ_ R s=>mY v o s.heap /\
   R (.ok (.ret (.ref (s.heap.push o).objs.size))) {s with heap:=(s.heap.push o).push {cls:=.type "enumerate",data:=.fields #[.none,.bool false,.ref s.heap.objs.size,rawInt 0,.none,.none]}}):=
 .of_wp λprog w A R s h=>by
  obtain⟨a,g,d,b,os⟩:=s;obtain⟨i,h⟩:=h
  have f:=sub_enumerate
  have e:∀ {A:U9} {E:V9->S9->Prop} {Q:V9->S9->Prop},Q (.ref a.objs.size) ⟨a.push o,g,d,b,os⟩->wpAny (model prog w) A (pyIter v) Q E ⟨a,g,d,b,os⟩:=λj=>i prog w _ _ ⟨a,g,d,b,os⟩ _ rfl j
  wp_walk
  refine wpAny_stack_any λst=>AH ?_
  split
  .rename_i c _ _ _ _ _
   cases(c == Value.type "enumerate")<;>(wp_walk using e;exact⟨_,rfl,h⟩)
  .wp_walk using e
   exact⟨_,rfl,h⟩
theorem aLL{w:W9}{A:U9}(h1:mY v o s.heap)(f1:o.isFreed=false)
  (h:∀ h',IsEnum h' (s.heap.objs.size+1) s.heap.objs.size 0 .none->h'.get? s.heap.objs.size=some o->h'.objs.size=s.heap.objs.size+2->(∀ b o,s.heap.get? b=some o->h'.get? b=some o)->Q (.ref (s.heap.objs.size+1)) {s with heap:=h'}) :
  wpAny (model prog w) A (call (.type "enumerate") [v]) Q E s:=by
 refine callType_new F.called_enumerate (by decide) (F.typeCall_enumerate_1 _) (F.newCall_enumerate_1 _) (λobj=>F.args_object_init_2 obj _) F.entry_enumerate_new (aIS v o) ⟨h1,?_⟩
 have a:(s.heap.push o).objs.size=s.heap.objs.size+1:=BW ..
 show _/\_
 rw[a]
 have c:IsEnum ((s.heap.push o).push {cls:=.type "enumerate",data:=.fields #[.none,.bool false,.ref s.heap.objs.size,rawInt 0,.none,.none]}) (s.heap.objs.size+1) s.heap.objs.size 0 .none:=by
  have q:=A0 (s.heap.push o) (o:={cls:=.type "enumerate",data:=.fields #[.none,.bool false,.ref s.heap.objs.size,rawInt 0,.none,.none]}) rfl
  rw[a]at q;exact q
 exact⟨⟨_,c,rfl⟩,h _ c (AE _ (A0 _ f1)) (by rw[BW,a]) λb o y=>AE _ (AE _ y)⟩
end Zp
namespace L2
def Itn(C:Col):It:=
 ⟨λi H=>∃ xs,C H xs/\i < xs.length,λi H x H'=>∃ p v,H p=none/\x=.ref p/\H'=upd H p (.tup [.int i,v])/\∀ xs,C H xs->xs[i]? = some v,λi H=>∃ xs,C H xs/\i=xs.length⟩
theorem aIT{w:W9}{k1}{G:Pos}{C:Col}{e:Az}{tn:Nat->H9->Prop}(c:ColOk P w K C it tn)(p:e≠it) :
  Turn P w K (.Tuple es k1 G) (Itn C) [e,it] e (λi h=>(∃ old,IsEnum h e it i old)/\tn i h) where
 mem:=by simp
 obj:=λi h st b a=>by
  obtain⟨⟨old,s1⟩,l⟩:=st
  rcases AW.mp a with z|z
  .grind
  .obtain rfl:b=it:=by simpa using z
   exact c.obj i h l
 keep:=λi h h' st k=>by
  obtain⟨⟨old,s1⟩,l⟩:=st
  exact⟨⟨old,k e (by simp) _ s1⟩,c.keep i h h' l λo q=>k it (by simp) o q⟩
 item:=by
  intro X F y B hc i a0 s Z H E I g st hg
  obtain⟨⟨old,s1⟩,l⟩:=st
  obtain⟨xs,N,J⟩:=hg
  have t:X.A.in1.handled=none:=I.ok.hd hc
  obtain⟨fp,Pv,S,D,U,a2,a3,a4⟩:=c.draw X F y B i a0 s Z H xs X.A.in1 I (g it (by simp)) l N t
  have one:=λzs (h:C H zs)=>c.one X F y B a0 s Z H zs xs I h N
  subst F y B
  obtain⟨o2,R,_⟩:=c.obj _ _ l
  refine wpAny_pyNext_enum_itemD D s1 U J p (a4 e (g e (by simp)) p) λu h' V pu so si st ae kp=>?_
  obtain⟨x,T,ru⟩:=a3 i u pu
  refine⟨_,rfl,wpAny_letOwnedTupleGo_enum so λh2 se W=>?_⟩
  have ac:s.heap.objs.size≠e:=CJ (AT s1)
  have ad:h2.get? s.heap.objs.size=some {cls:=.type "tuple",data:=.seq #[.int i V,u]}:=(W.2 _ ac).trans st
  have fT:H s.heap.objs.size=none:=I.hok.fresh (AQ _)
  have f:∀ b o,b∉[e,it]->s.heap.get? b=some o->h2.get? b=some o:=λb o a q=>by
   simp only[AW,DD,FT,not_or]at a
   exact(W.2 b a.1).trans (kp b o a.1 a.2 q)
  have af:∀ b j,H b=some j->b∉[e,it]:=λb j q O=>by rw[(g b O).1]at q;cases q
  have M:HOk X.prog X.w H h2:=λb j q=>by
   refine(I.hok b j q).stay (λc' v' d q'=>f c' v' ?_ q') (λ_ q=>q) (λ_ _ q=>q) λ_ _ q=>q
   ext
  have L:HOk X.prog X.w (upd H s.heap.objs.size (.tup [.int i,x])) h2:=HOk.track M fT ⟨by show 2<=sizeLine;decide,[.int i V,u],.cons ⟨_,rfl⟩ (.cons ru .nil),⟨_,ad,⟨rfl,rfl⟩,_,rfl⟩⟩
  have v:∀ b j,H b=some j->b≠s.heap.objs.size:=λb j q=>aV q fT
  have I2:Inv X a0 Z (upd H s.heap.objs.size (.tup [.int i,x])) {s with heap:=h2,gens:=s.gens,drawn:=s.drawn,toks:=V+1}:=by
   refine I.step (ch:=[e,it]) (λb a=>?_) (λb o _ _ d q _=>f b o d q) (λb o _ _ d q _=>⟨o.slots,f b o d q⟩)
    (λb o _ q n=>by rw[aF (BD (AT q))];exact n) (λb o d q=>⟨o,f b o d q⟩) (λb ys q=>by rw[aF (v b _ q)];exact q) (λb o j q=>by rw[aF (v b _ q)];exact q)
    (λb ps q=>by rw[aF (v b _ q)];exact q) (λm hm=>?_) L I.bare
   .obtain ⟨e0,e1,e2,e3,e4,e5⟩:=g b a
    ext
   .obtain ⟨o,Q,ep,ho,r⟩:=hm
    exact⟨o,Q,ep,f _ o (λO=>(g _ O).2.1 rfl) ho,r⟩
  refine⟨.ref s.heap.objs.size,_,I2,rfl,⟨_,x,fT,rfl,rfl,λzs Y=>by rw[one zs Y];exact T⟩,⟨⟨_,by simpa using se⟩,c.keep _ _ _ (a2 _ _ si) λo q=>(W.2 it p.symm).trans q⟩,λb a=>?_⟩
  rw[aF]
  .exact (g b a).1
  .intro O
   have J:b < s.heap.objs.size:=by
    simp only[AW,DD,FT]at a
    rcases a with rfl|rfl
    · ext
    · exact AT R
   ext
 done:=by
  intro X F y B hc i a0 s Z H E I g st hg
  obtain⟨⟨old,s1⟩,l⟩:=st
  obtain⟨xs,N,rfl⟩:=hg
  have t:X.A.in1.handled=none:=I.ok.hd hc
  obtain⟨fp,Pv,S,D,U,a2,a3,a4⟩:=c.draw X F y B _ a0 s Z H xs X.A.in1 I (g it (by simp)) l N t
  subst F y B
  obtain⟨g0,g1,g2,g3,g4,g5⟩:=g it (by simp)
  exact wpAny_pyNext_enum_endD D s1 U λh' eb=>⟨rfl,I.turned (t':=s.toks) (λb o a q=>eb b o a q) g0 g1 g3 g4 g5⟩
 self:=λ_ _ _ _ _ st h=>wpAny_pyIter_enum st.1.choose_spec h
def aF3(K:Frag)(ta:TA):TI:=λZ H R=>ta Z H λvs H1=>∃ x C,vs=[x]/\rA K H1 x C/\R (Itn C) H1
theorem aD2{X:Cx}{k1}{d:Pos}{a:E2}{ta:TA}{pos:Pos}(v:Gl X "enumerate")(l:X.mg "enumerate"=none)(m:PA X [a] ta)(D:starEach [a] X.env=[(false,eval a X.env)]:=by rfl) :
  PI X (.Tuple es k1 d) (.Call (.Name "enumerate" p) [a] [] pos) (aF3 X.K ta):=by
 intro a0 s Z H R I h
 refine Call_ (lJ I v l PyProof.Rows.boot_enumerate (CM (thn (m pos a0 s Z H _ I h) λus s1 f=>?_) D rfl))
 obtain⟨vs,H1,c,r1,t⟩:=f
 obtain⟨x,C,rfl,A,q⟩:=t
 obtain⟨u,rfl,B⟩:=o9 r1
 obtain⟨G,F,o,k,n,E⟩:=mZ c B A
 refine Zp.aLL (o _ λ_ _ e=>e) k λh' g i j r=>?_
 have w:Inv X a0 Z H1 {s1 with heap:=h'}:=c.kept (t':=s1.toks) r
 refine wpAny_pyIter_enum g ?_
 refine⟨s1.heap.objs.size+1,[s1.heap.objs.size+1,s1.heap.objs.size],_,_,H1,rfl,w,aIT (n _) (CJ (ED _)),⟨⟨_,g⟩,E _ _ i⟩,λb y=>?_,q⟩
 rcases AW.mp y with z|z
 .subst z
  exact c.fpOk (Nat.le_succ _) (c.hok.fresh (Nat.le_succ _))
 .obtain rfl:b=s1.heap.objs.size:=by simpa using z
  exact c.fpOk (AQ _) (c.hok.fresh (AQ _))
end L2
namespace Fl
def pR(p:Dz×Nat):Dz:=.tuple [.int (p.2:Int),p.1]
def iK(x:Dz):R (L9 Dz):=(aH x).bind λxs=>.ok (xs.zipIdx.map pR)
theorem aD3{F B:Hp}{C:Col}{us:L9 V}(hz:xs.length<=16777216)(h1:∀ H1,aD F H1->aD B H1->C H1 us)(f:DatVs K F us xs):Yld K (Itn C) F B (xs.zipIdx.map pR) where
 len:=by rw[cO,AA,CO];exact hz
 go:=λi g H1 b a c hi=>by
  rw[AA,CO]at hi
  have d:aD F H1:=λx o z=>a x o (b x o z)
  exact⟨us,h1 H1 d c,by rw[f.length];exact hi⟩
 yld:=λi g H1 v H2 x b a c y e=>by
  obtain⟨p,u,h,rfl,rfl,k⟩:=y
  have d:aD F H1:=λx o z=>a x o (b x o z)
  obtain⟨dx,e1,r1⟩:=f.get (k us (h1 H1 d c))
  rw[AC,DS,e1]at e
  simp only[C8,HS]at e
  cases e
  have j:=aD.upd (o:=.tup [.int i,u]) (aU a h)
  exact⟨_,Ext.new a h,.tup (SqT.of aN) (.cons (.int _) (.cons ((r1.same b).same j) .nil))⟩
 stop:=λg H1 b a c=>by
  have d:aD F H1:=λx o z=>a x o (b x o z)
  refine⟨us,h1 H1 d c,?_⟩
  rw[AA,CO,f.length]
section
variable{X:Cx}{c:Ct}{E:XK}{tg e:E2}
theorem aPR{f:Sg->R Dz}(b:X.K=c.K)(h:PI X tg e (aF3 X.K (cN (tV (bO c) c E f) fY))):PI0 X c E tg e (e1 iK f):=PI.imp h λZ H Q a=>by
 obtain⟨Y,F,ab,k⟩:=a
 refine⟨Y,F,ab,(Rk.bind k).imp λx _ q v l H' s r=>?_⟩
 unfold iK at q
 cases e1:aH x with
 | bad=>rw[e1]at q;exact q.elim
 | ex e=>exact absurd e1 gH
 | ok xs=>
  rw[e1]at q
  obtain⟨j,us,i,d,g⟩:=uL s.fh r e1
  rw[b]
  exact⟨v,j,rfl,i,Rk.ok q _ l H' s (aD3 (kG e1) (λH1 z _=>d H1 z) g)⟩
theorem aPS{f:Sg->R Dz}(b:X.K=c.K)(h:PI X tg e (aF3 X.K (cN (tV (aS c) c E f) fY))):PIf X c E tg e (e1 iK f):=PI.imp h λZ H Q a=>by
 obtain⟨Y,F,ab,k⟩:=a
 refine⟨Y,F,ab,(Rk.bind k).imp λx _ q v l H' s r=>?_⟩
 unfold iK at q
 cases e1:aH x with
 | bad=>rw[e1]at q;exact q.elim
 | ex e=>exact absurd e1 gH
 | ok xs=>
  rw[e1]at q
  obtain⟨j,us,i,d,g⟩:=oM s.fh r e1
  rw[b]
  exact⟨v,j,rfl,i,Rk.ok q _ H' l H' s (a9 _) (aD3 (kG e1) (λH1 _ z=>d H1 z) g)⟩
end
end Fl
namespace Zp
end Zp
namespace Fl
section
variable{X:Cx}{c:Ct}{E:XK}{tg e:E2}
end
end Fl
namespace Zp
abbrev uM(h:H9)(S:Az)(cf:Array V9)(c:Nat):Prop:=h.get? S=some {cls:=.type "list",dict:=none,data:=.seq cf c,slots:=#[]}
theorem aLM{w:W9}{A:U9}{R:Result->S9->Prop}{I S:Az}{n:Nat}{res:V9}(J Jf:Array V9->H9->Prop)(x:n<=sizeLine)
  (size:∀ cf h,J cf h->cf.size<=n)
  (frame:∀ cf h h',J cf h->h'.objs.size=h.objs.size->(∀ b o,b≠S->h.get? b=some o->h'.get? b=some o)->J cf h')
  (item:∀ cf (s:S9) (c:Nat) (Q:O9 V9->S9->Prop) (E:V9->S9->Prop),cf.size < n->J cf s.heap->uM s.heap S cf c->(∀ v h' tk,J (cf.push v) h'->uM h' S cf c->Q (some v) {s with heap:=h',toks:=tk})->wpAny (model prog w) A.in1 (pyNext (.ref I)) Q E s)
  (done:∀ cf (s:S9) (c:Nat) (Q:O9 V9->S9->Prop) (E:V9->S9->Prop),cf.size=n->J cf s.heap->uM s.heap S cf c->(∀ h' tk,Jf cf h'->uM h' S cf c->Q none {s with heap:=h',toks:=tk})->wpAny (model prog w) A.in1 (pyNext (.ref I)) Q E s) :
  ∀ (k:Nat) (s:S9) (cf:Array V9) (c:Nat),n - cf.size=k->J cf s.heap->uM s.heap S cf c->(∀ h' tk a i,Jf a h'->a.size=n->uM h' S a i->R (.ok (.ret res)) {s with heap:=h',toks:=tk})->
  codeAny (model prog w) A (.builtin "list.extend.loop" ⟨[.ref S,.ref I,res],[]⟩) R s:=by
 intro k
 induction k with
 | zero=>
  intro s cf c p g l j
  have:=size cf _ g
  refine codeAny_builtin F.entry_extend_loop ?_
  rw[Around.under_plainId EH _]
  show wpAny _ A.in1 (pyNext (.ref I) >>= _) _ _ s
  exact AB (done cf s c _ _ (by ext) g l λh' tk f d=>AH (j h' tk cf c f (by ext) d))
 | succ k ih=>
  intro s cf c p g l j
  refine codeAny_builtin F.entry_extend_loop ?_
  rw[Around.under_plainId EH _]
  show wpAny _ A.in1 (pyNext (.ref I) >>= _) _ _ s
  refine AB (item cf s c _ _ (by ext) g l λv h' tk f d=>?_)
  show wpAny _ A.in1 (updateSeq S (·.push v) >>= _) _ _ _
  refine AB (FC d rfl (AH ⟨plainId_quiet EH _,ih _ (cf.push v) _ (by rw[EL];ext) (frame _ _ _ f (E6 ..) λb o u e=>?_) (BN _ d rfl) λh2 m a i r q t=>j h2 m a i r q t⟩) (by ext) (by show(cf.push v).size<=sizeLine+1;rw[EL];ext))
  exact(B2 _ _ (λh:S=b=>u h.symm)).trans e
theorem aF4:typeLookup (.type "zip") "__len__"=pure none:=by rw[typeLookup_type,builtinLookup_eq_fast];kernel_rfl
theorem aC0:typeLookup (.type "zip") "__length_hint__"=pure none:=by rw[typeLookup_type,builtinLookup_eq_fast];kernel_rfl
def Je(P1 P2:Nat->V9->Prop)(s0:H9)(z TO i1 i2 S:Az)(cf:Array V9)(h:H9):Prop:=(∀ (j k p q:Nat),j < k->cf[j]? = some (.ref p)->cf[k]? = some (.ref q)->p < q)/\(∀ (j:Nat) v,cf[j]? = some v->∃ p x y,v=.ref p/\S < p/\IsPair h p x y/\P1 j x/\P2 j y)/\∀ c o,c≠z->c≠TO->c≠i1->c≠i2->c≠S->s0.get? c=some o->h.get? c=some o
structure Jz(P1 P2:Nat->V9->Prop)(S1 S2:Nat->Heap->Prop)(s0:Heap)(z TI TO i1 i2 S:Az)(n:Nat)(cf:Array V9)(h:Heap):Prop where
 size:cf.size<=n
 inc:∀ (j k p q:Nat),j < k->cf[j]? = some (.ref p)->cf[k]? = some (.ref q)->p < q
 top:∀ (j p:Nat),cf[j]? = some (.ref p)->p < h.objs.size
 told:∀ (j:Nat) v,cf[j]? = some v->∃ p x y,v=.ref p/\S < p/\IsPair h p x y/\P1 j x/\P2 j y
 s1:S1 cf.size h
 s2:S2 cf.size h
 ti:IsPair h TI (.ref i1) (.ref i2)
 keep:∀ c o,c≠z->c≠TO->c≠i1->c≠i2->c≠S->s0.get? c=some o->h.get? c=some o
 big:S < h.objs.size
 st:ZN h z TI TO
section
variable{prog:P9}{w:W9}{A:U9}{E:V9->S9->Prop}{s:S9}{z TI TO i1 i2:Az}{f1 f2:L9 Az}{n1 n2:Nat}{P1 P2:Nat->V9->Prop}{S1 S2:Nat->H9->Prop}
theorem aLN{a b:V9}(hh:A.handled=none)(D:Apart z TI TO i1 i2 f1 f2)(D1:Draws prog w A.in1.in1.in1 i1 f1 n1 P1 S1)(D2:Draws prog w A.in1.in1.in1 i2 f2 n2 P2 S2)
  (hz:IsZip s.heap z TI TO .none) (af:IsPair s.heap TI (.ref i1) (.ref i2)) (ag:IsPair s.heap TO a b) (h1:S1 0 s.heap) (h2:S2 0 s.heap) (ac:s.heap.objs.size∉f1) (aj:s.heap.objs.size∉f2) (U:i1 < s.heap.objs.size) (R:i2 < s.heap.objs.size) (hn:n1<=sizeLine)
  (hQ:∀ h' tk cf c,(∀ c o,c≠z->c≠TO->c≠i1->c≠i2->s.heap.get? c=some o->h'.get? c=some o)->uM h' s.heap.objs.size cf c->cf.size=min n1 n2->(∀ (j k p q:Nat),j < k->cf[j]? = some (.ref p)->cf[k]? = some (.ref q)->p < q)->
   (∀ (j:Nat) v,cf[j]? = some v->∃ p x y,v=.ref p/\s.heap.objs.size < p/\IsPair h' p x y/\P1 j x/\P2 j y)->Q (.ref s.heap.objs.size) {s with heap:=h',toks:=tk}) :
  wpAny (model prog w) A (call (.type "list") [.ref z]) Q E s:=by
 have V:=AT hz
 have ah:=AT af
 have i:=AT ag
 refine callType_codes (Q₁:=λobj H=>obj=.ref s.heap.objs.size/\H={s with heap:=s.heap.push {cls:=.type "list",data:=.seq #[]}}) F.called_list (F.typeCall_list_1 _) F.entry_list_init
  (code_list_new _ ⟨rfl,rfl⟩) λobj H T=>?_
 obtain⟨rfl,rfl⟩:=T
 have hS:(s.heap.push {cls:=.type "list",data:=.seq #[]}).get? s.heap.objs.size=some {cls:=.type "list",data:=.seq #[]}:=A0 _ rfl
 refine⟨⟨_,hS,rfl⟩,F.args_list_init_2 _ _,?_⟩
 generalize ai:s.heap.objs.size=S at *
 show wpAny _ _ (do let old <-Builtin.List.listItems (.ref S);Builtin.List.listUpdate (.ref S) (λ_=>#[]);letGo old.toList.reverse;Builtin.List.listExtendWith (.ref S) (.ref z) .none) _ _ _
 refine AB ?_
 unfold Builtin.List.listItems
 refine AB (DC hS rfl (AH ?_))
 show wpAny _ _ (updateSeq S (λ_=>#[]) >>= λ_=>letGo (#[]:Array V9).toList.reverse >>= λ_=>Builtin.List.listExtendWith (.ref S) (.ref z) .none) _ _ _
 refine AB (FC hS rfl (AB (wpAny_letGo ?_)))
 have g1:=BN (Obj.mapSeq (λ_=>(#[]:Array V9))) hS rfl
 have g2:∀ c o,c≠S->s.heap.get? c=some o->((s.heap.push {cls:=.type "list",data:=.seq #[]}).update S (Obj.mapSeq (λ_=>(#[]:Array V9)))).get? c=some o:=
  λc o hc e=>(B2 _ _ (BL hc)).trans (AE _ e)
 have g3:((s.heap.push {cls:=.type "list",data:=.seq #[]}).update S (Obj.mapSeq (λ_=>(#[]:Array V9)))).objs.size=S+1:=by rw[E6,BW,ai]
 generalize (s.heap.push {cls:=.type "list",data:=.seq #[]}).update S (Obj.mapSeq (λ_=>(#[]:Array V9)))=X at *
 have G:∀ {p c:Az},S < p->c < S->p≠c:=λh1 h2=>CJ (DI h2 h1)
 have Y:z≠S:=BD V
 have ak:TI≠S:=BD ah
 have C:TO≠S:=BD i
 have ad:i1≠S:=BD U
 have ae:i2≠S:=BD R
 have Z:IsZip X z TI TO .none:=g2 _ _ Y hz
 have N:(({s with heap:=X}:S9)).TypeIs (.ref z) "zip":=⟨_,Z,rfl⟩
 unfold Builtin.List.listExtendWith
 refine AB (wpAny_typeOf N ?_)
 have e1:Builtin.List.listSameRef (.ref S) (.ref z)=false:=by simp[Builtin.List.listSameRef,BL Y]
 simp only[e1,show(Value.type "zip" == Value.type "list")=false by decide,show(Value.type "zip" == Value.type "tuple")=false by decide,Bool.or_false,CY,D0]
 refine AB (wpAny_pyIter_zip (s:={s with heap:=X}) Z (AB (CT ?_)))
 unfold Builtin.List.listLengthHint
 refine AB (E8 N aF4 ?_)
 show wpAny _ _ (specialOf (Value.ref z) (Str.ofString "__length_hint__") >>= _) _ _ _
 refine AB (E8 N aC0 (AH ?_))
 rw[AJ (by rfl)]
 refine AB (ES (AB ?_))
 show wpAny _ _ (updateSeq S (·.push .none) >>= λ_=>updateSeq S (·.pop)) _ _ _
 refine AB (FC g1 rfl ?_)
 have g4:=BN (Obj.mapSeq (·.push Value.none)) g1 rfl
 refine FC g4 rfl ?_
 have g5:=BN (Obj.mapSeq (·.pop)) g4 rfl
 have W:∀ c o,c≠S->s.heap.get? c=some o->((X.update S (Obj.mapSeq (·.push Value.none))).update S (Obj.mapSeq (·.pop))).get? c=some o:=
  λc o hc e=>(B2 _ _ (BL hc)).trans ((B2 _ _ (BL hc)).trans (g2 c o hc e))
 have g7:((X.update S (Obj.mapSeq (·.push Value.none))).update S (Obj.mapSeq (·.pop))).objs.size=S+1:=by rw[E6,E6,g3]
 generalize (X.update S (Obj.mapSeq (·.push Value.none))).update S (Obj.mapSeq (·.pop))=hq at *
 have al:IsZip hq z TI TO .none:=W _ _ Y hz
 have ao:min n1 n2<=sizeLine:=AV (EJ _ _) hn
 refine AH ⟨plainId_quiet EH _,aLM (A:=A.in1) (I:=z) (S:=S) (n:=min n1 n2) (Jz P1 P2 S1 S2 s.heap z TI TO i1 i2 S (min n1 n2)) (Je P1 P2 s.heap z TO i1 i2 S) ao (λcf h J=>J.size) (λcf h h' J B L=>?_) (λcf s' c Q' E' au J hL M=>?_) (λcf s' c Q' E' av J hL M=>?_) (min n1 n2) _ #[] _ (by simp) ?_ g5 λh' tk cf c J B hL=>?_⟩
 .refine ⟨J.size,J.inc,λj p e=>by rw[B];exact J.top j p e,λj v e=>?_,D1.frame _ _ _ J.s1 λb O o e=>L b o (λq=>ac (q▸O)) e,D2.frame _ _ _ J.s2 λb O o e=>L b o (λq=>aj (q▸O)) e,L _ _ ak J.ti,λc o m u l t K e=>L _ _ K (J.keep c o m u l t K e),by rw[B];exact J.big,?_⟩
  .obtain ⟨p,x,y,P,d,a3,a4⟩:=J.told j v e
   exact⟨p,x,y,P,d,L _ _ (CJ d) a3,a4⟩
  .obtain ⟨⟨f,g,P,r⟩,a,b,d⟩:=J.st
   exact⟨⟨f,g,L _ _ Y P,r⟩,a,b,L _ _ C d⟩
 .refine sT (A:=A.in1.in1) D D1 D2 J.st J.ti J.s1 J.s2 (by ext) (λ_=>by ext) (λ_ _ x y h' tk n=>M _ h' tk ⟨by rw[EL];ext,λj k p q aq e1 e2=>?_,λj p e=>?_,λj v e=>?_,by rw[EL];exact n.s1,by rw[EL];exact n.s2,n.kp _ _ D.TIz D.TITO D.TIi1 D.TIi2 J.ti,λc o m u l t K e=>n.kp c o m u l t (J.keep c o m u l t K e),by rw[n.sz];exact GH J.big,n.zn⟩ (n.kp _ _ (BL Y) (BL C) (BL ad) (BL ae) hL)) λq=>by ext
  .rw[FP]at e1 e2
   split at e2
   .cases e2
    split at e1
    .omega
    .exact J.top j p e1
   .split at e1
    .have:k < cf.size:=by
      rcases EQ k cf.size with h|h
      · exact h
      · rw [Array.getElem?_eq_none h]at e2; cases e2
     ext
    .exact J.inc j k p q aq e1 e2
  .rw[FP]at e
   split at e
   .cases e;rw[n.sz];exact ED _
   .rw[n.sz];exact GH (J.top j p e)
  .rw[FP]at e
   split at e
   .rename_i ej
    cases e
    rw[ej]
    exact⟨_,x,y,rfl,J.big,n.pr,n.p1,n.p2⟩
   .obtain ⟨p,x',y',P,d,a3,a4⟩:=J.told j v e
    exact⟨p,x',y',P,d,n.kp _ _ (G d V) (G d i) (G d U) (G d R) a3,a4⟩
 .refine sT (A:=A.in1.in1) D D1 D2 J.st J.ti J.s1 J.s2 (by ext) (λ_=>by ext) (λ_ _=>by ext) λ_ h' tk q5=>M h' tk ⟨J.inc,λj v e=>?_,λc o m u l t K e=>q5 c o m u l t (J.keep c o m u l t K e)⟩ (q5 _ _ (BL Y) (BL C) (BL ad) (BL ae) hL)
  obtain⟨p,x',y',P,d,a3,a4⟩:=J.told j v e
  exact⟨p,x',y',P,d,q5 _ _ (G d V) (G d i) (G d U) (G d R) a3,a4⟩
 .refine ⟨BP _,λj k p q _ e=>by simp at e,λj p e=>by simp at e,λj v e=>by simp at e,D1.frame _ _ _ h1 λb O o e=>W b o (λq=>ac (q▸O)) e,D2.frame _ _ _ h2 λb O o e=>W b o (λq=>aj (q▸O)) e,W _ _ ak af,λc o m u l t K e=>W c o K e,by rw[g7];exact ED _,⟨_,_,al,.inl rfl⟩,a,b,W _ _ C ag⟩
 .exact ⟨rfl,hQ h' tk cf c (λc o m u l t e=>J.2.2 c o m u l t (λq=>by subst q;exact absurd (AT e) (by rw[ai];exact B4 _)) e) hL B J.1 J.2.1⟩
end
end Zp
variable{a b:Nat}
namespace L2
structure LZ(H1 H2:Hp)(xs ys:List V)(l:Az)(ps:List Az):Prop where
 same:∀ b o,H1 b=some o->H2 b=some o
 new:H1 l=none
 lst:H2 l=some (.lst (ps.map .ref))
 len:ps.length=min xs.length ys.length
 tup:∀ (j:Nat) p,ps[j]? = some p->H1 p=none/\∃ u v,xs[j]? = some u/\ys[j]? = some v/\H2 p=some (.tup [u,v])
def tLZ(K:Frag)(ta:TA):TE:=λZ H Q=>ta Z H λvs H1=>∃ x y C1 C2 xs ys,vs=[x,y]/\rA K H1 x C1/\rA K H1 y C2/\C1 H1 xs/\C2 H1 ys/\xs.length<=sizeLine/\∀ l ps H2,LZ H1 H2 xs ys l ps->Q (.ref l) H2
def zH(H:Hp)(S:Az)(ps:L9 Az)(xs ys:L9 V):Hp:=λb=>if b=S then some (.lst (ps.map .ref))else if b∈ps then(match xs[ps.idxOf b]?,ys[ps.idxOf b]? with
 | some u,some v=>some (.tup [u,v])
 | _,_=>none)else H b
theorem aIU{ps:L9 Az}(h:∀ (j k p q:Nat),j < k->ps[j]? = some p->ps[k]? = some q->p < q):ps.Nodup:=CV.mpr λi j hi b a=>BD (h i j _ _ a (AI hi) (AI b))
theorem aF5(h:b < a)(k:Nat):b≠a+k:=by ext
theorem aWW(h:a+k < b):a<=b:=by ext
theorem aWX(h:b < a)(h2:a+k < b):False:=by ext
def hV:V9->Az
 | .ref a=>a
 | _=>0
theorem aLO{X:Cx}{a b:E2}{ta:TA}{p1 p2 pos m:Pos}(hc:X.calm=true)(aj:Gl X "list")(ad:X.mg "list"=none)(ai:Gl X "zip")(af:X.mg "zip"=none)(ha:PA X [a,b] ta)
  (hs:starEach [a,b] X.env=[(false,eval a X.env),(false,eval b X.env)]:=by rfl) (hs2:starEach [b] X.env=[(false,eval b X.env)]:=by rfl)
  (hs3:starEach [.Call (.Name "zip" p2) [a,b] [] m] X.env=[(false,eval (.Call (.Name "zip" p2) [a,b] [] m) X.env)]:=by rfl) :
  PE X (.Call (.Name "list" p1) [.Call (.Name "zip" p2) [a,b] [] m] [] pos) (tLZ X.K ta):=by
 intro a0 s Z H Q I h
 refine CN (lJ I aj ad D3 ?_ (by decide) (by decide))
 refine CM (e:=.Call (.Name "zip" p2) [a,b] [] m) (rest:=[]) ?_ hs3 rfl
 rw[hs3]
 show wpAny _ _ (spliced [(false,eval (.Call (.Name "zip" p2) [a,b] [] m) X.env)]) _ _ s
 refine Calls.spliced_cons ?_
 refine CN (lJ I ai af HG (CM (thn (ha m a0 s Z H _ I h) λus s1 ⟨vs,H1,L,r1,q1⟩=>?_) (by rw[hs,hs2]) (by rw[hs2];rfl)))
 obtain⟨x,y,C1,C2,xs,ys,rfl,c1,c2,k1,k2,S,q⟩:=q1
 cases r1 with
 | cons ru rr=>
  cases rr with
  | cons rv rr=>
   cases rr
   rename_i u1 _ u2
   obtain⟨o1,t1,a1,a2,a3,a4⟩:=mZ L ru c1
   obtain⟨o2,t2,b1,b2,b3,b4⟩:=mZ L rv c2
   refine Zp.aBQ (a1 _ λ_ _ e=>e) (b1 _ λ_ _ e=>AE _ e) a2 b2 λh' z1 z2 z3 z4 z5 z6 kp=>?_
   refine Calls.spliced_nil ?_
   have I2:Inv X a0 Z H1 {s1 with heap:=h'}:=L.kept (t':=s1.toks) kp
   have f:∀ c,s1.heap.objs.size<=c->iC X a0 H1 c:=λc P=>L.fpOk P (L.hok.fresh P)
   have W:X.A.in1.in1.in1.handled=none:=L.ok.hd hc
   obtain⟨f1,P1,S1,D1,d1,d2,d3,d4⟩:=(a3 s1.heap.objs.size).draw X rfl rfl rfl 0 a0 _ Z H1 xs X.A.in1.in1.in1 I2 (f _ (AQ _)) (a4 _ _ z4) k1 W
   obtain⟨f2,P2,S2,D2,e1,e2,e3,e4⟩:=(b3 (s1.heap.objs.size+1)).draw X rfl rfl rfl 0 a0 _ Z H1 ys X.A.in1.in1.in1 I2 (f _ (B8 _ _)) (b4 _ _ z5) k2 W
   generalize Y:s1.heap.objs.size=l at *
   have G:∀ i j:Nat,i≠j->l+i≠l+j:=λi j ah z=>ah (Nat.add_left_cancel z)
   have r:∀ i:Nat,0 < i->l+i≠l:=λi hi z=>by have:l+i=l+0:=z;have:=Nat.add_left_cancel this;ext
   have D:Zp.Apart (l+4) (l+2) (l+3) l (l+1) f1 f2:=⟨G _ _ (by decide),G _ _ (by decide),(r 4 (by decide)).symm,G _ _ (by decide),G _ _ (by decide),r 2 (by decide),G _ _ (by decide),r 3 (by decide),G _ _ (by decide),(r 1 (by decide)).symm,
    d4 _ (f _ (B8 _ _)) (r 4 (by decide)),e4 _ (f _ (B8 _ _)) (G 4 1 (by decide)),d4 _ (f _ (B8 _ _)) (r 3 (by decide)),e4 _ (f _ (B8 _ _)) (G 3 1 (by decide)),e4 _ (f _ (AQ _)) (r 1 (by decide)).symm,d4 _ (f _ (B8 _ _)) (r 1 (by decide))⟩
   have B:({s1 with heap:=h'}:S9).heap.objs.size=l+5:=z6
   refine Zp.aLN (s:={s1 with heap:=h'}) (L.ok.hd hc) D D1 D2 z1 z2 z3 d1 e1 (by rw[B];exact d4 _ (f _ (B8 _ _)) (r 5 (by decide))) (by rw[B];exact e4 _ (f _ (B8 _ _)) (G 5 1 (by decide))) (by rw[B];exact EU (by decide)) (by rw[B];exact FN (by decide) _) S λh2 tk d c kk hL hn ac E=>?_
   rw[B]at hL E ⊢
   have w:∀ (j:Nat) p,(d.toList.map hV)[j]? = some p->d[j]? = some (.ref p):=λj p e=>by
    rw[AC,D9]at e
    cases q:d[j]? with
    | none=>rw[q]at e;cases e
    | some v=>
     rw[q]at e
     obtain⟨p',_,_,rfl,_⟩:=E j v q
     cases e;rfl
   have nd:(d.toList.map hV).Nodup:=aIU λj k p q ae ep eq=>ac j k p q ae (w j p ep) (w k q eq)
   have al:(d.toList.map hV).map (λp=>V.ref p)=(d.toList.map hV).map V.ref:=rfl
   have pt:∀ (j:Nat) p,(d.toList.map hV)[j]? = some p->l+5 < p/\∃ u v x y,xs[j]? = some u/\ys[j]? = some v/\aP u x/\aP v y/\IsPair h2 p x y/\zH H1 (l+5) (d.toList.map hV) xs ys p=some (.tup [u,v]):=λj p e=>by
    obtain⟨p',x',y',e0,C,U,g3,g4⟩:=E j _ (w j p e)
    cases e0
    obtain⟨u,R,M⟩:=d3 j x' g3
    obtain⟨v,hv,O⟩:=e3 j y' g4
    refine⟨C,u,v,x',y',R,hv,M,O,U,?_⟩
    unfold zH
    rw[AM (CJ C),AJ (AG e)]
    have hj:(d.toList.map hV).idxOf p=j:=by
     obtain⟨hl,he⟩:=AD.mp e
     rw[<-he];exact nd.idxOf_getElem j hl
    rw[hj,R,hv]
   have out:∀ b,b < l->zH H1 (l+5) (d.toList.map hV) xs ys b=H1 b:=λb T=>by
    unfold zH
    rw[AM (aF5 T 5),AM]
    intro hm
    obtain⟨j,hj⟩:=BX hm
    exact aWX T (pt j b hj).1
   have ag:∀ b o,H1 b=some o->b < l:=λb o e=>by
    rcases EQ b l with z|z
    .exact z
    .rw[(f b z).1]at e;cases e
   have F:∀ b o,s1.heap.get? b=some o->h2.get? b=some o:=λb o e=>by
    have J:b < l:=by rw[<-Y];exact AT e
    exact kk b o (aF5 J 4) (aF5 J 3) (BD J) (aF5 J 1) (kp b o e)
   have t:LZ H1 (zH H1 (l+5) (d.toList.map hV) xs ys) xs ys (l+5) (d.toList.map hV):=⟨λb o e=>by rw[out b (ag b o e)];exact e,(f _ (B8 _ _)).1,by unfold zH;rw[AJ rfl],by rw[AA,C4];exact hn,λj p e=>by
    obtain⟨C,u,v,_,_,R,hv,_,_,_,g⟩:=pt j p e
    exact⟨(f p (aWW C)).1,u,v,R,hv,g⟩⟩
   refine⟨.ref (l+5),_,L.un (t':=tk) ⟨λb u q _ _ _=>F b u q,λb u q _ _ _=>⟨u.slots,F b u q⟩,λb u q n _=>by rw[out b (by rw[<-Y];exact AT q)];exact n,λb u q _=>⟨u,F b u q⟩,λb zs q=>t.same _ _ q,λb o u q=>t.same _ _ q,λb zs q=>t.same _ _ q⟩ λb u e=>?_,rfl,q _ _ _ t⟩
   by_cases T:b=l+5
   .subst T
    rw[t.lst]at e
    cases e
    refine⟨by rw[AA,t.len];exact AV (EJ _ _) S,d.toList,c,?_,by simpa using hL⟩
    refine xR (by rw[AA,AA]) λj x y C U=>?_
    rw[AC]at C
    cases g:(d.toList.map hV)[j]? with
    | none=>rw[g]at C;cases C
    | some p=>
     rw[g]at C
     cases C
     have:=w j p g
     rw[<-Array.getElem?_toList,U]at this
     cases this
     rfl
   .by_cases hm:b∈d.toList.map hV
    .obtain ⟨j,hj⟩:=BX hm
     obtain⟨C,u',v',x',y',R,hv,M,O,U,g⟩:=pt j b hj
     rw[g]at e
     cases e
     exact⟨by show 2<=sizeLine;decide,[x',y'],.cons M (.cons O .nil),⟨_,U,⟨rfl,rfl⟩,_,rfl⟩⟩
    .have ak:H1 b=some u:=by unfold zH at e;rw[AM T,AM hm]at e;exact e
     exact(L.hok b u ak).stay (λc' v' _ N=>F c' v' N) (λc' N=>t.same _ _ N) (λc' zs N=>t.same _ _ N) λc' zs N=>t.same _ _ N
end L2
namespace Fl
section
variable{X:Cx}{c:Ct}{E:XK}{e:E2}
theorem zK{a:Hp}:∀ {us vs:L9 V} {xs ys:L9 Dz} {ps:L9 Az},DatVs K a us xs->DatVs K a vs ys->ps.length=min us.length vs.length->(∀ (j:Nat) p,ps[j]? = some p->∃ u v,us[j]? = some u/\vs[j]? = some v/\a p=some (.tup [u,v]))->DatVs K a (ps.map .ref) ((xs.zip ys).map aF1)
 | [],_,_,_,ps,.nil,_,h,_=>by
  have:ps=[]:=ET.mp (by simpa using h)
  subst this
  exact .nil
 | _::_,[],_,_,ps,.cons _ _,.nil,h,_=>by
  have:ps=[]:=ET.mp (by simpa using h)
  subst this
  exact .nil
 | u::us,v::vs,x::xs,y::ys,ps,.cons r1 t1,.cons r2 t2,h,hp=>by
  cases ps with
  | nil=>simp at h
  | cons p ps=>
   obtain⟨c,b,e1,e2,d⟩:=hp 0 p rfl
   simp only[A9,EX]at e1 e2
   subst e1 e2
   exact .cons (.tup (SqT.of d) (.cons r1 (.cons r2 .nil))) (zK t1 t2 (by simp at h ⊢;ext) λj q e=>by
    obtain⟨c,b,i,f,g⟩:=hp (j+1) q (by simpa using e)
    exact⟨c,b,by simpa using i,by simpa using f,g⟩)
theorem aLP{f g:Sg->R Dz}(T:X.K=c.K)(h:PE X e (tLZ X.K (cN (tV (aS c) c E f) (cN (tV (aS c) c E g) fY)))):PN X c E e (e2 f9 f g):=PE.imp h λZ H Q t=>by
 obtain⟨Y,F,ab,k⟩:=t
 refine⟨Y,F,ab,(Rk.bind k).imp λx _ q v M H1 s1 r1=>⟨Y,M,ab.ext s1,((Rk.bind q).ext s1).imp λy _ q w d H' s r=>?_⟩⟩
 unfold f9 at q
 cases e1:aH x with
 | bad=>rw[e1]at q;exact q.elim
 | ex e=>exact absurd e1 gH
 | ok xs=>
  rw[e1]at q
  cases e2:aH y with
  | bad=>rw[R.bind_ok,e2]at q;exact q.elim
  | ex e=>exact absurd e2 gH
  | ok ys=>
   rw[R.bind_ok,e2]at q
   have m:aK c.K d H' v x:=aK.ext s r1
   obtain⟨G,us,S,C,B⟩:=oM s.fh m e1
   obtain⟨U,vs,N,P,V⟩:=oM s.fh r e2
   rw[T]
   refine⟨v,w,G,U,us,vs,rfl,S,N,C H' (a9 _),P H' (a9 _),by rw[B.length,cO];exact kG e1,λl ps H2 L=>?_⟩
   have J:l∉ps:=λa=>by
    obtain⟨j,i⟩:=BX a
    obtain⟨_,A,u,_,_,z⟩:=L.tup j l i
    rw[L.lst]at z;cases z
   have D:∀ b,d b≠none->b∉ps:=λb O a=>by
    obtain⟨j,i⟩:=BX a
    exact O (aU s.fh (L.tup j b i).1)
   have ex:Ext d H' (λb=>if b∈ps then H2 b else d b) H2:=⟨L.same,λb o z=>by
     show(if b∈ps then H2 b else d b)=some o
     rw[AM (D b (by rw[z];exact λw=>nomatch w))];exact z,λb o z=>by
     have z:(if b∈ps then H2 b else d b)=some o:=z
     by_cases a:b∈ps
     .rw[AJ a]at z;exact z
     .rw[AM a]at z;exact L.same b o (s.fh b o z),λb z n=>by
     have n:(if b∈ps then H2 b else d b)≠none:=n
     by_cases a:b∈ps
     .obtain ⟨j,i⟩:=BX a
      exact .inl (L.tup j b i).1
     .rw[AM a]at n;exact absurd z n⟩
   refine Rk.ok q _ _ H2 ((s1.trans s).trans ex) ⟨l,ps.map .ref,rfl,aU (s1.trans s).hh L.new,L.lst,?_,zK (B.same ex.ff) (V.same ex.ff) L.len λj p i=>?_⟩
   .show (if l∈ps then H2 l else d l)=none
    rw[AM J];exact aU s.fh L.new
   .obtain ⟨_,A,u,h1,h2,I⟩:=L.tup j p i
    exact⟨A,u,h1,h2,by show(if p∈ps then H2 p else d p)=_;rw[AJ (AG i)];exact I⟩
end
end Fl
namespace HT
def lt2(i j:Int)(x y:Str):Bool:=if i=j then(if x=y then false else decide (x.cps.toList < y.cps.toList))else decide (i < j)
section
open PySem.SeqAt
open PySem.AutoSeq1 (wpAny_loadPart')
open PySem.MeetsSeq PySem.MeetsSeq2 PySem.MeetsSeq3
theorem aVJ(A:U9)(s:S9)(a:Int)(t:Tok)(c:Int)(u:Tok)(prog:P9)(w:W9)(E:V9->S9->Prop)(Q:V9->S9->Prop)(h:Q (.bool (decide (a < c))) s) :
  wpAny (model prog w) A (richCompare .Lt (.int a t) (.int c u)) Q E s:=
 (PyProof.Rows.lt_int h:wpAny (model prog w) A (compareOp .Lt (.int a t) (.int c u)) Q E s)
theorem aVK(A:U9)(s:S9)(a:Str)(t:Tok)(c:Str)(u:Tok)(prog:P9)(w:W9)(E:V9->S9->Prop)(Q:V9->S9->Prop)(h:Q (.bool (decide (a.cps.toList < c.cps.toList))) s) :
  wpAny (model prog w) A (richCompare .Lt (.str a t) (.str c u)) Q E s:=
 (PySem.P.lt_str h:wpAny (model prog w) A (compareOp .Lt (.str a t) (.str c u)) Q E s)
theorem zX(l b:Az)(n n2:Nat)(dd D:O9 Az)(sl C:Array (O9 V9))(i j:Int)(x y:Str)(B p z o:Tok) :
  Meets (Builtin.«tuple.__lt__» ⟨[.ref l,.ref b],[]⟩)
   (λ_ R s=>s.heap.get? l=some {cls:=.type "tuple",dict:=dd,data:=.seq #[.int i B,.str x p] n,slots:=sl}/\s.heap.get? b=some {cls:=.type "tuple",dict:=D,data:=.seq #[.int j z,.str y o] n2,slots:=C} /\
    R (.ok (.ret (.bool (lt2 i j x y)))) s):=
 .of_wp λprog w A R s h=>by
  obtain⟨t,g,d,r,os⟩:=s;obtain⟨F,G,h⟩:=h
  have f2:=AutoSeq1.sub_tuple_tuple
  wp_walk using wpAny_loadPart' F,G8 G,wpAny_forIn_list _ (λrest b s'=>b.1=none/\s'=(⟨t,g,d,r,os⟩:S9)/\(rest=[((Value.int i B,Value.int j z):V9×V9),(Value.str x p,Value.str y o)]\/(rest=[((Value.str x p,Value.str y o):V9×V9)]/\i=j)\/(rest=[]/\i=j/\x=y))) _
  case turn=>
   rintro ⟨u,v⟩ rest b s' ⟨hb',rfl,hr⟩
   rcases hr with hr|⟨hr,a⟩|⟨hr,_⟩
   .injection hr with h1 h2
    injection h1 with h3 h4
    subst h3 h4 h2
    obtain⟨e,E,k⟩:=aKB A.in1 ⟨t,g,d,r,os⟩ i B j z
    refine AB (E prog w _ _ ?_)
    cases e with
    | true=>
     have a:=k.mp rfl
     wp_walk
     exact⟨rfl,rfl,.inr (.inl ⟨rfl,a⟩)⟩
    | false=>
     have a:¬ i=j:=λq=>absurd (k.mpr q) BM
     have m:=aVJ A.in1 ⟨t,g,d,r,os⟩ i B j z prog w
     wp_walk using m
     exact⟨_,rfl,by simpa[lt2,a] using h⟩
   .injection hr with h1 h2
    injection h1 with h3 h4
    subst h3 h4 h2
    have E:EqAt A.in1 (⟨t,g,d,r,os⟩:S9) (.str x p) (.str y o) (x == y):=SeqAt.EqAt.str_str x p y o
    refine AB (E prog w _ _ ?_)
    cases f:(x == y)with
    | true=>
     have c:x=y:=by simpa using f
     wp_walk
     exact⟨rfl,rfl,.inr (.inr ⟨rfl,a,c⟩)⟩
    | false=>
     have c:¬ x=y:=by simpa using f
     have m:=aVK A.in1 ⟨t,g,d,r,os⟩ x p y o prog w
     wp_walk using m
     exact⟨_,rfl,by simpa[lt2,a,c] using h⟩
   .cases hr
  case fin=>
   rintro ⟨b1,b2⟩ s' ⟨hb',rfl,hr⟩
   simp only at hb'
   subst hb'
   rcases hr with hr|⟨hr,_⟩|⟨_,a,f⟩
   .cases hr
   .cases hr
   .wp_walk
    exact⟨_,rfl,by simpa[Builtin.Tuple.tupleCompareSizes,lt2,a,f] using h⟩
  case h=>exact⟨rfl,rfl,.inl rfl⟩
end
theorem aF6{w:W9}{A:U9}{b:Az}{i j:Int}{y:Str}{u q r m:Tok}(v:IsTup s.heap l #[.int i u,.str x q])(hb:IsTup s.heap b #[.int j r,.str y m])
  (z:A.units < cLine) (h:Q (.bool (lt2 i j x y)) s):wpAny (model prog w) A (compareOp .Lt (.ref l) (.ref b)) Q E s:=by
 obtain⟨⟨cls,dd,data,sl⟩,t,p,n,k⟩:=id v
 obtain⟨⟨o,f,g,e⟩,c,a,n2,d⟩:=id hb
 simp only at p k a d
 subst p k a d
 exact richCompare_meets_room (op:=.Lt) ⟨_,t,rfl⟩ ⟨_,c,rfl⟩ PySem.F.slot_tuple_lt PySem.F.entry_tuple_lt (PySem.F.args_tuple_lt_2 _ _) (zX l b n n2 dd f sl e i j x y u q r m)
  ⟨t,c,show Value.bool (lt2 i j x y)≠Value.notImplemented/\Q (.bool (lt2 i j x y)) s from⟨(λx=>nomatch x),h⟩⟩ z
end HT
namespace Fl
noncomputable def rB:Dz->Dz->R Dz
 | .tuple [.int i,.str x],.tuple [.int j,.str y]=>.ok (.bool (HT.lt2 i j x y))
 | _,_=>.bad
theorem aIV:cK rB:=by
 intro a b e h
 unfold rB at h
 ext
theorem aPT{X:Cx}{c:Ct}(D:X.K=c.K)(P:X.A.units+64 < cLine):OpR X (compareOp .Lt) (r2D (aS c) (aS c) (bO c) rB):=by
 intro a0 s Z H v u x y Q I t C h
 obtain⟨J,H1,F,a,b,d,f,r,p,e,q⟩:=h
 unfold rB at e
 split at e
 .rename_i i z j w
  cases e
  obtain⟨G,vs,rfl,N,g,n⟩:=aK.tup_of f r
  obtain⟨O,us,rfl,fb,k,o⟩:=aK.tup_of f p
  rw[<-D]at g k
  obtain rfl:=aDS n
  obtain rfl:=aDS o
  cases t
  cases C
  obtain⟨B,r1,m,_⟩:=I.tuple g
  obtain⟨l,r2,p2,_⟩:=I.tuple k
  cases r1 with
  | cons k1 r1=>cases r1 with
   | cons k2 r1=>cases r1 with
    | nil=>
     cases r2 with
     | cons k3 r2=>cases r2 with
      | cons k4 r2=>cases r2 with
       | nil=>
        obtain⟨L,rfl⟩:=k1
        obtain⟨E,rfl⟩:=k2
        obtain⟨R,rfl⟩:=k3
        obtain⟨M,rfl⟩:=k4
        exact HT.aF6 m p2 (by ext) ⟨.bl _,H,I,rfl,q _ F H (Ext.refl f) (.bl _)⟩
 .cases e
end Fl
namespace L2
theorem aBT{X:Cx}:iG X (.type "range") (λxs H Q=>∃ a b:Int,xs=[.int a,.int b]/\∀ p,H p=none->Q (.ref p) (upd H p (.rng a b))):=by
 intro a0 s Z H xs us Q I r h
 obtain⟨a,b,rfl,q⟩:=h
 obtain⟨u,v,rfl,⟨t,rfl⟩,⟨d,rfl⟩⟩:=sC r
 refine call_range_2 ?_
 refine⟨.ref s.heap.objs.size,_,I.laid (o:=.rng a b) (λb c q=>AE _ q) (AQ _) ⟨_,_,_,A0 _ rfl⟩,rfl,q _ (I.hok.fresh (AQ _))⟩
theorem yB{X:Cx}(C:X.calm=true):iG X (.type "list") (λxs H Q=>∃ (p:Az) (a b:Int),xs=[.ref p]/\H p=some (.rng a b)/\0<=a/\a<=b/\b<=1000000/\∀ l,H l=none->Q (.ref l) (upd H l (.lst ((range (b - a).toNat).map λi:Nat=>V.int (a+(i:Int)))))):=by
 intro a0 s Z H xs us Q I r h
 obtain⟨p,a,b,rfl,A,J,j,K,q⟩:=h
 obtain⟨u,rfl,D⟩:=o9 r
 cases(show u=Value.ref p from D)
 obtain⟨t,u,v,hr⟩:=(show bI X.prog X.w H s.heap p (.rng a b)from I.hok p _ A)
 refine call_list_range (a:=a) (b:=b) (c:=1) (n:=(b - a).toNat) (I.ok.hd C) hr (small_one (by ext) (by ext) (by ext) (by ext)) (by rw[rangeSize_one];split<;>ext) (by ext) λh' z d c B e g=>?_
 have E:aT ((range (b - a).toNat).map λi:Nat=>V.int (a+(i:Int))) d.toList:=by
  refine xR (by rw[AA,A4,C4,g.1]) λi x y h1 h2=>?_
  rw[AC]at h1
  cases f:(range (b - a).toNat)[i]? with
  | none=>rw[f]at h1;cases h1
  | some k=>
   rw[f]at h1
   cases h1
   have m:k=i:=by
    obtain⟨G,F⟩:=AD.mp f
    rw[<-F];simp
   obtain⟨t',rfl⟩:=g.2 i y (by rw[<-h2,D9])
   refine⟨t',?_⟩
   rw[m,show a+(i:Int) * 1=a+(i:Int)by ext]
 refine⟨.ref s.heap.objs.size,_,I.laid (t':=z) (o:=.lst ((range (b - a).toNat).map λi:Nat=>V.int (a+(i:Int)))) B (AQ _) ⟨by simp only[AA,A4];exact AV (by omega:(b - a).toNat<=1000000) (by decide),d.toList,c,E,by simpa using e⟩,rfl,q _ (I.hok.fresh (AQ _))⟩
end L2
namespace Fl
def aBU:Dz->Dz->R (L9 Dz)
 | .int a,.int b=>if 0<=a/\a<=b/\b<=1000000 then .ok ((range (b - a).toNat).map λi:Nat=>.int (a+(i:Int)))else .bad
 | _,_=>.bad
section
variable{X:Cx}{c:Ct}{E:XK}{e:E2}
theorem tX{F:Hp}(a:Int):∀ (xs:L9 Nat),DatVs K F (xs.map λi:Nat=>V.int (a+(i:Int))) (xs.map λi:Nat=>PyData.int (a+(i:Int)))
 | []=>.nil
 | x::xs=>.cons (.int _) (tX a xs)
theorem aIW{f g:Sg->R Dz}(h:PE X e (tCB (λxs H Q=>∃ (p:Az) (a b:Int),xs=[.ref p]/\H p=some (.rng a b)/\0<=a/\a<=b/\b<=1000000/\∀ l,H l=none->Q (.ref l) (upd H l (.lst ((range (b - a).toNat).map λi:Nat=>V.int (a+(i:Int))))))
  (cN (tCB (λxs H Q=>∃ a b:Int,xs=[.int a,.int b]/\∀ p,H p=none->Q (.ref p) (upd H p (.rng a b))) (cN (tV (aS c) c E f) (cN (tV (aS c) c E g) fY))) fY))):PN X c E e (e2 aBU f g):=PE.imp h λZ H Q ⟨Y,F,ab,k⟩=>by
 refine⟨Y,F,ab,(Rk.bind k).imp λd t q v w H1 s1 r1=>?_⟩
 refine⟨Y,w,ab.ext s1,((Rk.bind q).ext s1).imp λd2 r j x m H2 s r2=>?_⟩
 clear t r
 unfold aBU at j
 split at j
 .rename_i a b
  split at j
  .rename_i o
   obtain rfl:=aK.int_of r1
   obtain rfl:=aK.int_of r2
   refine⟨a,b,rfl,λp u=>?_⟩
   refine⟨p,a,b,rfl,aN,o.1,o.2.1,o.2.2,λl n=>?_⟩
   have e1:Ext m H2 m (upd H2 p (.rng a b)):=Ext.own s.fh u
   have e2:Ext m _ m (upd (upd H2 p (.rng a b)) l (.lst ((range (b - a).toNat).map λi:Nat=>V.int (a+(i:Int))))):=Ext.own e1.fh n
   exact Rk.ok j _ m _ (((s1.trans s).trans e1).trans e2) ⟨l,_,rfl,aU s1.hh (aU s.hh (aU e1.hh n)),aN,aU e1.fh n,tX a _⟩
  .exact j.elim
 .exact j.elim
end
end Fl
namespace Mc
open Fl
def wF:Sg->R Fw:=(aM (vD (e1 dLen (e2 dIx (e2 dIx (rV 0) (eC (.int 0))) (eC (.int 1))))))
def eP:L9 A->R A:=fnF 1 wF
def wG:Sg->R Fw:=(aM (vD (eL (bP [none,some 1] (e1 aH (rV 0)) (stN 0) cQ (e2 dIx (e2 dIx (rV 0) (eC (.int 1))) (rV 1))))))
def i4:L9 A->R A:=fnF 2 wG
def rhT:Sg->R Bool:=(mS (e1 asB (e2 dLt (e1 dLen (rV 5)) (e1 dLen (rV 3)))) (pK (e1 asB (z9 12 2 (aA (rV 3) (aA (e1 dLen (rV 5)) aC))))))
def rhF:Sg->R Fw:=(aB (sIf (e1 asB (iR true 4 (eV 7))) (aB (iZ 4 (eV 7) (e1 dLen (rV 3)))
 (eY 3 (eV 7))) sNx)
 (eY 6 (gN 4 (eV 7))))
def rhB:Sg->R Fw:=(aB (bT 6 (cS aC))
 (aB (gM (e1 aH (yA 12 1 (aA (e2 dIx (rV 3) (e1 dLen (rV 5))) aC))) (stN 7) rhF)
 (eY 5 (e1 dTup (rV 6)))))
def zL:Sg->R Fw:=aB (bT 3 (cS (aA (eV 0) aC))) (aB (nN 4 (lZ (eV 0) (eC (.int 0)) uG)) (aB (bT 5 (cS aC)) (aB (aX rhT rhB) (sFz 5 (sFz 3 (aM (vD (bG (aA (eV 3) (aA (eV 5) aC))))))))) )
def dD:L9 A->R A:=fnF 8 zL
def rC:Sg->R Fw:=(aM (vD (e1 (iE "str") (rV 0))))
def gI:L9 A->R A:=fnF 1 rC
def nO:Sg->R Fw:=(aB (aY 1 (vD (e1 dTup (eL (bP [none] (e1 aH (rV 0)) (stN 0) cQ (e2 dIx (rV 0) (eC (.int 0))))))))
 (aM (vD (bG (aA (e2 dIx (rV 1) (eC (.int 0))) (aA (eV 1) aC))))))
def fF:L9 A->R A:=fnF 2 nO
def oT:Sg->R Bool:=(pK (e1 asB (eA (aI 1 gI (aA (vV 2) aC)))))
def oB:Sg->R Fw:=(aB (sIf (e1 asB (iR false 3 (eV 2))) (aM (vD (eC (.str "ever")))) sNx)
 (aB (iZ 3 (eV 2) (eC (.bool true)))
 (aB (aY 4 (vD (e2 dIx (rV 1) (rV 2))))
 (aB (sIf (e1 asB (e2 dEq (e2 dIx (rV 4) (eC (.int 1))) (eC (.int 1)))) (aM (vD (e2 dIx (rV 4) (eC (.int 0))))) sNx)
 (aY 2 (vD (e2 dIx (rV 0) (e2 dIx (rV 4) (eC (.int 0))))))))))
def zM:Sg->R Fw:=aB (lE 3) (aB (aX oT oB) (aM (vV 2)))
def j4:L9 A->R A:=fnF 5 zM
def aBV:Sg->R Fw:=(aB (aY 2 (aI 3 j4 (aA (vD (e2 dIx (rV 0) (eC (.int 1)))) (aA (vV 1) (aA (vD (e2 dIx (rV 0) (eC (.int 0)))) aC)))))
 (aB (aY 3 (vD (e1 dTup (eL (bP [none,some 0,some 1] (eU (e1 dLen (rV 1))) (stN 0) cQ (eA (aI 3 j4 (aA (vD (e2 dIx (rV 1) (eC (.int 1)))) (aA (vV 2) (aA (vV 0) aC))))))))))
 (aM (vD (bG (aA (eV 2) (aA (eV 3) aC)))))))
def gO:L9 A->R A:=fnF 4 aBV
def wT:Sg->R Bool:=(pK (e1 asB (eA (aI 1 gI (aA (vV 2) aC)))))
def wB:Sg->R Fw:=(aB (sIf (e1 asB (iR false 3 (eV 2))) (aM (vD (eC (.str "ever")))) sNx)
 (aB (iZ 3 (eV 2) (eC (.bool true)))
 (aB (aY 4 (vD (e2 dIx (e2 dIx (rV 0) (rV 2)) (eC (.int 2)))))
 (aY 2 (vD (eIf (e1 asB (eA (aI 1 gI (aA (vV 4) aC)))) (eV 4) (e2 dIx (e2 dIx (rV 1) (eC (.int 1))) (rV 4))))))))
def qB:Sg->R Fw:=aB (aY 2 (vD (e2 dIx (rV 1) (eC (.int 0))))) (aB (lE 3) (aB (aX wT wB) (aM (vV 2))))
def dE:L9 A->R A:=fnF 5 qB
def cU:Sg->R Fw:=(aM (vD (eL (bP [none,some 0] (e1 aH (rV 1)) (stN 0) cQ (eA (aI 2 gO (aA (vV 1) (aA (vV 0) aC))))))))
def dZ:Sg->R Fw:=(aM (vD (e2 dGt (e1 dLen (rV 0)) (eC (.int 200)))))
def nQ:Sg->R Fw:=(aB (bT 1 (bP [none,some 0] (eU (eA (aI 1 eP (aA (vV 0) aC)))) (stN 0) cQ (eA (aI 2 i4 (aA (vV 1) (aA (vV 0) aC))))))
 (aB (l5 2 "one_way.<locals>.after")
 (aB (sFz 1 (aY 3 (hU [1] 3 dD (aA (aI 1 fF (aA (vV 0) aC)) (aA (lF "one_way.<locals>.after" [1] 4 1 (cI 2 cU) 2) (aA (n6 [] 1 2 (cI 2 dZ)) aC))))))
 (aB (aY 4 (vD (e2 dIx (rV 3) (eC (.int 0)))))
 (aB (sIf (e1 asB (e2 dGt (e1 dLen (rV 4)) (eC (.int 200)))) (oK "TooMany" (eC (.int 200))) sNx)
 (aM (vD (bG (aA (e1 dTup (e2 dIx (rV 3) (eC (.int 1)))) (aA (e1 dTup (eL (bP [none,some 0] (e1 aH (rV 4)) (stN 0) cQ (eA (aI 2 dE (aA (vV 1) (aA (vV 0) aC))))))) aC))))))))))
def c6:L9 A->R A:=fnF 5 nQ
def wH:Sg->R Fw:=(aM (vD (e1 dLen (e2 dIx (e2 dIx (rV 0) (eC (.int 0))) (eC (.int 0))))))
def kH:L9 A->R A:=fnF 1 wH
def aD4:Sg->R Fw:=(aM (vD (eC (.bool false))))
def j5:L9 A->R A:=fnF 2 aD4
def stF:Sg->R Fw:=(pQ 2 (eV 6) (bG (aA (eV 3) (aA (eV 5) aC))))
def stO:Sg->R Fw:=(gM (e2 f9 (eC (.str "abc")) (eV 4)) (stT [(stN 5),(stN 6)]) stF)
def stQ:Sg->R Bool:=(e1 asB (e2 dNe (rV 1) (eC (.int 0))))
def stW:Sg->R Fw:=(aB (eY 7 (e2 dIx (gN 2 (eV 1)) (eC (.int 1))))
 (aY 1 (vD (e2 dIx (gN 2 (eV 1)) (eC (.int 0))))))
def wI:Sg->R Fw:=(aB (lE 2) (aB (gM (e1 iK (eV 0)) (stT [(stN 3),(stN 4)]) stO) (aB (bT 7 (cS aC)) (aB (aX stQ stW) (aB (aF2 7) (aM (vD (e2 sL (eC (.str "")) (rV 7)))))))))
def kI:L9 A->R A:=fnF 8 wI
def dL:Sg->R Fw:=(aM (vD (yA 11 2 (aA (e2 dIx (rV 0) (rV 1)) aC))))
def l7:Sg->R Fw:=(aB (aY 3 (hU [2] 3 dD (aA (vV 0) (aA (vV 1) (aA (n6 [2] 12 2 (cI 3 dL)) aC)))))
 (aB (aY 4 (vD (e2 dIx (rV 3) (eC (.int 0)))))
 (aB (aY 5 (vD (e2 dIx (rV 3) (eC (.int 1)))))
 (aM (vD (bG (aA (eV 4) (aA (eIf (e1 asB (e2 dEq (e1 dLen (rV 5)) (e1 dLen (rV 4)))) (eC .none) (eA (aI 2 kI (aA (vV 5) (aA (vD (e1 dLen (rV 5))) aC))))) aC))))))))
def dS:L9 A->R A:=fnF 6 l7
def rD:Sg->R Fw:=(aM (vD (eL (e2 f9 (e2 dIx (e2 dIx (rV 0) (eC (.int 0))) (e2 dIx (rV 2) (eC (.int 0)))) (e2 dIx (e2 dIx (rV 1) (eC (.int 0))) (e2 dIx (rV 2) (eC (.int 1))))))))
def gA:L9 A->R A:=fnF 3 rD
def tY:Sg->R Fw:=(aM (vD (e2 dEq (e2 dIx (e2 dIx (rV 0) (eC (.int 1))) (e2 dIx (rV 2) (eC (.int 0)))) (e2 dIx (e2 dIx (rV 1) (eC (.int 1))) (e2 dIx (rV 2) (eC (.int 1)))))))
def iA:L9 A->R A:=fnF 3 tY
def eB:Sg->R Fw:=(aM (aI 3 gA (aA (vV 1) (aA (vV 2) (aA (vV 0) aC)))))
def dM:Sg->R Fw:=(aM (vD (aFR (eA (aI 3 iA (aA (vV 1) (aA (vV 2) (aA (vV 0) aC))))))))
def uN:Sg->R Fw:=(aB (l5 3 "parted.<locals>.after")
 (aB (l5 4 "parted.<locals>.unlike")
 (aM (hU [0,1] 3 dS (aA (vV 2) (aA (lF "parted.<locals>.after" [0,1] 2 1 (cI 3 eB) 3) (aA (lF "parted.<locals>.unlike" [0,1] 2 1 (cI 3 dM) 4) aC)))))))
def kX:L9 A->R A:=fnF 5 uN
def aBW:Sg->R Fw:=(aB (sIf (e1 asB (e2 dNe (eA (aI 1 kH (aA (vV 0) aC))) (eA (aI 1 kH (aA (vV 1) aC))))) (oJ "NotLike" (aA (eC (.str "not as many signs")) aC)) sNx)
 (aB (aY 2 (aI 3 kX (aA (vV 0) (aA (vV 1) (aA (vD (bG (aA (eC (.int 0)) (aA (eC (.int 0)) aC)))) aC)))))
 (aB (sIf (e1 asB (e2 dIs (e2 dIx (rV 2) (eC (.int 1))) (eC .none))) (aM (vD (bG (aA (eC (.str "alike")) (aA (e2 dIx (rV 2) (eC (.int 0))) aC))))) sNx)
 (aM (vD (bG (aA (eC (.str "unlike")) (aA (e2 dIx (rV 2) (eC (.int 1))) aC))))))))
def m4:L9 A->R A:=fnF 3 aBW
def l8:Sg->R Fw:=(aB (sIf (e1 asB (e2 dNe (eA (aI 1 eP (aA (vV 0) aC))) (eA (aI 1 eP (aA (vV 1) aC))))) (oJ "NotLike" (aA (eC (.str "not as many signs")) aC)) sNx)
 (aM (aI 2 m4 (aA (aI 1 c6 (aA (vV 0) aC)) (aA (aI 1 c6 (aA (vV 1) aC)) aC)))))
def fG:L9 A->R A:=fnF 2 l8
def aBX:Sg->R Fw:=(aB (lE 1)
 (aB (gM (e1 iK (eV 0)) (stT [(stN 2),(stN 3)]) (pQ 1 (eV 3) (eV 2)))
 (aM (vD (eL (bP [none,some 1] (e1 aH (rV 0)) (stN 0) cQ (gN 1 (eV 0))))))))
def jR:L9 A->R A:=fnF 4 aBX
def kY:Sg->R Fw:=(aM (vD (e1 dTup (eL (bP [none,some 0] (e1 aH (rV 1)) (stN 0) cQ (e2 dIx (rV 1) (rV 0)))))))
def cB:L9 A->R A:=fnF 2 kY
def aD5:Sg->R Fw:=(aM (aI 1 jR (aA (vD (eL (bP [none,none,some 1] (e2 f9 (rV 1) (rV 0)) (stT [(stN 0),(stN 1)]) cQ (bG (aA (eV 0) (aA (eA (aI 2 cB (aA (vV 2) (aA (vV 1) aC)))) aC)))))) aC)))
def oO:L9 A->R A:=fnF 2 aD5
def arT:Sg->R Bool:=(e1 asB (e2 dNe (rV 2) (rV 1)))
def arB:Sg->R Fw:=(aB (aY 1 (vV 2)) (aY 2 (aI 2 oO (aA (vD (e2 dIx (rV 0) (eC (.int 0)))) (aA (vV 1) aC)))))
def qD:Sg->R Fw:=(aB (aY 1 (aI 1 jR (aA (vD (e2 dIx (rV 0) (eC (.int 1)))) aC)))
 (aB (aY 2 (aI 2 oO (aA (vD (e2 dIx (rV 0) (eC (.int 0)))) (aA (vV 1) aC)))) (aB (aX arT arB) (aM (vV 1)))))
def eG:L9 A->R A:=fnF 3 qD
def dN:Sg->R Fw:=(aM (aI 2 cB (aA (vV 1) (aA (vD (e2 dIx (e2 dIx (rV 2) (eC (.int 0))) (rV 0))) aC))))
def yC:Sg->R Fw:=(aB (aY 1 (aI 1 eG (aA (vV 0) aC)))
 (aB (l5 2 "least.<locals>.after")
 (aB (aY 3 (hU [1,0] 3 dD (aA (vD (e2 dIx (rV 1) (eC (.int 0)))) (aA (lF "least.<locals>.after" [1,0] 2 1 (cI 3 dN) 2) (aA (aFW 1 2 j5) aC)))))
 (aM (vD (bG (aA (e1 dTup (e2 dIx (rV 3) (eC (.int 1)))) (aA (e1 dTup (eL (bP [none,some 0] (e1 aH (e2 dIx (rV 3) (eC (.int 0)))) (stN 0) cQ (e2 dIx (e2 dIx (rV 1) (eC (.int 1))) (rV 0))))) aC))))))))
def oP:L9 A->R A:=fnF 4 yC
def pS:Sg->R Fw:=(aM (aI 1 oP (aA (aI 1 c6 (aA (vV 0) aC)) aC)))
def eQ:L9 A->R A:=fnF 1 pS
end Mc
namespace Mc
theorem oQ{rs:L9 Rw}{r:Rw}(M:Mach rs sg)(hr:r∈rs)(b:k < sg):r.c[k]? = some (r.c.getD k (0,0))/\mO rs.length (r.c.getD k (0,0)):=by
 have h:=M.row r hr
 have a:k < r.c.length:=by rw[h.2];exact b
 have e:r.c[k]? = some (r.c.getD k (0,0)):=by rw[AL,AI a];rfl
 exact⟨e,h.1.2.2 _ (AG e)⟩
theorem wJ(l:L9 Nat)(a:Nat):∀ n:Nat,a+n<=l.length->((range n).map λk=>a+k).filterMap (λi=>l[i]?)=(l.drop a).take n
 | 0,_=>rfl
 | n+1,h=>by
  rw[List.range_succ,A8,List.filterMap_append,wJ l a n (by ext),B9,List.getElem?_drop]
  rfl
theorem aIX(h1:a<=b)(h2:b<=z.cps.toList.length):Txt.slice z (some (a:Int)) (some (b:Int))=⟨((z.cps.toList.drop a).take (b - a)).toArray⟩:=by
 have c:z.length=z.cps.toList.length:=by rw[C4];rfl
 unfold Txt.slice
 rw[StrLaws.strSliceIndices_plain h1 (by rw[c];exact h2)]
 have e:((range (b - a)).map λk=>a+k).filterMap (λi=>z.cps[i]?)=(z.cps.toList.drop a).take (b - a):=by
  rw[<-wJ z.cps.toList a (b - a) (by ext)]
  ext
 rw[e]
 by_cases h:(1 == 1 && (((range (b - a)).map λk=>a+k).length == z.length))=true
 .have g:b - a=z.length:=by
   ext
  have d:a=0:=by ext
  have f:b=z.cps.toList.length:=by ext
  have e2:(z.cps.toList.drop a).take (b - a)=z.cps.toList:=by rw[d,f,HH,HU,CF (AQ _)]
  simp_all
 .grind
theorem aF7(h:i<=z.cps.toList.length):Txt.slice z none (some (i:Int))=⟨(z.cps.toList.take i).toArray⟩:=by
 have e:Txt.slice z none (some (i:Int))=Txt.slice z (some ((0:Nat):Int)) (some (i:Int)):=by unfold Txt.slice;rw[StrLaws.sliceIdx_none_lo];rfl
 rw[e,aIX (BP _) h];simp
end Mc
variable{i:Int}{v:Dz}
namespace Fl
variable{lo hi:O9 Int}{Y:Sg}
@[simp] theorem lG(d:Dz)(Y:Sg):eC d Y=.ok d:=id rfl
@[simp] theorem lH(g:α->R β)(f:Sg->R α)(Y:Sg):e1 g f Y=(f Y).bind g:=id rfl
@[simp] theorem kJ{γ:Type}(g:α->β->R γ)(f:Sg->R α)(a:Sg->R β)(Y:Sg):e2 g f a Y=(f Y).bind λx=>(a Y).bind λy=>g x y:=id rfl
@[simp] theorem wK(i:Nat)(Y:Sg):eV i Y=match Y[i]? with|some (some (.d x))=>.ok x|_=>.bad:=id rfl
@[simp] theorem jL(i:Nat)(Y:Sg):rV i Y=match Y[i]? with|some (some (.d x))=>.ok x|some (some (.l xs))=>.ok (.list xs)|_=>.bad:=id rfl
@[simp] theorem wL(i:Nat)(Y:Sg):vV i Y=match Y[i]? with|some (some (.d x))=>.ok (.d x)|some (some (.x e))=>.ok (.x e)|some (some (.g k n f))=>.ok (.g k n f)|some (some (.f ce))=>.ok (.f ce)|_=>.bad:=id rfl
@[simp] theorem sU(f:Sg->R Dz)(Y:Sg):vD f Y=(f Y).bind λx=>.ok (.d x):=id rfl
@[simp] theorem aIY(x:Dz):getD (.d x)=.ok x:=id rfl
@[simp] theorem aNA(f:Sg->R A)(Y:Sg):eA f Y=(f Y).bind getD:=id rfl
@[simp] theorem aX7(f:Sg->R (L9 Dz))(Y:Sg):eL f Y=(f Y).bind λxs=>.ok (.list xs):=id rfl
@[simp] theorem i5(Y:Sg):(aC (α:=α)) Y=.ok []:=id rfl
@[simp] theorem jS(f:Sg->R α)(g:Sg->R (L9 α))(Y:Sg):aA f g Y=(f Y).bind λx=>(g Y).bind λxs=>.ok (x::xs):=id rfl
@[simp] theorem aD6(f:Sg->R (L9 Dz))(Y:Sg):bG f Y=(f Y).bind λxs=>if xs.length<=16777216 then .ok (.tuple xs)else .bad:=id rfl
@[simp] theorem sV(f:Sg->R (L9 Dz))(Y:Sg):cS f Y=(f Y).bind λxs=>if xs.length<=16777216 then .ok xs else .bad:=id rfl
@[simp] theorem pT(n:Nat)(G:L9 A->R A)(f:Sg->R (L9 A))(Y:Sg):aI n G f Y=(f Y).bind λas=>if as.length=n then G as else .bad:=id rfl
@[simp] theorem jH(n:Nat)(fb:Sg->R Fw)(b:L9 A):fnF n fb b=(fb (b.map some++replicate (n - b.length) none)).bind λw=>match w with | .rt (.l _)=>.bad | .rt a=>.ok a | .nx _=>.ok (.d .none)|_=>.bad:=id rfl
@[simp] theorem aBY(Y:Sg):sNx Y=.ok (.nx Y):=id rfl
@[simp] theorem aW(f g:Sg->R Fw)(Y:Sg):aB f g Y=(f Y).bind λw=>match w with | .nx Y'=>g Y'|w=>.ok w:=id rfl
@[simp] theorem aPU(f:Sg->R A)(Y:Sg):aM f Y=(f Y).bind λa=>.ok (.rt a):=id rfl
@[simp] theorem oR(t:Sg->R Bool)(f g:Sg->R Fw)(Y:Sg):sIf t f g Y=(t Y).bind λb=>if b=true then f Y else g Y:=id rfl
@[simp] theorem aXN(t:Sg->R Bool)(f g:Sg->R α)(Y:Sg):eIf t f g Y=(t Y).bind λb=>if b=true then f Y else g Y:=id rfl
@[simp] theorem sW(i:Nat)(f:Sg->R A)(Y:Sg):aY i f Y=(f Y).bind λa=>.ok (.nx (Y.set i (some a))):=id rfl
@[simp] theorem pU(i:Nat)(f:Sg->R (L9 Dz))(Y:Sg):bT i f Y=(f Y).bind λxs=>.ok (.nx (Y.set i (some (.l xs)))):=id rfl
@[simp] theorem aWY(f:Sg->R A)(Y:Sg):aFS f Y=(f Y).bind λ_=>.ok (.nx Y):=id rfl
@[simp] theorem aXO(i:Nat)(f:Sg->R Fw)(Y:Sg):sFz i f Y=f (fz i Y):=id rfl
@[simp] theorem aX8(i:Nat)(Y:Sg):fz i Y=match Y[i]? with|some (some (.l xs))=>Y.set i (some (.d (.list xs)))|_=>Y:=id rfl
@[simp] theorem sX(i:Nat)(f:Sg->R Dz)(Y:Sg):eY i f Y=match Y[i]? with|some (some (.l xs))=>(f Y).bind λx=>if xs.length < 16777216 then .ok (.nx (Y.set i (some (.l (xs++[x])))))else .bad|_=>.bad:=id rfl
@[simp] theorem aXB(fs:Dz->Sg->O9 Sg)(f:Sg->R Dz)(Y:Sg):n5 fs f Y=(f Y).bind λx=>(x4 (fs x Y)).bind λY'=>.ok (.nx Y'):=id rfl
@[simp] theorem oS(fi:Sg->R (L9 Dz))(fs:Dz->Sg->O9 Sg)(fb:Sg->R Fw)(Y:Sg):gM fi fs fb Y=(fi Y).bind λxs=>gL fs fb xs Y:=id rfl
@[simp] theorem aLQ(js:L9 (O9 Nat))(fi:Sg->R (L9 Dz))(fs:Dz->Sg->O9 Sg)(ft:Sg->R Bool)(fe:Sg->R Dz)(Y:Sg):bP js fi fs ft fe Y=(fi Y).bind λxs=>compL fs ft fe (cP js Y) xs:=id rfl
@[simp] theorem aTH(i:Nat)(x:Dz)(Y:Sg):stN i x Y=some (Y.set i (some (.d x))):=id rfl
@[simp] theorem aXP(fs:L9 (Dz->Sg->O9 Sg))(xs:L9 Dz)(Y:Sg):stT fs (.tuple xs) Y=stL fs xs Y:=id rfl
@[simp] theorem aXC(Y:Sg):stL [] [] Y=some Y:=id rfl
@[simp] theorem aWZ(f:Dz->Sg->O9 Sg)(fs:L9 (Dz->Sg->O9 Sg))(x:Dz)(xs:L9 Dz)(Y:Sg):stL (f::fs) (x::xs) Y=(f x Y).bind (stL fs xs):=id rfl
@[simp] theorem aD7(Y:Sg):cQ Y=.ok true:=id rfl
@[simp] theorem rE(b:Bool):asB (.bool b)=.ok b:=id rfl
@[simp] theorem aXD(f:Sg->R Bool)(Y:Sg):pK f Y=(f Y).bind λb=>.ok (!b):=id rfl
@[simp] theorem yD(f g:Sg->R Bool)(Y:Sg):mS f g Y=(f Y).bind λb=>if b=true then g Y else .ok false:=id rfl
@[simp] theorem aXQ(f g:Sg->R Bool)(Y:Sg):bOr f g Y=(f Y).bind λb=>if b=true then .ok true else g Y:=id rfl
@[simp] theorem aXE(f:Sg->R Dz)(Y:Sg):aFR f Y=(f Y).bind λx=>(asB x).bind λb=>.ok (.bool (!b)):=id rfl
@[simp] theorem aXF(f g:Sg->R Dz)(Y:Sg):aKX f g Y=(f Y).bind λx=>(asB x).bind λb=>if b=true then g Y else .ok (.bool false):=id rfl
@[simp] theorem aIZ(g:Dz->O9 Int->O9 Int->R α)(f:Sg->R Dz)(lo hi:Sg->R (O9 Int))(Y:Sg):eSl g f lo hi Y=(f Y).bind λx=>(lo Y).bind λl=>(hi Y).bind λh=>g x l h:=id rfl
@[simp] theorem aI0(Y:Sg):oNo Y=.ok none:=id rfl
@[simp] theorem aI1(f:Sg->R Dz)(Y:Sg):oSo f Y=(f Y).bind λx=>match x with | .int i=>.ok (some i)|_=>.bad:=id rfl
@[simp] theorem wM(f:Sg->R Dz)(Y:Sg):eU f Y=(f Y).bind λx=>match x with | .int j=>kF 0 j|_=>.bad:=id rfl
@[simp] theorem uO(i:Nat)(Y:Sg):lE i Y=.ok (.nx (Y.set i (some (.m [])))):=id rfl
@[simp] theorem sY(a:Bool)(i:Nat)(f:Sg->R Dz)(Y:Sg):iR a i f Y=(f Y).bind λk=>match Y[i]? with|some (some (.m ce))=>if a7 k (ce.map (·.1))=true then .ok (.bool (if a=true then !bC ce k else bC ce k))else .bad|some (some (.f ce))=>if a7 k (ce.map (·.1))=true then .ok (.bool (if a=true then !bC ce k else bC ce k))else .bad|_=>.bad:=id rfl
@[simp] theorem aBZ(i:Nat)(f:Sg->R Dz)(Y:Sg):gN i f Y=match Y[i]? with|some (some (.m ce))=>(f Y).bind λk=>if a7 k (ce.map (·.1))=true then(match b7 ce k with|some v=>.ok v|none=>.bad)else .bad|some (some (.f ce))=>(f Y).bind λk=>if a7 k (ce.map (·.1))=true then(match b7 ce k with|some v=>.ok v|none=>.bad)else .bad|_=>.bad:=id rfl
@[simp] theorem aLR(i:Nat)(f g:Sg->R Dz)(Y:Sg):iZ i f g Y=(g Y).bind λv=>match Y[i]? with|some (some (.m ce))=>(f Y).bind λk=>if a7 k (ce.map (·.1))=true/\ce.length<=16777216 then .ok (.nx (Y.set i (some (.m (putM ce k v)))))else .bad|_=>.bad:=id rfl
@[simp] theorem aI2(i j:Int):bJ (.int i) (.int j)=.ok (.int (i+j)):=id rfl
@[simp] theorem aXR(i j:Int):dSub (.int i) (.int j)=.ok (.int (i - j)):=id rfl
@[simp] theorem aXS(i:Int):dNeg (.int i)=.ok (.int (-i)):=id rfl
@[simp] theorem aF8(i j:Int):dLt (.int i) (.int j)=.ok (.bool (decide (i < j))):=id rfl
@[simp] theorem aX9(i j:Int):dLe (.int i) (.int j)=.ok (.bool (decide (i<=j))):=id rfl
@[simp] theorem aYA(i j:Int):dGt (.int i) (.int j)=.ok (.bool (decide (j < i))):=id rfl
@[simp] theorem aYB(i j:Int):dGe (.int i) (.int j)=.ok (.bool (decide (j<=i))):=id rfl
theorem bX{j:Int}(h:0 < j):dMod (.int i) (.int j)=.ok (.int (i % j)):=AJ h
theorem dY{j:Int}(h:0 < j)(h2:j < 18446744073709551616):dDiv (.int i) (.int j)=.ok (.int (i / j)):=AJ ⟨h,h2⟩
theorem m5{j:Int}(h : -18446744073709551616 < j)(h2:j < 18446744073709551616):dMul (.int i) (.int j)=.ok (.int (i * j)):=AJ (.inr ⟨h,h2⟩)
theorem wN{j:Int}(h : -18446744073709551616 < i)(h2:i < 18446744073709551616):dMul (.int i) (.int j)=.ok (.int (i * j)):=AJ (.inl ⟨h,h2⟩)
@[simp] theorem c7(xs:L9 Dz):dLen (.list xs)=.ok (.int xs.length):=id rfl
@[simp] theorem aB0(xs:L9 Dz):dLen (.tuple xs)=.ok (.int xs.length):=id rfl
theorem rF{z:Str}(h:z.length<=16777216):dLen (.str z)=.ok (.int z.length):=AJ h
@[simp] theorem aI3(xs:L9 Dz):dTup (.list xs)=.ok (.tuple xs):=id rfl
@[simp] theorem aXT(xs:L9 Dz):dTup (.tuple xs)=.ok (.tuple xs):=id rfl
@[simp] theorem aXU(xs:L9 Dz):dLst (.list xs)=.ok xs:=id rfl
@[simp] theorem aXV(xs:L9 Dz):dLst (.tuple xs)=.ok xs:=id rfl
@[simp] theorem aXW(i:Int):dInt (.int i)=.ok (.int i):=id rfl
@[simp] theorem aXX(b:Bool):dInt (.bool b)=.ok (.int (if b=true then 1 else 0)):=id rfl
@[simp] theorem aYC(x:Dz):dIs x .none=.ok (.bool (iJ x)):=id rfl
@[simp] theorem aXG(x:Dz):dIsnt x .none=.ok (.bool (!iJ x)):=id rfl
@[simp] theorem aXH:iJ .none=true:=id rfl
@[simp] theorem aXI(xs:L9 Dz):iJ (.tuple xs)=false:=id rfl
@[simp] theorem aXJ(i:Int):iJ (.int i)=false:=id rfl
@[simp] theorem aXK(i:Str):iJ (.str i)=false:=id rfl
theorem oU{xs:L9 α}{v:α}(h0:0<=i)(h:xs[i.toNat]? = some v):atI xs i=some v:=by
 obtain⟨j,rfl⟩:∃ j:Nat,i=j:=⟨i.toNat,by ext⟩
 exact cY (j:=j) h
theorem aB1(x:α)(t:L9 α):atI (x::t) 0=some x:=cY (j:=0) rfl
theorem aD8(x y:α)(t:L9 α):atI (x::y::t) 1=some y:=cY (j:=1) rfl
theorem aPV(x y z:α)(t:L9 α):atI (x::y::z::t) 2=some z:=cY (j:=2) rfl
theorem l9(h:atI xs i=some v):dIx (.tuple xs) (.int i)=.ok v:=by show(match atI xs i with|some v=>R.ok v|none=>.bad)=_;rw[h]
theorem iL(h:atI xs i=some v):dIx (.list xs) (.int i)=.ok v:=by show(match atI xs i with|some v=>R.ok v|none=>.bad)=_;rw[h]
theorem aNB{u:Nat}(hz:z.length<=16777216)(h:atI z.cps.toList i=some u):dIx (.str z) (.int i)=.ok (.str ⟨#[u]⟩):=by
 show(if z.length<=sizeLine then match atI z.cps.toList i with|some u=>R.ok (PyData.str ⟨#[u]⟩)|none=>.bad else .bad)=_
 rw[cO,AJ hz,h]
@[simp] theorem aB2(x:Dz)(t:L9 Dz):dIx (.tuple (x::t)) (.int 0)=.ok x:=l9 (aB1 x t)
@[simp] theorem aTI(x y:Dz)(t:L9 Dz):dIx (.tuple (x::y::t)) (.int 1)=.ok y:=l9 (aD8 x y t)
@[simp] theorem aXY(x y z:Dz)(t:L9 Dz):dIx (.tuple (x::y::z::t)) (.int 2)=.ok z:=l9 (aPV x y z t)
@[simp] theorem aXZ(x:Dz)(t:L9 Dz):dIx (.list (x::t)) (.int 0)=.ok x:=iL (aB1 x t)
@[simp] theorem aX0(x y:Dz)(t:L9 Dz):dIx (.list (x::y::t)) (.int 1)=.ok y:=iL (aD8 x y t)
theorem dO(h:xs.length<=16777216):aH (.tuple xs)=.ok xs:=AJ h
theorem bY{xs:L9 Dz}(h:xs.length<=16777216):aH (.list xs)=.ok xs:=AJ h
theorem aB3(h:z.cps.toList.length<=16777216):aH (.str z)=.ok (z.cps.toList.map λu=>.str ⟨#[u]⟩):=AJ h
theorem m6{x:Dz}(hx:shaped x=true)(a:shaped y=true):dEq x y=.ok (.bool (PyData.eqv x y)):=AJ ⟨hx,a⟩
theorem wO{x:Dz}(hx:shaped x=true)(a:shaped y=true):dNe x y=.ok (.bool (!PyData.eqv x y)):=AJ ⟨hx,a⟩
@[simp] theorem aX1(T:String)(i:Int):iE T (.int i)=.ok (.bool (jD "int" T)):=id rfl
@[simp] theorem aX2(T:String)(i:Str):iE T (.str i)=.ok (.bool (jD "str" T)):=id rfl
@[simp] theorem aX3(T:String)(i:L9 Dz):iE T (.tuple i)=.ok (.bool (jD "tuple" T)):=id rfl
@[simp] theorem aX4(T:String)(i:L9 Dz):iE T (.list i)=.ok (.bool (jD "list" T)):=id rfl
@[simp] theorem aX5(T:String)(i:Bool):iE T (.bool i)=.ok (.bool (jD "bool" T)):=id rfl
@[simp] theorem aX6(T:String):iE T .none=.ok (.bool (jD "NoneType" T)):=id rfl
theorem aVL(h:¬ (HT.sIx xs.length 0 lo=0/\HT.sIx xs.length xs.length hi=xs.length)):dSl (.tuple xs) lo hi=.ok (.tuple (jC xs lo hi)):=by
 unfold dSl;exact AJ h
theorem aF9(h:z.length<=16777216):dSl (.str z) lo hi=.ok (.str (Txt.slice z lo hi)):=by
 unfold dSl;exact AJ h
theorem aTJ{ys:L9 Dz}(h:xs.isEmpty=false)(h2:xs.length+ys.length<=16777216):bJ (.tuple xs) (.tuple ys)=.ok (.tuple (xs++ys)):=by
 unfold bJ;exact AJ ⟨h,by rw[cO];exact h2⟩
theorem aB4{y:Str}(h:x.length+y.length<=16777216):bJ (.str x) (.str y)=.ok (.str (x++y)):=by
 unfold bJ;exact AJ (by rw[cO];exact h)
theorem bK{fs:Dz->Sg->O9 Sg}{fe:Sg->R Dz}{Y0:Sg}{d:α->Dz}{g:α->Dz}:∀ {xs:L9 α},(∀ x∈xs,∃ Y1,fs (d x) Y0=some Y1/\fe Y1=.ok (g x))->compL fs cQ fe Y0 (xs.map d)=.ok (xs.map g)
 | [],_=>rfl
 | x::t,h=>by
  obtain⟨Y1,h1,h2⟩:=h x AU
  rw[AZ]
  unfold compL
  rw[h1,bK λy a=>h y (AS _ a),nL,R.bind_ok,aD7,R.noEx_ok,R.bind_ok,AJ rfl,h2];rfl
theorem dP{fs:Dz->Sg->O9 Sg}{fb:Sg->R Fw}{d:α->Dz}{xs:L9 α}{Y:Sg}(J:Nat->Sg->Prop)(h0:J 0 Y)(a:∀ (i:Nat) (x:α) (Y:Sg),xs[i]? = some x->J i Y->∃ Y1 Y2,fs (d x) Y=some Y1/\(fb Y1=.ok (.nx Y2)\/fb Y1=.ok (.ct Y2))/\J (i+1) Y2) :
  ∃ Y',gL fs fb (xs.map d) Y=.ok (.nx Y')/\J xs.length Y':=by
 induction xs generalizing Y J with
 | nil=>exact⟨Y,rfl,h0⟩
 | cons x t ih=>
  obtain⟨Y1,Y2,h1,h2,g⟩:=a 0 x Y rfl h0
  obtain⟨Y',f,e⟩:=ih (Y:=Y2) (λi=>J (i+1)) g (λi y Y b c=>a (i+1) y Y (by simpa using b) c)
  refine⟨Y',?_,e⟩
  rw[AZ]
  unfold gL
  rw[h1,nL,R.bind_ok]
  rcases h2 with h2|h2<;>rw[h2]<;>exact f
theorem eS{t:Sg->R Bool}{b:Sg->R Fw}{a:Sg}(h1:t Y=.ok true)(h2:b Y=.ok (.nx a)):aX t b Y=aX t b a:=by
 rw[qZ,h1,R.bind_ok,AJ rfl,h2];rfl
theorem iT{t:Sg->R Bool}{b:Sg->R Fw}{a:A}(h1:t Y=.ok true)(h2:b Y=.ok (.rt a)):aX t b Y=.ok (.rt a):=by
 rw[qZ,h1,R.bind_ok,AJ rfl,h2];rfl
theorem cL{t:Sg->R Bool}{b:Sg->R Fw}(h1:t Y=.ok false):aX t b Y=.ok (.nx Y):=by
 rw[qZ,h1,R.bind_ok,AM (by decide)]
def been(d:α->Dz)(ps:L9 α):L9 (Dz×Dz):=ps.map λp=>(d p,.bool true)
theorem rG(d:α->Dz)(ps:L9 α):(been d ps).map (·.1)=ps.map d:=by unfold been;rw[AX];rfl
theorem m8{d:α->Dz}(c:∀ a b,d a=d b->a=b){ps:L9 α}{p:α}:bC (been d ps) (d p)=true↔p∈ps:=by
 rw[mU,rG,AN]
 ext
theorem gJ{d:α->Dz}(c:∀ a b,d a=d b->a=b){ps:L9 α}{p:α}(h:p∉ps):bC (been d ps) (d p)=false:=by
 cases q:bC (been d ps) (d p)with
 | false=>rfl
 | true=>exact absurd ((m8 c).mp q) h
theorem kZ{d:α->Dz}(c:∀ a b,d a=d b->a=b){ps:L9 α}{p:α}(h:p∉ps):putM (been d ps) (d p) (.bool true)=been d (ps++[p]):=by
 unfold putM
 rw[gJ c h,AM (by decide)]
 unfold been
 rw[A8];rfl
theorem iU{d:α->Dz}(b:∀ a,eE (d a)=true)(ps:L9 α)(p:α):a7 (d p) ((been d ps).map (·.1))=true:=by
 unfold a7
 rw[rG,b,GD,CL,BI]
 simp_all
theorem iV(d:α->Dz)(ps:L9 α):(been d ps).length=ps.length:=by unfold been;rw[AA]
def prD(p:Int×Int):Dz:=.tuple [.int p.1,.int p.2]
theorem j6(a b:Int×Int)(h:prD a=prD b):a=b:=by
 unfold prD at h
 ext
theorem k6(a:Int×Int):eE (prD a)=true:=rfl
end Fl
variable{i:Nat}{n:Int}
namespace Mc
open Fl
variable{rs:L9 Rw}
theorem aD9{r:Rw}:eP [.d (aE (r::rs))]=.ok (.d (.int r.c.length)):=by
 simp[eP,wF,aE,a6]
theorem Mach.cons{rs:L9 Rw}{sg:Nat}(M:Mach rs sg):∃ r t,rs=r::t/\r.c.length=sg:=by
 cases rs with
 | nil=>have:=M.len;simp at this
 | cons r t=>exact⟨r,t,rfl,(M.row r AU).2⟩
def ck(k:Nat)(r:Rw):Int×Int:=r.c.getD k (0,0)
theorem aPW(M:Mach rs sg)(b:k < sg):i4 [.d (aE rs),.d (.int k)]=.ok (.d (.list (rs.map λr=>cellD (ck k r)))):=by
 have h:=bK (fs:=stN 0) (fe:=e2 dIx (e2 dIx (rV 0) (eC (.int 1))) (rV 1)) (Y0:=[none,some (.d (.int k))]) (d:=a6) (g:=λr=>cellD (ck k r)) (xs:=rs) λr hr=>by
  refine⟨_,rfl,?_⟩
  have e:dIx (.tuple (r.c.map cellD)) (.int (k:Int))=.ok (cellD (ck k r)):=l9 (cY (j:=k) (by rw[AC,(oQ M hr b).1];rfl))
  simp[a6,e]
 have a:(rs.map a6).length<=16777216:=by have:=M.len2;rw[AA];ext
 simp[i4,wG,aE,dO a,cP,h]
theorem gK{n:Nat}(h:n<=16777216):kF 0 (n:Int)=.ok ((range n).map λi:Nat=>.int (i:Int)):=by
 unfold kF
 rw[AJ (by ext)]
 unfold mT
 simp
theorem aI4(z y:Str):v4 (.str z) (.str y)=match Builtin.Str.occurrences z y 0 z.length 1 with|i::_=>R.ok (PyData.int i)|[]=>.bad:=rfl
theorem aPX(h:bA 3 c=true):v4 (.str "abc") (.str ⟨#[c]⟩)=.ok (.int ((c - 97:Nat):Int)):=by
 obtain⟨r,e⟩:=aHC h
 rw[aI4,e]
theorem aLS{n:Nat}(a:n<=3)(h:bA n c=true):bA 3 c=true:=AY (by have:=BH h;ext)
theorem bZ(i:Int):shaped (.int i)=true:=id rfl
theorem wP(i j:Int):PyData.eqv (.int i) (.int j)=decide (i=j):=by
 rw[PyData.eqv.eq_5]
 rfl
theorem dF(i j:Int):dEq (.int i) (.int j)=.ok (.bool (decide (i=j))):=by rw[m6 (bZ i) (bZ j),wP]
def n9:Sg->R Fw:=(aB (aY 2 (vD (eC (.int 0))))
 (aB (sIf (e1 asB (e2 dGt (e1 dLen (rV 0)) (eC (.int 0)))) (aY 2 (vD (e2 dIx (rV 0) (e2 dMod (rV 1) (e1 dLen (rV 0)))))) sNx)
 (aB (aY 3 (vD (e2 dMod (e2 dMul (e2 bJ (e2 bJ (e2 dMod (rV 2) (eC (.int 2147483647))) (e2 dMul (eC (.int 7919)) (rV 1))) (eC (.int 1))) (eC (.int 48271))) (eC (.int 2147483647)))))
 (aM (vD (e2 bJ (e2 dMul (e2 dDiv (rV 2) (eC (.int 2147483647))) (eC (.int 2147483659))) (e2 dMod (e2 bJ (e2 dMul (rV 3) (eC (.int 69621))) (e2 dMul (eC (.int 104729)) (rV 1))) (eC (.int 2147483659)))))))))
def bW:L9 A->R A:=fnF 4 n9
def pV:Sg->R Fw:=(aB (sIf (e1 asB (e2 dEq (e2 dMod (rV 0) (eC (.int 3))) (eC (.int 0)))) (aM (vD (e2 dIx (eL (cS (aA (eC (.str "by")) (aA (eC (.str "out")) aC)))) (e2 dMod (e2 dDiv (rV 0) (eC (.int 3))) (eC (.int 2)))))) sNx)
 (aM (vD (e2 dMod (e2 dDiv (rV 0) (eC (.int 3))) (rV 1)))))
def gP:L9 A->R A:=fnF 2 pV
def m9:Sg->R Fw:=(aB (aY 3 (vD (e2 dMod (rV 0) (e2 bJ (rV 1) (eC (.int 2))))))
 (aB (aY 0 (vD (e2 dDiv (rV 0) (e2 bJ (rV 1) (eC (.int 2))))))
 (aB (bT 4 (cS aC))
 (aB (gM (eU (rV 2)) (stN 5) (aB (eY 4 (bG (aA (e2 dMod (e2 dDiv (rV 0) (eC (.int 2))) (rV 1)) (aA (e2 dSub (eC (.int 1)) (e2 dMul (e2 dMod (rV 0) (eC (.int 2))) (eC (.int 2)))) aC))))
 (aY 0 (vD (e2 dDiv (rV 0) (e2 dMul (eC (.int 2)) (rV 1)))))))
 (aB (bT 6 (cS (aA (eV 3) (aA (e2 dMod (rV 0) (e2 bJ (rV 1) (eC (.int 2)))) aC))))
 (aB (bT 6 (bP [none,some 1] (e1 aH (rV 6)) (stN 0) cQ (eIf (e1 asB (e2 dGe (rV 0) (rV 1))) (e2 dIx (eL (cS (aA (eC (.str "by")) (aA (eC (.str "out")) aC)))) (e2 dSub (rV 0) (rV 1))) (eV 0))))
 (aM (vD (bG (aA (e2 dIx (rV 6) (eC (.int 0))) (aA (e1 dTup (rV 4)) (aA (e2 dIx (rV 6) (eC (.int 1))) aC))))))))))))
def gQ:L9 A->R A:=fnF 7 m9
def mxB:Sg->R Fw:=aB (aY 0 (vD (e2 dMod (e2 bJ (e2 dMul (rV 0) (eC (.int 48271))) (eC (.int 7919))) (eC (.int 2147483647))))) (eY 3 (e2 dDiv (rV 0) (eC (.int 64))))
def mxE:Sg->R Dz:=bG (aA (e2 dMod (rV 0) (rV 1)) (aA (e2 dSub (eC (.int 1)) (e2 dMul (e2 dDiv (e2 dMod (e2 dDiv (rV 0) (eC (.int 64))) (eC (.int 3))) (eC (.int 2))) (eC (.int 2)))) aC))
def nA:Sg->R Fw:=(aB (bT 3 (cS aC))
 (aB (gM (eU (e2 bJ (rV 2) (eC (.int 2)))) (stN 4) mxB)
 (aB (aY 5 (vD (e1 dTup (eL (bP [none,some 1] (e1 aH (eSl dSl (rV 3) (oSo (eC (.int 2))) oNo)) (stN 0) cQ mxE)))))
 (aM (vD (bG (aA (eA (aI 2 gP (aA (vD (e2 dIx (rV 3) (eC (.int 0)))) (aA (vV 1) aC)))) (aA (eV 5) (aA (eA (aI 2 gP (aA (vD (e2 dIx (rV 3) (eC (.int 1)))) (aA (vV 1) aC)))) aC)))))))))
def gR:L9 A->R A:=fnF 6 nA
def mcT:Sg->R Bool:=(mS (e1 asB (e2 dLt (e2 bJ (rV 1) (rV 5)) (e1 dLen (rV 0)))) (e1 asB (e2 dEq (e2 dMod (e2 dIx (rV 0) (eC (.int 0))) (eC (.int 2))) (eC (.int 1)))))
def mcU:Sg->R Bool:=(mS (e1 asB (e2 dEq (rV 5) (eC (.int 0)))) (mS (e1 asB (e1 (iE "str") (e2 dIx (rV 6) (eC (.int 0))))) (e1 asB (e2 dGt (e2 dMod (e2 dDiv (eA (aI 2 bW (aA (vV 0) (aA (vV 1) aC)))) (eC (.int 8))) (eC (.int 8))) (eC (.int 0))))))
def mcB:Sg->R Fw:=(sIf mcT (eY 4 (eA (aI 3 gQ (aA (vD (e2 dIx (rV 0) (e2 bJ (rV 1) (rV 5)))) (aA (vV 2) (aA (vV 3) aC)))))) (aB (aY 6 (aI 3 gR (aA (vD (e2 dMod (eA (aI 2 bW (aA (vV 0) (aA (vD (e2 bJ (rV 1) (rV 5))) aC)))) (eC (.int 2147483647)))) (aA (vV 2) (aA (vV 3) aC)))))
 (aB (sIf mcU (aY 6 (vD (e2 bJ (bG (aA (e2 dMod (e2 dDiv (eA (aI 2 bW (aA (vV 0) (aA (vV 1) aC)))) (eC (.int 64))) (rV 2)) aC)) (eSl dSl (rV 6) (oSo (eC (.int 1))) oNo)))) sNx)
 (eY 4 (eV 6)))))
def oV:Sg->R Fw:=(aB (bT 4 (cS aC)) (aB (gM (eU (rV 2)) (stN 5) mcB) (aM (vD (e1 dTup (rV 4))))))
def i6:L9 A->R A:=fnF 7 oV
def kK:Sg->R Fw:=(aB (sIf (mS (e1 asB (e2 dLt (rV 1) (e1 dLen (rV 0)))) (e1 asB (e2 dEq (e2 dMod (e2 dIx (rV 0) (eC (.int 0))) (eC (.int 2))) (eC (.int 1))))) (aB (aY 4 (vD (e2 dIx (rV 0) (rV 1))))
 (aB (aY 5 (vD (eC (.str ""))))
 (aB (gM (eU (rV 2)) (stN 6) (aB (aY 5 (vD (e2 bJ (rV 5) (e2 dIx (eC (.str "abc")) (e2 dMod (rV 4) (rV 3))))))
 (aY 4 (vD (e2 dDiv (rV 4) (rV 3))))))
 (aM (vV 5))))) sNx)
 (aM (vD (e2 sL (eC (.str "")) (eL (bP [none,some 0,some 1,some 3] (eU (rV 2)) (stN 0) cQ (e2 dIx (eC (.str "abc")) (e2 dMod (eA (aI 2 bW (aA (vV 1) (aA (vD (e2 bJ (rV 2) (rV 0))) aC)))) (rV 3)))))))))
def gB:L9 A->R A:=fnF 7 kK
def tZ:Sg->R Fw:=(aB (n5 (stT [(stN 3),(stN 4)]) (eV 2))
 (aB (n5 (stT [(stN 5),(stN 6),(stN 7)]) (e2 dIx (rV 0) (rV 4)))
 (aB (sIf (bOr (e1 asB (e2 dEq (rV 3) (eC (.int 0)))) (e1 asB (e2 dGt (rV 3) (e1 dLen (rV 1))))) (aB (aY 8 (vD (e2 dIx (eL (cS (aA (eV 5) (aA (eV 7) aC)))) (e1 dInt (e2 dGt (rV 3) (eC (.int 0)))))))
 (aB (sIf (e1 asB (e1 (iE "str") (rV 8))) (aM (vD (eC .none))) sNx)
 (aM (vD (bG (aA (e2 dIx (eL (cS (aA (eC (.int 1)) (aA (e1 dLen (rV 1)) aC)))) (e1 dInt (e2 dGt (rV 3) (eC (.int 0))))) (aA (eV 8) aC))))))) sNx)
 (aB (n5 (stT [(stN 8),(stN 9)]) (e2 dIx (rV 6) (e2 v4 (eC (.str "abc")) (e2 dIx (rV 1) (e2 dSub (rV 3) (eC (.int 1)))))))
 (aM (vD (bG (aA (e2 bJ (rV 3) (rV 9)) (aA (eV 8) aC)))))))))
def iB:L9 A->R A:=fnF 10 tZ
def uP:Sg->R Bool:=(e1 asB (iR true 3 (e2 dIx (rV 2) (e1 dNeg (eC (.int 1))))))
def uQ:Sg->R Fw:=(aB (iZ 3 (e2 dIx (rV 2) (e1 dNeg (eC (.int 1)))) (eC (.bool true)))
 (aB (aY 4 (aI 3 iB (aA (vV 0) (aA (vV 1) (aA (vD (e2 dIx (rV 2) (e1 dNeg (eC (.int 1))))) aC)))))
 (aB (sIf (e1 asB (e2 dIs (rV 4) (eC .none))) (sFz 2 (aM (vV 2))) sNx)
 (eY 2 (eV 4)))))
def qE:Sg->R Fw:=aB (bT 2 (cS (aA (bG (aA (eC (.int 0)) (aA (eC (.int 0)) aC))) aC))) (aB (lE 3) (aB (aX uP uQ) (sFz 2 (aM (vV 2)))))
def jM:L9 A->R A:=fnF 5 qE
def t5:Sg->R Fw:=(aB (n5 (stT [(stN 2),(stN 3)]) (e2 dIx (eA (aI 2 jM (aA (vV 0) (aA (vV 1) aC)))) (e1 dNeg (eC (.int 1)))))
 (aB (sIf (e1 asB (e2 dIsnt (eA (aI 3 iB (aA (vV 0) (aA (vV 1) (aA (vD (bG (aA (eV 2) (aA (eV 3) aC)))) aC))))) (eC .none))) (aM (vD (eC (.str "ever")))) sNx)
 (aM (vD (e2 dIx (eL (cS (aA (e2 dIx (e2 dIx (rV 0) (rV 3)) (eC (.int 0))) (aA (e2 dIx (e2 dIx (rV 0) (rV 3)) (eC (.int 2))) aC)))) (e1 dInt (e2 dGt (rV 2) (eC (.int 0)))))))))
def bN:L9 A->R A:=fnF 4 t5
def lsT:Sg->R Bool:=(mS (e1 asB (e2 dLt (rV 3) (e1 dLen (rV 2)))) (e1 asB (e2 dLt (e1 dLen (e2 dIx (rV 2) (rV 3))) (rV 1))))
def lsF:Sg->R Fw:=(eY 2 (e2 bJ (e2 dIx (rV 2) (rV 3)) (rV 4)))
def lsB:Sg->R Fw:=(aB (gM (e1 aH (eSl dSl (eC (.str "abc")) oNo (oSo (rV 0)))) (stN 4) lsF)
 (aY 3 (vD (e2 bJ (rV 3) (eC (.int 1))))))
def qF:Sg->R Fw:=(aB (bT 2 (cS (aA (eC (.str "")) aC))) (aB (aY 3 (vD (eC (.int 0)))) (aB (aX lsT lsB) (sFz 2 (aM (vV 2))))))
def jN:L9 A->R A:=fnF 5 qF
def byT:Sg->R Bool:=(e1 asB (e2 dLe (rV 2) (e1 dLen (rV 1))))
def byB:Sg->R Fw:=(aB (sIf (e1 asB (iR false 4 (bG (aA (eV 2) (aA (eV 3) aC))))) (aM (vD (eC (.str "ever")))) sNx)
 (aB (iZ 4 (bG (aA (eV 2) (aA (eV 3) aC))) (eC (.bool true)))
 (aB (sIf (mS (e1 asB (e2 dEq (rV 2) (eC (.int 0)))) (e1 asB (e1 (iE "str") (e2 dIx (e2 dIx (rV 0) (rV 3)) (eC (.int 0)))))) (aM (vD (e2 dIx (e2 dIx (rV 0) (rV 3)) (eC (.int 0))))) sNx)
 (n5 (stT [(stN 2),(stN 3)]) (eA (aI 3 iB (aA (vV 0) (aA (vV 1) (aA (vD (bG (aA (eV 2) (aA (eV 3) aC)))) aC)))))))))
def qG:Sg->R Fw:=aB (lE 4) (aB (aX byT byB) (aM (vV 3)))
def fD:L9 A->R A:=fnF 5 qG
def nB:Sg->R Fw:=(aB (bT 2 (bP [none,some 0,some 1] (eU (e1 dLen (rV 0))) (stN 0) cQ (eA (aI 4 fD (aA (vV 1) (aA (vV 2) (aA (vD (e1 dLen (rV 2))) (aA (vV 0) aC))))))))
 (aM (vD (bG (aA (eA (aI 4 fD (aA (vV 0) (aA (vV 1) (aA (vD (eC (.int 0))) (aA (vD (eC (.int 0))) aC)))))) (aA (e1 dTup (rV 2)) aC))))))
def cM:L9 A->R A:=fnF 3 nB
def wyT:Sg->R Bool:=(e1 asB (e2 dLt (e1 dLen (rV 5)) (e1 dLen (rV 3))))
def wyF:Sg->R Fw:=(aB (aY 8 (vD (e2 bJ (e2 dIx (rV 3) (e1 dLen (rV 5))) (rV 7))))
 (aB (aY 9 (aI 2 cM (aA (vV 0) (aA (vV 8) aC))))
 (aB (sIf (e1 asB (iR true 4 (eV 9))) (aB (iZ 4 (eV 9) (e1 dLen (rV 3)))
 (eY 3 (eV 8))) sNx)
 (eY 6 (gN 4 (eV 9))))))
def wyB:Sg->R Fw:=(aB (bT 6 (cS aC))
 (aB (gM (e1 aH (eSl dSl (eC (.str "abc")) oNo (oSo (rV 1)))) (stN 7) wyF)
 (aB (eY 5 (e1 dTup (rV 6)))
 (sIf (e1 asB (e2 dGt (e1 dLen (rV 3)) (rV 2))) (aM (vD (eC .none))) sNx))))
def wyE:Sg->R Fw:=(sFz 3 (aM (vD (bG (aA (eV 3) (aA (e1 dTup (rV 5)) (aA (e1 dTup (eL (bP [none,some 0] (e1 aH (rV 3)) (stN 0) cQ (eA (aI 2 bN (aA (vV 1) (aA (vV 0) aC))))))) aC)))))))
def t6:Sg->R Fw:=(aB (bT 3 (cS (aA (eC (.str "")) aC)))
 (aB (nN 4 (lZ (eA (aI 2 cM (aA (vV 0) (aA (vD (eC (.str ""))) aC)))) (eC (.int 0)) uG))
 (aB (bT 5 (cS aC)) (aB (aX wyT wyB) wyE))))
def oA:L9 A->R A:=fnF 10 t6
def cR(ns:L9 Int):Dz:=.list (ns.map .int)
theorem j7(ns:L9 Int):dLen (cR ns)=.ok (.int ns.length):=by unfold cR;rw[c7,AA]
theorem rH{ns:L9 Int}{i:Int}(h0:0<=i)(h1:i < ns.length):∃ v,dIx (cR ns) (.int i)=.ok (.int v):=by
 refine⟨ns[i.toNat]'(by ext),iL (oU h0 ?_)⟩
 rw[AC,AI (by ext)];rfl
theorem oW(ns:L9 Int)(k:Int):∃ v,bW [.d (cR ns),.d (.int k)]=.ok (.d (.int v)):=by
 by_cases h:(0:Int) < ns.length
 .obtain ⟨v,c⟩:=rH (ns:=ns) (i:=k % (ns.length:Int)) (CB _ (by ext)) (BY _ h)
  have b:dMod (.int k) (.int (ns.length:Int))=.ok (.int (k % (ns.length:Int))):=bX h
  have a:0 < ns.length:=by ext
  refine⟨v / 2147483647 * 2147483659+((v % 2147483647+7919 * k+1) * 48271 % 2147483647 * 69621+104729 * k) % 2147483659,?_⟩
  unfold bW n9
  simp[j7,a,b,c,bX,m5,wN,dY]
 .have a:¬ 0 < ns.length:=by ext
  refine⟨((7919 * k+1) * 48271 % 2147483647 * 69621+104729 * k) % 2147483659,?_⟩
  unfold bW n9
  simp[j7,a,bX,m5,wN,dY]
theorem aTK(x y:Dz)(i:Int):∃ z,dIx (.list [x,y]) (.int (i % 2))=.ok z/\(z=x\/z=y):=by
 rcases Int.emod_two_eq i with h|h
 · simp_all
 · simp_all
theorem aNC(x:Int)(c:0 < n):∃ t:Tn,gP [.d (.int x),.d (.int n)]=.ok (.d t.d)/\t.good n:=by
 by_cases h:x % 3=0
 .obtain ⟨z,f,b⟩:=aTK (.str "by") (.str "out") (x / 3)
  have a:decide (x % 3=0)=true:=AY h
  have e:gP [.d (.int x),.d (.int n)]=.ok (.d z):=by
   unfold gP pV
   simp[bX,dY,dF,a,f]
  rcases b with rfl|rfl
  .exact ⟨.w "by",e,.inl rfl⟩
  .exact ⟨.w "out",e,.inr rfl⟩
 .have a:decide (x % 3=0)=false:=A5 h
  refine⟨.n (x / 3 % n),?_,CB _ (by ext),BY _ c⟩
  unfold gP pV
  simp[bX,dY,dF,a,c]
  rfl
theorem aGA{n:Nat}(h:n<=16777216):kF 0 (n:Int)=.ok ((range n).map λi:Nat=>.int (i:Int)):=gK h
theorem aLT{fs:Dz->Sg->O9 Sg}{fb:Sg->R Fw}{x:Dz}{Y a b:Sg}(h1:fs x Y=some a)(h2:fb a=.ok (.nx b)):gL fs fb (x::xs) Y=gL fs fb xs b:=by
 conv=>lhs;unfold gL
 rw[h1,show x4 (some a)=R.ok a from rfl,R.bind_ok,h2,R.bind_ok]
theorem aGB{Z:Type}{fs:Dz->Sg->O9 Sg}{fb:Sg->R Fw}{d:α->Dz}{e:β->Dz}{G:β->Prop}{R':L9 Dz->Z->Sg}:∀ {xs:L9 α},(∀ x∈xs,∀ L s,L.length < 16777216->∃ Y1 s' b,fs (d x) (R' L s)=some Y1/\fb Y1=.ok (.nx (R' (L++[e b]) s'))/\G b)->∀ L s,L.length+xs.length<=16777216->
  ∃ (s':Z) (bs:L9 β),gL fs fb (xs.map d) (R' L s)=.ok (.nx (R' (L++bs.map e) s'))/\bs.length=xs.length/\∀ b∈bs,G b
 | [],_,L,s,_=>⟨s,[],by rw[BQ,BQ,C0];rfl,rfl,λb h=>nomatch h⟩
 | x::t,h,L,s,hl=>by
  rw[BG]at hl
  obtain⟨Y1,s1,b,h1,h2,g⟩:=h x AU L s (by ext)
  obtain⟨s',bs,f,c,i⟩:=aGB (λy a=>h y (AS _ a)) (L++[e b]) s1 (by rw[A2,BU];ext)
  exact⟨s',b::bs,by rw[AZ,aLT h1 h2,f,AZ,EW];rfl,by rw[BG,BG,c],λy a=>(AW.mp a).elim (λe=>e▸g) (i y)⟩
theorem aPY(x:Int)(j:0 < n)(D:sg<=1000):∃ r:Rw,gR [.d (.int x),.d (.int n),.d (.int sg)]=.ok (.d (a6 r))/\r.good n/\r.c.length=sg:=by
 have hr:kF 0 ((sg:Int)+2)=.ok ((range (sg+2)).map λi:Nat=>.int (i:Int)):=gK (n:=sg+2) (by ext)
 obtain⟨⟨y,u⟩,ps,p,h,_⟩:=aGB (fs:=stN 4) (fb:=mxB) (d:=λi:Nat=>.int (i:Int)) (e:=PyData.int) (G:=λ_=>True) (xs:=range (sg+2)) (R':=λL (s:Int×O9 A)=>[some (.d (.int s.1)),some (.d (.int n)),some (.d (.int sg)),some (.l L),s.2,none]) (λk _ L s B=>by
  refine⟨_,((s.1 * 48271+7919) % 2147483647,some (.d (.int k))),(s.1 * 48271+7919) % 2147483647 / 64,rfl,?_,trivial⟩
  unfold mxB
  simp[m5,wN,bX,dY,B]) [] (x,none) (by simp;ext)
 rw[A4]at h
 obtain⟨b,a,qs,rfl,w⟩:∃ b a qs,ps=b::a::qs/\qs.length=sg:=by
  match ps,h with
  | b::a::qs,h=>exact⟨b,a,qs,rfl,by simpa using h⟩
 have f:dSl (.list (.int b::.int a::qs.map .int)) (some 2) none=.ok (.list (qs.map .int)):=by
  show R.ok (PyData.list (jC _ _ _))=_
  unfold jC HT.sIx
  ext
 obtain⟨t0,e0,t⟩:=aNC b j
 obtain⟨z,o,v⟩:=aNC a j
 have m:=bK (fs:=stN 0) (fe:=mxE) (Y0:=[none,some (.d (.int n))]) (d:=PyData.int) (g:=λq=>cellD (q % n,1 - q / 64 % 3 / 2 * 2)) (xs:=qs) λq _=>⟨_,rfl,by unfold mxE;simp[bX,dY,m5,j,cellD]⟩
 have hi:aH (.list (qs.map .int))=.ok (qs.map .int):=bY (by rw[AA];ext)
 refine⟨⟨t0,qs.map λq=>(q % n,1 - q / 64 % 3 / 2 * 2),z⟩,?_,⟨t,v,λc m=>?_⟩,by simpa using w⟩
 .unfold gR a6
  rw[nA,AX]
  change compL _ _ _ _ _=.ok (qs.map (cellD∘λq=>(q % n,1 - q / 64 % 3 / 2 * 2)))at m
  simp only[B6,AZ]at p
  generalize qs.map PyData.int=Q at *
  generalize qs.map (cellD∘λq=>(q % n,1 - q / 64 % 3 / 2 * 2))=C at *
  simp[hr,p,f,hi,cP,m,e0,o]
 .obtain ⟨q,_,rfl⟩:=AN.mp m
  refine⟨CB _ (by ext),BY _ j,?_⟩
  ext
theorem aPZ(x:Int)(D:0 < n)(I:n<=1000)(N:sg<=1000):∃ r:Rw,gQ [.d (.int x),.d (.int n),.d (.int sg)]=.ok (.d (a6 r))/\r.good n/\r.c.length=sg:=by
 have hr:=gK (n:=sg) (by ext)
 have f:(0:Int) < n+2:=by ext
 have B:n+2 < 18446744073709551616:=by ext
 have u:(0:Int) < 2 * n:=by ext
 have g:2 * n < 18446744073709551616:=by ext
 obtain⟨M,H,y,cs,v,m,s,rfl⟩:=dP (fs:=stN 5) (fb:=aB (eY 4 (bG (aA (e2 dMod (e2 dDiv (rV 0) (eC (.int 2))) (rV 1)) (aA (e2 dSub (eC (.int 1)) (e2 dMul (e2 dMod (rV 0) (eC (.int 2))) (eC (.int 2)))) aC)))) (aY 0 (vD (e2 dDiv (rV 0) (e2 dMul (eC (.int 2)) (rV 1))))))
  (d:=λi:Nat=>.int (i:Int)) (xs:=range sg) (Y:=[some (.d (.int (x / (n+2)))),some (.d (.int n)),some (.d (.int sg)),some (.d (.int (x % (n+2)))),some (.l []),none,none])
  (λi Y=>∃ (y:Int) (cs:L9 (Int×Int)) (v:O9 A),cs.length=i/\(∀ c∈cs,mO n c)/\Y=[some (.d (.int y)),some (.d (.int n)),some (.d (.int sg)),some (.d (.int (x % (n+2)))),some (.l (cs.map cellD)),v,none]) ⟨x / (n+2),[],none,rfl,λc o=>by simp at o,rfl⟩
  (λi k Y G C=>by
   obtain⟨y,cs,v,m,s,rfl⟩:=C
   have hi:i < sg:=by have:=(AD.mp G).1;simpa using this
   have L:(cs.map cellD).length < 16777216:=by rw[AA,m];ext
   refine⟨_,_,rfl,.inl ?_,y / (2 * n),cs++[(y / 2 % n,1 - y % 2 * 2)],some (.d (.int k)),by simp[m],λc o=>?_,rfl⟩
   .have q:cs.length < 16777216:=by ext
    simp[m5,wN,bX,dY,D,u,g,cellD,q]
   .rcases A7.mp o with z|z
    .exact s c z
    .rw[AK.mp z]
     refine⟨CB _ (by ext),BY _ D,?_⟩
     simp only;ext)
 rw[A4]at m
 have j:∀ e:Int,0<=e->e < n+2->∃ t:Tn,(eIf (e1 asB (e2 dGe (rV 0) (rV 1))) (e2 dIx (eL (cS (aA (eC (.str "by")) (aA (eC (.str "out")) aC)))) (e2 dSub (rV 0) (rV 1))) (eV 0)) [some (.d (.int e)),some (.d (.int n))]=.ok t.d/\t.good n:=λe J h1=>by
  by_cases h:n<=e
  .obtain rfl|rfl:e=n\/e=n+1:=by ext
   .exact ⟨.w "by",by simp[Tn.d],.inl rfl⟩
   .exact ⟨.w "out",by simp[Tn.d,show n+1 - n=1 by ext,show n<=n+1 by ext],.inr rfl⟩
  .exact ⟨.n e,by simp[Tn.d,h],J,by ext⟩
 obtain⟨t0,e0,F⟩:=j (x % (n+2)) (CB _ (by ext)) (BY _ f)
 obtain⟨E,p,K⟩:=j (y % (n+2)) (CB _ (by ext)) (BY _ f)
 have o:compL (stN 0) cQ (eIf (e1 asB (e2 dGe (rV 0) (rV 1))) (e2 dIx (eL (cS (aA (eC (.str "by")) (aA (eC (.str "out")) aC)))) (e2 dSub (rV 0) (rV 1))) (eV 0)) [none,some (.d (.int n))] [.int (x % (n+2)),.int (y % (n+2))]=.ok [t0.d,E.d]:=by
  simp only[compL,aTH,BJ,nL,R.bind_ok,aD7,R.noEx_ok,CU,e0,p]
 have hi:∀ a b:Dz,aH (.list [a,b])=.ok [a,b]:=λa b=>bY (by simp)
 refine⟨⟨t0,cs,E⟩,?_,⟨F,K,s⟩,m⟩
 unfold gQ m9
 simp only[jH,AZ,BQ,CD,B6,BG,BR,replicate,aW,sW,sU,kJ,jL,lG,A9,BE,R.bind_ok,aI2,bX f,dY f B,BJ,BS,pU,sV,i5,oS,wM,hr]
 simp only[BP,CU,R.bind_ok,BJ,BS,A9,BE,hr,H]
 simp only[jS,wK,i5,kJ,jL,lG,A9,BE,R.bind_ok,aI2,bX f,aLQ,lH,BJ,BS]
 simp[hi,cP,o,a6,bX f]
theorem aTL{ns:L9 Int}{at':Int}{n sg:Nat}(S:0<=at')(h1:1<=n)(h2:n<=1000)(s1:1<=sg)(K:sg<=3):∃ rs:L9 Rw,i6 [.d (cR ns),.d (.int at'),.d (.int n),.d (.int sg)]=.ok (.d (aE rs))/\Mach rs sg/\rs.length=n:=by
 have hr:=gK (n:=n) (by ext)
 have j:(0:Int) < (n:Int):=by ext
 obtain⟨s',rs,E,u,P⟩:=aGB (fs:=stN 5) (fb:=mcB) (d:=λi:Nat=>.int (i:Int)) (e:=a6) (G:=λr=>r.good n/\r.c.length=sg) (xs:=range n) (R':=λL (s:O9 A×O9 A)=>[some (.d (cR ns)),some (.d (.int at')),some (.d (.int n)),some (.d (.int sg)),some (.l L),s.1,s.2]) (λk _ L s C=>by
  obtain⟨b,t,q⟩:∃ b,mcT [some (.d (cR ns)),some (.d (.int at')),some (.d (.int n)),some (.d (.int sg)),some (.l L),some (.d (.int k)),s.2]=.ok b/\(b=true->∃ w,dIx (cR ns) (.int (at'+k))=.ok (.int w)):=by
   unfold mcT
   by_cases z:at'+(k:Int) < (ns.length:Int)
   .obtain ⟨M,o⟩:=rH (ns:=ns) (i:=0) (C5 _) (by ext)
    exact⟨decide (M % 2=1),by simp[j7,z,o,bX,dF],λ_=>rH (by ext) z⟩
   .exact ⟨false,by simp[j7,z],λh=>nomatch h⟩
  cases b with
  | true=>
   obtain⟨w1,x⟩:=q rfl
   obtain⟨N,B,Q⟩:=aPZ w1 (n:=(n:Int)) (sg:=sg) j (by ext) (by ext)
   refine⟨_,(some (.d (.int k)),s.2),N,rfl,?_,Q⟩
   generalize cR ns=F at *
   unfold mcB
   simp[t,x,B,C]
  | false=>
   obtain⟨v,J⟩:=oW ns (at'+k)
   obtain⟨a,f⟩:=oW ns at'
   obtain⟨r,hr,m⟩:=aPY (v % 2147483647) (n:=(n:Int)) (sg:=sg) j (by ext)
   have D:dMod (.int v) (.int 2147483647)=.ok (.int (v % 2147483647)):=bX (by decide)
   have O:dIx (a6 r) (.int 0)=.ok r.l.d:=aB2 _ _
   obtain⟨I,p⟩:∃ b,iE "str" r.l.d=.ok (.bool b):=by cases r.l<;>exact⟨_,rfl⟩
   obtain⟨c,H⟩:∃ c,mcU [some (.d (cR ns)),some (.d (.int at')),some (.d (.int n)),some (.d (.int sg)),some (.l L),some (.d (.int k)),some (.d (a6 r))]=.ok c:=by
    generalize a6 r=U at *
    refine⟨decide (k=0) && (I && decide (0 < a / 8 % 8)),?_⟩
    unfold mcU
    cases I<;>by_cases h:k=0<;>simp[f,bX,dY,dF,O,p,h]
   have y:dSl (a6 r) (some 1) none=.ok (.tuple [.tuple (r.c.map cellD),r.r.d]):=by
    unfold a6
    rw[aVL (by unfold HT.sIx;simp)]
    unfold jC HT.sIx
    simp
   have g:bJ (.tuple [.int (a / 64 % (n:Int))]) (.tuple [.tuple (r.c.map cellD),r.r.d])=.ok (a6 ⟨.n (a / 64 % (n:Int)),r.c,r.r⟩):=by
    rw[aTJ rfl (by simp)];rfl
   have R:(⟨.n (a / 64 % (n:Int)),r.c,r.r⟩:Rw).good n/\r.c.length=sg:=⟨⟨⟨CB _ (by ext),BY _ j⟩,m.1.2.1,m.1.2.2⟩,m.2⟩
   refine⟨_,(some (.d (.int k)),some (.d (a6 (if c=true then⟨.n (a / 64 % (n:Int)),r.c,r.r⟩else r)))),if c=true then⟨.n (a / 64 % (n:Int)),r.c,r.r⟩else r,rfl,?_,by cases c;exact m;exact R⟩
   generalize cR ns=F at *
   unfold mcB
   cases c
   .simp[t,J,D,hr,H,C]
   .simp[t,J,D,hr,H,C,f,dY,bX j,y,g]) [] (none,none) (by simp;ext)
 rw[A4]at u
 refine⟨rs,?_,⟨by ext,by ext,s1,K,λr hr=>by rw[u];exact P r hr⟩,u⟩
 unfold i6 aE
 rw[oV]
 simp only[B6]at E
 generalize cR ns=F at *
 generalize rs.map a6=T at *
 simp[hr,E]
theorem t7(x y:Str):(x++y).cps.toList=x.cps.toList++y.cps.toList:=by
 show(x.cps++y.cps).toList=_
 simp_all
theorem aP0{ns:L9 Int}{at':Int}{m sg:Nat}(D:0<=at')(Q:m<=1000)(s1:1<=sg)(L:sg<=3):∃ z:Str,gB [.d (cR ns),.d (.int at'),.d (.int m),.d (.int sg)]=.ok (.d (.str z))/\aQ sg z.cps.toList/\z.cps.toList.length=m:=by
 have hr:=gK (n:=m) (by ext)
 have B:(0:Int) < (sg:Int):=by ext
 have o:∀ y:Int,∃ c,dIx (.str "abc") (.int (y % (sg:Int)))=.ok (.str ⟨#[c]⟩)/\bA sg c=true:=λy=>by
  obtain⟨c,h1,h2⟩:=aOA (k:=y) s1 L
  exact⟨c,aNB (by decide) h1,h2⟩
 have E:∃ z:Str,(aM (vD (e2 sL (eC (.str "")) (eL (bP [none,some 0,some 1,some 3] (eU (rV 2)) (stN 0) cQ (e2 dIx (eC (.str "abc")) (e2 dMod (eA (aI 2 bW (aA (vV 1) (aA (vD (e2 bJ (rV 2) (rV 0))) aC)))) (rV 3)))))))) [some (.d (cR ns)),some (.d (.int at')),some (.d (.int m)),some (.d (.int sg)),none,none,none]=.ok (.rt (.d (.str z)))/\aQ sg z.cps.toList/\z.cps.toList.length=m:=by
  have b:∀ i:Nat,∃ c,(e2 dIx (eC (.str "abc")) (e2 dMod (eA (aI 2 bW (aA (vV 1) (aA (vD (e2 bJ (rV 2) (rV 0))) aC)))) (rV 3))) [some (.d (.int i)),some (.d (cR ns)),some (.d (.int at')),some (.d (.int sg))]=.ok (.str ⟨#[c]⟩)/\bA sg c=true:=λi=>by
   obtain⟨v,P⟩:=oW ns (at'+i)
   obtain⟨c,h1,h2⟩:=o v
   exact⟨c,by simp[P,bX B,h1],h2⟩
  have r:=Classical.skolem.mp b
  obtain⟨f,p⟩:=r
  have h1:=bK (fs:=stN 0) (fe:=e2 dIx (eC (.str "abc")) (e2 dMod (eA (aI 2 bW (aA (vV 1) (aA (vD (e2 bJ (rV 2) (rV 0))) aC)))) (rV 3))) (Y0:=[none,some (.d (cR ns)),some (.d (.int at')),some (.d (.int sg))]) (d:=λi:Nat=>.int (i:Int)) (g:=λi:Nat=>.str ⟨#[f i]⟩) (xs:=range m) λi _=>⟨_,rfl,(p i).1⟩
  have G:lQ ((range m).map λi:Nat=>PyData.str ⟨#[f i]⟩)=some (((range m).map f).map one):=by
   rw[AX]
   generalize range m=l
   induction l with
   | nil=>rfl
   | cons a t ih=>simp only[AZ,lQ,ih];rfl
  have O:sL (.str "") (.list ((range m).map λi:Nat=>.str ⟨#[f i]⟩))=.ok (.str ⟨((range m).map f).toArray⟩):=by
   show(match lQ ((range m).map λi:Nat=>PyData.str ⟨#[f i]⟩)with|some ys=>if _ then R.ok _ else .bad|none=>.bad)=_
   rw[G]
   simp only
   rw[AJ (by rw[aDD,AA,AA,A4];show m+m * 0<=_;ext),aDE]
  refine⟨⟨((range m).map f).toArray⟩,?_,⟨by simp;ext,λc b=>?_⟩,by simp⟩
  .simp[hr,cP,h1,O]
  .simp at b
   obtain⟨i,_,rfl⟩:=b
   exact(p i).2
 obtain⟨J,j,S2,K⟩:=E
 by_cases u:at' < (ns.length:Int)
 .obtain ⟨M,e⟩:=rH (ns:=ns) (i:=0) (C5 _) (by ext)
  by_cases I:M % 2=1
  .obtain ⟨w1,F⟩:=rH (ns:=ns) (i:=at') D u
   obtain⟨S,p,y,z,w,s,C,rfl⟩:=dP (fs:=stN 6) (fb:=aB (aY 5 (vD (e2 bJ (rV 5) (e2 dIx (eC (.str "abc")) (e2 dMod (rV 4) (rV 3)))))) (aY 4 (vD (e2 dDiv (rV 4) (rV 3)))))
    (d:=λi:Nat=>.int (i:Int)) (xs:=range m) (Y:=[some (.d (cR ns)),some (.d (.int at')),some (.d (.int m)),some (.d (.int sg)),some (.d (.int w1)),some (.d (.str "")),none])
    (λi Y=>∃ (y:Int) (z:Str) (w:O9 A),z.cps.toList.length=i/\(∀ c∈z.cps.toList,bA sg c=true)/\Y=[some (.d (cR ns)),some (.d (.int at')),some (.d (.int m)),some (.d (.int sg)),some (.d (.int y)),some (.d (.str z)),w]) ⟨w1,"",none,rfl,λc b=>(nomatch (show c∈([]:L9 Nat)from b)),rfl⟩
    (λi k Y N H=>by
     obtain⟨y,z,w,s,C,rfl⟩:=H
     have hi:i < m:=by have:=(AD.mp N).1;simpa using this
     obtain⟨c,h1,h2⟩:=o y
     have h:bJ (.str z) (.str ⟨#[c]⟩)=.ok (.str (z++⟨#[c]⟩)):=aB4 (by
      have:z.length=z.cps.toList.length:=by simp[Str.length]
      show z.length+1<=_
      ext)
     refine⟨_,_,rfl,.inl ?_,y / sg,z++⟨#[c]⟩,some (.d (.int k)),by rw[t7,A2,s];rfl,λx r=>?_,rfl⟩
     .simp[bX B,h1,h,dY B (show(sg:Int) < 18446744073709551616 by ext)]
     .rw[t7]at r
      rcases A7.mp r with q|q
      .exact C x q
      .have:x=c:=by simpa using q
       rw[this];exact h2)
   rw[A4]at s
   refine⟨z,?_,⟨by ext,C⟩,s⟩
   unfold gB kK
   simp only[jH,AZ,BQ,CD,B6,BG,BR,replicate,aW,oR,yD,lH,kJ,jL,lG,A9,BE,R.bind_ok,j7,aF8,rE,u,decide_true,CU,e,bX (show(0:Int) < 2 by decide),dF,I,sW,sU,F,BJ,BS,oS,wM,hr,p,aPU,wL]
  .refine ⟨J,?_,S2,K⟩
   unfold gB kK
   simp only[jH,AZ,BQ,CD,B6,BG,BR,replicate]
   rw[aW,oR]
   simp only[yD,lH,kJ,jL,lG,A9,BE,R.bind_ok,j7,aF8,rE,u,decide_true,CU,e,bX (show(0:Int) < 2 by decide),dF,I,decide_false,CY,D0,aBY]
   rw[j];rfl
 .refine ⟨J,?_,S2,K⟩
  unfold gB kK
  simp only[jH,AZ,BQ,CD,B6,BG,BR,replicate]
  rw[aW,oR]
  simp only[yD,lH,kJ,jL,lG,A9,BE,R.bind_ok,j7,aF8,rE,u,decide_false,CY,D0,aBY]
  rw[j];rfl
end Mc
variable{n:Nat}
namespace Mc
def b8(rs:L9 Rw)(z:L9 Nat)(s:Int×Int):O9 ((Int×Int)⊕Str):=
 match (aR rs z s).1 with
 | .w x=>some (.inr x)
 | .n q=>some (.inl (s.1+(aR rs z s).2,q))
theorem walk_step{rs:L9 Rw}{z:L9 Nat}{s:Int×Int}:(∃ x,c8 rs z s=none/\(aR rs z s).1=.w x/\b8 rs z s=some (.inr x))\/∃ s',c8 rs z s=some s'/\b8 rs z s=some (.inl s'):=by
 unfold c8 b8
 cases(aR rs z s).1 with
 | w x=>exact .inl ⟨x,rfl,rfl,rfl⟩
 | n q=>exact .inr ⟨_,rfl,rfl⟩
end Mc
variable{s:Int×Int}{ps:L9 (Int×Int)}
namespace Mc
open Fl
variable{rs:L9 Rw}
theorem wQ:jD "int" "str"=false:=by decide
theorem wR:jD "str" "str"=true:=by decide
theorem nC{rs:L9 Rw}(h0:0<=q)(h1:q < (rs.length:Int)):dIx (aE rs) (.int q)=.ok (a6 (rowAt rs q)):=l9 (oU h0 (by rw[AC,cC h0 h1];rfl))
def lR:O9 (Int×Int)->Dz
 | none=>.none
 | some s=>prD s
theorem gC(z:Str):z.length=z.cps.toList.length:=by simp[Str.length]
theorem wS(M:Mach rs sg)(S:aQ sg z.cps.toList)(V:iX rs z.cps.toList s):iB [.d (aE rs),.d (.str z),.d (prD s)]=.ok (.d (lR (c8 rs z.cps.toList s))):=by
 obtain⟨p,q⟩:=s
 have hr:=nC V.2.2.1 V.2.2.2
 have k:z.length<=16777216:=by rw[gC];have:=S.1;ext
 have h:=rF k
 rw[gC]at h
 generalize D:z.cps.toList=g at *
 unfold iB tZ
 by_cases f:p=0
 .subst f
  have a:c8 rs g (0,q)=match (rowAt rs q).l with | .w _=>none | .n q'=>some (0+1,q'):=by
   unfold c8 aR;simp only[CU]<;>(cases(rowAt rs q).l<;>rfl)
  cases e:(rowAt rs q).l with
  | w x=>
   rw[e]at a
   rw[a]
   simp[prD,hr,h,a6,dF,e,Tn.d,wR,lR]
  | n q'=>
   rw[e]at a
   rw[a]
   simp[prD,hr,h,a6,dF,e,Tn.d,wQ,lR]
 .by_cases h1:p=(g.length:Int)+1
  .have a:c8 rs g (p,q)=match (rowAt rs q).r with | .w _=>none | .n q'=>some (p + -1,q'):=by
    unfold c8 aR;simp only[AM f,AJ h1]<;>(cases(rowAt rs q).r<;>rfl)
   have t:(0:Int) < p:=by ext
   have b:(g.length:Int) < p:=by ext
   cases e:(rowAt rs q).r with
   | w x=>
    rw[e]at a
    rw[a]
    simp[prD,hr,h,a6,dF,e,Tn.d,wR,lR,f,b,t]
   | n q'=>
    rw[e]at a
    rw[a]
    simp[prD,hr,h,a6,dF,e,Tn.d,wQ,lR,f,b,t]
    ext
  .obtain ⟨c,o,y,m⟩:=aDB S V f h1
   obtain⟨i,u,j,E⟩:=aAR M S V f h1
   have C:=V.1
   have v:=V.2.1
   simp only at C v o m u j
   have a:c8 rs g (p,q)=some (p+i.2,i.1):=by
    unfold c8 aR;simp only[AM f,AM h1,j]
   have b:¬ (g.length:Int) < p:=by ext
   have A:dIx (.str z) (.int (p - 1))=.ok (.str ⟨#[c]⟩):=aNB k (oU (by ext) (by rw[D,<-o];congr 1;ext))
   have id:=aPX (aLS M.sg3 y)
   have B:dIx (.tuple ((rowAt rs q).c.map cellD)) (.int ((c - 97:Nat):Int))=.ok (cellD i):=l9 (cY (by rw[AC,<-m,u];rfl))
   rw[a]
   simp[prD,hr,h,a6,dF,lR,f,b,A,id,B,cellD]
theorem jT(xs:L9 Dz)(x:Dz):dIx (.list (xs++[x])) (.int (-1))=.ok x:=iL (L2.aKE xs x)
def stρ(rs:L9 Rw)(z:Str)(ps:L9 (Int×Int))(s:Int×Int)(u:O9 A):Sg:=[some (.d (aE rs)),some (.d (.str z)),some (.l (ps.map prD++[prD s])),some (.m (been prD ps)),u]
theorem aTM{u:O9 A}(h:s∈ps):uP (stρ rs z ps s u)=.ok false:=by
 have h1:=iU k6 ps s
 have h2:=(m8 j6).mpr h
 simp[uP,stρ,jT,h1,h2]
theorem aEA{u:O9 A}(h:s∉ps):uP (stρ rs z ps s u)=.ok true:=by
 have h1:=iU k6 ps s
 have h2:=gJ j6 h
 simp[uP,stρ,jT,h1,h2]
theorem aI5(s:Int×Int):iJ (prD s)=false:=id rfl
theorem aP1(M:Mach rs sg)(S:aQ sg z.cps.toList){u:O9 A}(V:iX rs z.cps.toList s)(h:s∉ps)(c:ps.length<=2000000)(e:c8 rs z.cps.toList s=none):uQ (stρ rs z ps s u)=.ok (.rt (.d (.list ((ps++[s]).map prD)))):=by
 have h1:=iU k6 ps s
 have b:=kZ j6 h
 have a:(been prD ps).length<=16777216:=by rw[iV];ext
 have f:=wS M S V
 rw[e]at f
 simp[uQ,stρ,jT,h1,b,a,f,lR]
theorem aTN(M:Mach rs sg)(S:aQ sg z.cps.toList){s':Int×Int}{u:O9 A}(V:iX rs z.cps.toList s)(h:s∉ps)(g:ps.length<=2000000)(e:c8 rs z.cps.toList s=some s'):uQ (stρ rs z ps s u)=.ok (.nx (stρ rs z (ps++[s]) s' (some (.d (prD s'))))):=by
 have h1:=iU k6 ps s
 have b:=kZ j6 h
 have a:(been prD ps).length<=16777216:=by rw[iV];ext
 have f:=wS M S V
 rw[e]at f
 have c:ps.length+1 < 16777216:=by ext
 simp[uQ,stρ,jT,h1,b,a,f,lR,aI5,c]
def iF(rs:L9 Rw)(z:L9 Nat)(s:Int×Int):Prop:=iX rs z s/\((c8 rs z s=none/\∃ x,(aR rs z s).1=.w x/\a5 (b8 rs z) (0,0)=some x)\/((∃ s',c8 rs z s=some s')/\a5 (b8 rs z) (0,0)=none))
theorem aC1(M:Mach rs sg)(S:aQ sg z.cps.toList):∀ (k:Nat) (ps:L9 (Int×Int)) (s:Int×Int) (u:O9 A),Way rs z.cps.toList ps s k->Und2 (b8 rs z.cps.toList) (0,0) ps s->
  aB (aX uP uQ) (sFz 2 (aM (vV 2))) (stρ rs z ps s u)=.ok (.rt (.d (.list ((lX rs z.cps.toList).map prD))))/\∃ ps' s',lX rs z.cps.toList=ps'++[s']/\iF rs z.cps.toList s':=by
 have i:kC rs z.cps.toList<=1002 * 1000:=FU (by have:=S.1;ext) M.len2
 have b:∀ (k:Nat) (ps:L9 (Int×Int)) (s:Int×Int) (u:O9 A),Way rs z.cps.toList ps s k->Und2 (b8 rs z.cps.toList) (0,0) ps s->s∈ps->aB (aX uP uQ) (sFz 2 (aM (vV 2))) (stρ rs z ps s u)=.ok (.rt (.d (.list ((lX rs z.cps.toList).map prD))))/\∃ ps' s',lX rs z.cps.toList=ps'++[s']/\iF rs z.cps.toList s':=by
  intro k ps s u W U a
  refine⟨?_,ps,s,(W.stop a).symm,W.here,.inr ⟨?_,U.met a⟩⟩
  .rw[aW,cL (aTM a),<-W.stop a]
   simp[stρ]
  .obtain ⟨m,r⟩:=U.back s a
   cases r with
   | cons h t=>
    rcases walk_step (rs:=rs) (z:=z.cps.toList) (s:=s)with ⟨x,_,_,e⟩|⟨s',e,_⟩
    · rw [e]at h; cases h
    · exact⟨s', e⟩
 intro k
 induction k with
 | zero=>
  intro ps s u W U
  by_cases a:s∈ps
  .exact b 0 ps s u W U a
  .obtain ⟨j,g⟩:=W.more a;ext
 | succ k ih=>
  intro ps s u W U
  by_cases a:s∈ps
  .exact b _ ps s u W U a
  .have f:ps.length<=2000000:=by have:=W.num;ext
   rcases walk_step (rs:=rs) (z:=z.cps.toList) (s:=s)with ⟨x,e,e2,c⟩|⟨s',e,c⟩
   .refine ⟨?_,ps,s,(W.ends a e).symm,W.here,.inl ⟨e,x,e2,U.outs c⟩⟩
    rw[aW,iT (aEA a) (aP1 M S W.here a f e),<-W.ends a e];rfl
   .have:=ih (ps++[s]) s' (some (.d (prD s'))) (W.next M S a e) (U.next a c)
    rw[aW]at this ⊢
    rw[eS (aEA a) (aTN M S W.here a f e)]
    exact this
theorem aB5{z:Str}(M:Mach rs sg)(S:aQ sg z.cps.toList):jM [.d (aE rs),.d (.str z)]=.ok (.d (.list ((lX rs z.cps.toList).map prD)))/\∃ ps' s',lX rs z.cps.toList=ps'++[s']/\iF rs z.cps.toList s':=by
 have h:=aC1 M S (kC rs z.cps.toList) [] (0,0) none (Way.start M) Und2.start
 refine⟨?_,h.2⟩
 unfold jM
 rw[qE]
 simp only[jH,aW,pU,sV,jS,aD6,lG,i5,R.bind_ok,BG,BR,Nat.reduceAdd,Nat.reduceLeDiff,CU,AZ,BQ,CD,B6,replicate,BJ,BS,uO]
 have e:=h.1
 rw[aW]at e
 simp only[stρ,BQ,B6,been,prD]at e
 rw[e];rfl
def bF(rs:L9 Rw)(z:L9 Nat):Str:=(a5 (b8 rs z) (0,0)).getD "ever"
theorem rJ{z:Str}(M:Mach rs sg)(S:aQ sg z.cps.toList):bN [.d (aE rs),.d (.str z)]=.ok (.d (.str (bF rs z.cps.toList))):=by
 obtain⟨h,ps,s,e,V,q⟩:=aB5 M S
 have f:=wS M S V
 rw[e,A8,AZ,BQ]at h
 have hr:=nC V.2.2.1 V.2.2.2
 unfold bN t5 bF
 obtain⟨p,r⟩:=s
 rcases q with ⟨g,x,i,c⟩|⟨⟨s',g⟩,c⟩
 .rw[g]at f
  rw[c]
  have b:(if 0 < p then(rowAt rs r).r else(rowAt rs r).l)=.w x:=by
   unfold aR at i
   ext
  simp only[prD]at f hr h
  by_cases a:0 < p
  .rw[AJ a]at b
   simp[h,jT,prD,f,lR,hr,a6,a,b,Tn.d]
  .rw[AM a]at b
   simp[h,jT,prD,f,lR,hr,a6,a,b,Tn.d]
 .rw[g]at f
  rw[c]
  simp only[prD]at f hr h
  simp[h,jT,prD,f,lR]
theorem aI6(x y:Str):PyData.eqv (.str x) (.str y)=(x == y):=by rw[PyData.eqv.eq_6]
end Mc
variable{z:L9 Nat}
namespace Mc
variable{rs:L9 Rw}
section
variable{S T O Q:Type}
structure Gates(st:S->Option (S⊕O))(sub:S->Option (S⊕Q))(ext:Q->T⊕O)(g:T->S)(ent:T->S⊕O)(Dom:S->Prop)(TV:T->Prop):Prop where
 step:∀ s,Dom s->(∃ s',sub s=some (.inl s')/\st s=some (.inl s')/\Dom s')\/(∃ e t,sub s=some (.inr e)/\ext e=.inl t/\st s=some (.inl (g t))/\TV t)\/∃ e o,sub s=some (.inr e)/\ext e=.inr o/\st s=some (.inr o)
 gate:∀ t,TV t->(∃ s,ent t=.inl s/\st (g t)=some (.inl s)/\Dom s)\/∃ o,ent t=.inr o/\st (g t)=some (.inr o)
def gst(sub:S->O9 (S⊕Q))(ext:Q->T⊕O)(ent:T->S⊕O)(ev:O)(t:T):O9 (T⊕O):=match ent t with
 | .inr o=>some (.inr o)
 | .inl s=>match a5 sub s with
  | none=>some (.inr ev)
  | some e=>some (ext e)
variable{st:S->O9 (S⊕O)}{sub:S->O9 (S⊕Q)}{ext:Q->T⊕O}{g:T->S}{ent:T->S⊕O}{Dom:S->Prop}{TV:T->Prop}
theorem gS{st:S->O9 (S⊕O)}{s:S}{o:O}(h:Ex st n s o):a5 st s=some o:=((jX st s) o).mpr ⟨n,h⟩
theorem eH{st:S->O9 (S⊕O)}{s:S}{o:O}(h:a5 st s=some o):∃ n,Ex st n s o:=((jX st s) o).mp h
theorem Gates.in1(G:Gates st sub ext g ent Dom TV){s:S}{e:Q}(d:Dom s)(h:Ex sub k s e):(∀ t,ext e=.inl t->Rc st (k+1) s (g t)/\TV t)/\∀ o,ext e=.inr o->Ex st k s o:=by
 induction h with
 | out h=>
  rcases G.step _ d with ⟨s',a,_⟩|⟨i,t,a,b,c,j⟩|⟨i,o,a,b,c⟩
  .grind
  .rw[h]at a;cases a
   exact⟨λf z=>by rw[b]at z;cases z;exact⟨.cons c .nil,j⟩,λo z=>by rw[b]at z;cases z⟩
  .rw[h]at a;cases a
   exact⟨λf z=>(by rw[b]at z;cases z),λo' z=>by rw[b]at z;cases z;exact .out c⟩
 | go h t ih=>
  rcases G.step _ d with ⟨s',a,b,c⟩|⟨i,t,a,b,c,j⟩|⟨i,o,a,b,c⟩
  .rw[h]at a;cases a
   obtain⟨i1,i2⟩:=ih c
   exact⟨λf z=>⟨.cons b (i1 f z).1,(i1 f z).2⟩,λo z=>.go b (i2 o z)⟩
  .grind
  .grind
theorem Gates.in2(G:Gates st sub ext g ent Dom TV){s:S}{o:O}(d:Dom s)(h:Ex st n s o):∃ k e,Ex sub k s e/\((∃ t n',ext e=.inl t/\TV t/\n' < n/\Ex st n' (g t) o)\/ext e=.inr o):=by
 induction h with
 | out h=>
  rcases G.step _ d with ⟨s',a,b,_⟩|⟨f,t,a,b,c,i⟩|⟨f,o',a,b,c⟩
  .grind
  .grind
  .rw[h]at c;cases c
   exact⟨0,f,.out a,.inr b⟩
 | go h t ih=>
  rcases G.step _ d with ⟨s',a,b,c⟩|⟨f,j,a,b,c,i⟩|⟨f,o',a,b,c⟩
  .rw[h]at b;cases b
   obtain⟨k,e,q,r⟩:=ih c
   refine⟨k+1,e,.go a q,r.imp ?_ id⟩
   ext
  .rw[h]at c;cases c
   exact⟨0,f,.out a,.inl ⟨j,_,b,i,by ext,t⟩⟩
  .grind
theorem Gates.fwd(G:Gates st sub ext g ent Dom TV)(ev:O):∀ (n:Nat) {t:T} {o:O},TV t->Ex st n (g t) o->∃ m,Ex (gst sub ext ent ev) m t o:=by
 intro n
 induction n using Nat.strongRecOn with
 | ind n ih=>
  intro t o l h
  rcases G.gate t l with ⟨s,a,b,c⟩|⟨o',a,b⟩
  .cases h with
   | out h=>rw[b]at h;cases h
   | go h q=>
    rw[b]at h;cases h
    obtain⟨k,e,x,y⟩:=G.in2 c q
    have hr:=gS x
    rcases y with ⟨r,p,j,d,u,i⟩|y
    .obtain ⟨m,f⟩:=ih p (by ext) d i
     exact⟨m+1,.go (by unfold gst;rw[a];simp only;rw[hr];simp only;rw[j]) f⟩
    .exact ⟨0,.out (by unfold gst;rw[a];simp only;rw[hr];simp only;rw[y])⟩
  .cases h with
   | out h=>rw[b]at h;cases h;exact⟨0,.out (by unfold gst;rw[a])⟩
   | go h q=>rw[b]at h;cases h
theorem Gates.bwd(G:Gates st sub ext g ent Dom TV){ev:O}{t:T}{o:O}(h:Ex (gst sub ext ent ev) m t o)(f:TV t):o=ev\/∃ n,Ex st n (g t) o:=by
 induction h with
 | @out t o h=>
  rcases G.gate t f with ⟨s,a,b,c⟩|⟨o',a,b⟩
  .unfold gst at h
   rw[a]at h
   simp only at h
   cases e:a5 sub s with
   | none=>rw[e]at h;cases h;exact .inl rfl
   | some x=>
    rw[e]at h
    have h':ext x=.inr o:=BK h
    obtain⟨k,d⟩:=eH e
    exact .inr ⟨k+1,.go b ((G.in1 c d).2 o h')⟩
  .unfold gst at h
   rw[a]at h
   cases h
   exact .inr ⟨0,.out b⟩
 | @go t t' o n h q ih=>
  rcases G.gate t f with ⟨s,a,b,c⟩|⟨o',a,b⟩
  .unfold gst at h
   rw[a]at h
   simp only at h
   cases e:a5 sub s with
   | none=>rw[e]at h;cases h
   | some x=>
    rw[e]at h
    have h':ext x=.inl t':=BK h
    obtain⟨k,d⟩:=eH e
    obtain⟨r1,r2⟩:=(G.in1 c d).1 t' h'
    rcases ih r2 with z|⟨i,z⟩
    · exact .inl z
    · exact .inr ⟨i + (k + 1) + 1, .go b (r1.to z)⟩
  .unfold gst at h
   rw[a]at h
   cases h
theorem Gates.eq(G:Gates st sub ext g ent Dom TV)(ev:O){t:T}(b:TV t):(a5 st (g t)).getD ev=(a5 (gst sub ext ent ev) t).getD ev:=by
 cases e:a5 st (g t)with
 | some o=>
  obtain⟨n,h⟩:=eH e
  obtain⟨m,a⟩:=G.fwd ev n b h
  rw[gS a]
 | none=>
  cases e2:a5 (gst sub ext ent ev) t with
  | none=>rfl
  | some o=>
   obtain⟨m,a⟩:=eH e2
   rcases G.bwd a b with z|⟨n,z⟩
   · rw [z]; rfl
   · rw [gS z]at e; cases e
theorem Gates.inn(G:Gates st sub ext g ent Dom TV)(ev:O){s:S}(d:Dom s):(a5 st s).getD ev=match a5 sub s with
  | none=>ev
  | some e=>match ext e with
   | .inr o=>o
   | .inl t=>(a5 (gst sub ext ent ev) t).getD ev:=by
 cases e:a5 sub s with
 | none=>
  cases e2:a5 st s with
  | none=>rfl
  | some o=>
   obtain⟨n,h⟩:=eH e2
   obtain⟨k,x,b,_⟩:=G.in2 d h
   rw[gS b]at e;cases e
 | some x=>
  obtain⟨k,c⟩:=eH e
  obtain⟨i1,i2⟩:=G.in1 d c
  simp only
  cases q:ext x with
  | inr o=>simp only;rw[gS (i2 o q)];rfl
  | inl t=>
   simp only
   obtain⟨r1,r2⟩:=i1 t q
   rw[<-G.eq ev r2]
   cases e2:a5 st (g t)with
   | some o=>
    obtain⟨n,h⟩:=eH e2
    rw[gS (r1.to h)]
   | none=>
    cases a:a5 st s with
    | none=>rfl
    | some o=>
     obtain⟨n,h⟩:=eH a
     obtain⟨f,_,z⟩:=r1.ex h
     rw[gS z]at e2;cases e2
end
theorem aEB{T O P:Type}{st:S->O9 (S⊕O)}{st2:T->O9 (T⊕P)}{e:S->T}{k:O->P}{ev:P}{Dom:S->Prop}
  (h:∀ s,Dom s->(∃ s',st s=some (.inl s')/\st2 (e s)=some (.inl (e s'))/\Dom s')\/∃ o,st s=some (.inr o)/\(a5 st2 (e s)).getD ev=k o) {s:S} (d:Dom s) :
  (a5 st2 (e s)).getD ev=((a5 st s).map k).getD ev:=by
 cases hr:a5 st s with
 | some o=>
  obtain⟨n,c⟩:=eH hr
  clear hr
  induction c with
  | out q=>
   rcases h _ d with ⟨s',a,_⟩|⟨o',a,b⟩
   .grind
   .rw[a]at q;cases q;exact b
  | go q t ih=>
   rcases h _ d with ⟨s',a,b,f⟩|⟨o',a,b⟩
   .rw[a]at q;cases q;rw[aAS b];exact ih f
   .grind
 | none=>
  cases h2:a5 st2 (e s)with
  | none=>rfl
  | some p=>
   obtain⟨n,c⟩:=eH h2
   clear h2
   generalize g:e s=t at c
   exfalso
   induction c generalizing s with
   | out q=>
    subst g
    rcases h _ d with ⟨s',a,b,_⟩|⟨o',a,b⟩
    · ext
    · rw [jY a]at hr; cases hr
   | go q t ih=>
    subst g
    rcases h _ d with ⟨s',a,b,f⟩|⟨o',a,b⟩
    · rw [b]at q; cases q; rw [aAS a]at hr; exact ih f hr rfl
    · rw [jY a]at hr; cases hr
def dU:Str:="ever"
def bM(rs:L9 Rw)(z:L9 Nat)(s:Int×Int):O9 ((Int×Int)⊕Tn):=
 match (aR rs z s).1 with
 | .w x=>some (.inr (.w x))
 | .n q=>if s.1+(aR rs z s).2<=(z.length:Int)then some (.inl (s.1+(aR rs z s).2,q))else some (.inr (.n q))
def k7(rs:L9 Rw)(z:L9 Nat)(s:Int×Int):Prop:=0<=s.1/\s.1<=(z.length:Int)/\0<=s.2/\s.2 < (rs.length:Int)
def cF(rs:L9 Rw)(q:Int):Prop:=0<=q/\q < (rs.length:Int)
theorem k7.valid(h:k7 rs z s):iX rs z s:=⟨h.1,by have:=h.2.1;ext,h.2.2⟩
def gT(rs:L9 Rw)(z:L9 Nat)(s:Int×Int):Tn:=(a5 (bM rs z) s).getD (.w dU)
def fB(rs:L9 Rw)(z:L9 Nat)(q:Int):Tn:=gT rs z ((z.length:Int),q)
theorem aI7{rs:L9 Rw}{c:Nat}(h0:0<=s.1)(h:s.1<=(z.length:Int)):aR rs (z++[c]) s=aR rs z s:=by
 unfold aR
 ext
theorem beg_cell(M:Mach rs sg)(S:aQ sg z)(V:k7 rs z s):(∃ x,(aR rs z s).1=.w x/\s.1=0)\/∃ q,(aR rs z s).1=.n q/\cF rs q/\0<=s.1+(aR rs z s).2/\s.1+(aR rs z s).2<=(z.length:Int)+1:=by
 cases e:(aR rs z s).1 with
 | w x=>
  refine .inl ⟨x,rfl,?_⟩
  by_cases b:s.1=0
  .exact b
  .unfold aR at e
   rw[AM b,AM (by have:=V.2.1;ext)]at e
   cases e
 | n q=>
  have a:iX rs z (s.1+(aR rs z s).2,q):=vQ M S V.valid (by unfold c8;rw[e])
  exact .inr ⟨q,rfl,⟨a.2.2.1,a.2.2.2⟩,a.1,a.2.1⟩
def aTO(e:Tn):Int⊕Tn:=match e with
 | .n q=>.inl q
 | .w x=>.inr (.w x)
def aTP(e:Tn):Int⊕Str:=match e with
 | .n q=>.inl q
 | .w x=>.inr x
def aB6(rs:L9 Rw)(z:L9 Nat)(c:Nat)(q:Int):(Int×Int)⊕Tn:=
 if ((rowAt rs q).c.getD (c - 97) (0,0)).2=1 then .inr (.n ((rowAt rs q).c.getD (c - 97) (0,0)).1)else .inl ((z.length:Int),((rowAt rs q).c.getD (c - 97) (0,0)).1)
theorem zN:aR rs (z++[c]) ((z.length:Int)+1,q)=(.n ((rowAt rs q).c.getD (c - 97) (0,0)).1,((rowAt rs q).c.getD (c - 97) (0,0)).2):=by
 unfold aR
 have e:(z++[c]).getD (((z.length:Int)+1).toNat - 1) 97=c:=by
  rw[show((z.length:Int)+1).toNat - 1=z.length by ext,AL,CA (AQ _)];simp
 rw[AM (show ¬ (z.length:Int)+1=0 by ext),AM (by simp only[A2,BU];ext)]
 simp only
 rw[e]
theorem zO(M:Mach rs sg)(S:aQ sg z)(j:bA sg c=true):Gates (bM rs (z++[c])) (bM rs z) aTO (λq=>((z.length:Int)+1,q)) (aB6 rs z c) (k7 rs z) (cF rs) where
 step:=λs V=>by
  have f:=aI7 (rs:=rs) (c:=c) V.1 V.2.1
  have b:((z++[c]).length:Int)=(z.length:Int)+1:=by rw[A2,BU];ext
  rcases beg_cell M S V with ⟨x,e,l⟩|⟨q,e,d,h1,h2⟩
  .refine .inr (.inr ⟨.w x,.w x,?_,rfl,?_⟩)
   .unfold bM;rw[e]
   .unfold bM;rw[f,e]
  .by_cases g:s.1+(aR rs z s).2<=(z.length:Int)
   .refine .inl ⟨(s.1+(aR rs z s).2,q),?_,?_,h1,g,d⟩
    · unfold bM; rw [e]; simp only; rw [AJ g]
    · unfold bM; rw [f, e]; simp only; rw [AJ (by rw [b]; ext)]
   .refine .inr (.inl ⟨.n q,q,?_,rfl,?_,d⟩)
    · unfold bM; rw [e]; simp only; rw [AM g]
    · unfold bM; rw [f, e]; simp only; rw [AJ (by rw [b]; ext), show s.1 + (aR rs z s).2 = (z.length : Int) + 1 by ext]
 gate:=λq d=>by
  have b:((z++[c]).length:Int)=(z.length:Int)+1:=by rw[A2,BU];ext
  have hr:=AG (cC d.1 d.2)
  obtain⟨_,k⟩:=oQ M hr (show c - 97 < sg by have:=BH j;ext)
  obtain⟨i,h,a⟩:=k
  rcases a with a|a
  .refine .inr ⟨.n _,by unfold aB6;rw[AJ a],?_⟩
   unfold bM;rw[zN];simp only;rw[AM (by rw[b,a];ext)]
  .refine .inl ⟨((z.length:Int),((rowAt rs q).c.getD (c - 97) (0,0)).1),by unfold aB6;rw[AM (by rw[a];decide)],?_,?_⟩
   .unfold bM;rw[zN];simp only;rw[AJ (by rw[b,a];ext),a,show(z.length:Int)+1 + -1=z.length by ext]
   .exact ⟨by show(0:Int)<=z.length;ext,C5 _,i,h⟩
def fM(rs:L9 Rw)(bk:Int->Tn)(c:Nat)(q:Int):O9 (Int⊕Tn):=
 if ((rowAt rs q).c.getD (c - 97) (0,0)).2=1 then some (.inr (.n ((rowAt rs q).c.getD (c - 97) (0,0)).1))else match bk ((rowAt rs q).c.getD (c - 97) (0,0)).1 with
  | .n r=>some (.inl r)
  | .w x=>some (.inr (.w x))
def onR(rs:L9 Rw)(bk:Int->Tn)(c:Nat)(t:Tn):Tn:=match t with
 | .w x=>.w x
 | .n q=>(a5 (fM rs bk c) q).getD (.w dU)
theorem aI8:gst (bM rs z) aTO (aB6 rs z c) (.w dU)=fM rs (fB rs z) c:=by
 funext q
 unfold gst aB6 fM fB gT
 by_cases h:((rowAt rs q).c.getD (c - 97) (0,0)).2=1
 .rw[AJ h,AJ h]
 .rw[AM h,AM h]
  simp only
  cases a5 (bM rs z) ((z.length:Int),((rowAt rs q).c.getD (c - 97) (0,0)).1)with
  | none=>rfl
  | some e=>cases e<;>rfl
theorem aI9(M:Mach rs sg)(S:aQ sg z)(b:bA sg c=true)(a:cF rs q):fB rs (z++[c]) q=onR rs (fB rs z) c (.n q):=by
 have h:=(zO M S b).eq (.w dU) a
 rw[aI8]at h
 unfold fB gT onR
 rw[show((z++[c]).length:Int)=(z.length:Int)+1 by rw[A2,BU];ext]
 exact h
theorem rK(M:Mach rs sg)(z:L9 Nat):k7 rs z (0,0):=⟨C5 _,by show(0:Int)<=z.length;ext,C5 _,by have:=M.len;show(0:Int) < rs.length;ext⟩
theorem aJA(M:Mach rs sg)(S:aQ sg z)(a:bA sg c=true):gT rs (z++[c]) (0,0)=onR rs (fB rs z) c (gT rs z (0,0)):=by
 have h:=(zO M S a).inn (.w dU) (rK M z)
 rw[aI8]at h
 unfold gT
 rw[h]
 cases a5 (bM rs z) (0,0)with
 | none=>rfl
 | some e=>cases e<;>rfl
def fC(rs:L9 Rw)(bk:Int->Tn)(q:Int):O9 (Int⊕Str):=match (rowAt rs q).r with
 | .w x=>some (.inr x)
 | .n q'=>match bk q' with
  | .n r=>some (.inl r)
  | .w x=>some (.inr x)
def wbR(rs:L9 Rw)(bk:Int->Tn)(t:Tn):Str:=match t with
 | .w x=>x
 | .n q=>(a5 (fC rs bk) q).getD dU
def aB7(rs:L9 Rw)(z:L9 Nat)(q:Int):(Int×Int)⊕Str:=match (rowAt rs q).r with
 | .w x=>.inr x
 | .n q'=>.inl ((z.length:Int),q')
theorem zP:aR rs z ((z.length:Int)+1,q)=((rowAt rs q).r,-1):=by
 unfold aR
 ext
theorem aGC(M:Mach rs sg)(S:aQ sg z):Gates (b8 rs z) (bM rs z) aTP (λq=>((z.length:Int)+1,q)) (aB7 rs z) (k7 rs z) (cF rs) where
 step:=λs V=>by
  rcases beg_cell M S V with ⟨x,e,d⟩|⟨q,e,a,h1,h2⟩
  .refine .inr (.inr ⟨.w x,x,?_,rfl,?_⟩)
   .unfold bM;rw[e]
   .unfold b8;rw[e]
  .by_cases c:s.1+(aR rs z s).2<=(z.length:Int)
   .refine .inl ⟨(s.1+(aR rs z s).2,q),?_,?_,h1,c,a⟩
    · unfold bM; rw [e]; simp only; rw [AJ c]
    · unfold b8; rw [e]
   .refine .inr (.inl ⟨.n q,q,?_,rfl,?_,a⟩)
    · unfold bM; rw [e]; simp only; rw [AM c]
    · unfold b8; rw [e]; simp only; rw [show s.1 + (aR rs z s).2 = (z.length : Int) + 1 by ext]
 gate:=λq a=>by
  have hr:=AG (cC a.1 a.2)
  have b:=(M.row _ hr).1.2.1
  cases e:(rowAt rs q).r with
  | w x=>exact .inr ⟨x,by unfold aB7;rw[e],by unfold b8;rw[zP];simp only;rw[e]⟩
  | n q'=>
   rw[e]at b
   refine .inl ⟨((z.length:Int),q'),by unfold aB7;rw[e],?_,⟨by show(0:Int)<=z.length;ext,C5 _,b.1,b.2⟩⟩
   unfold b8;rw[zP];simp only;rw[e];simp only;rw[show(z.length:Int)+1 + -1=z.length by ext]
theorem aTQ:gst (bM rs z) aTP (aB7 rs z) dU=fC rs (fB rs z):=by
 funext q
 unfold gst aB7 fC fB gT
 cases(rowAt rs q).r with
 | w x=>rfl
 | n q'=>
  simp only
  cases a5 (bM rs z) ((z.length:Int),q')with
  | none=>rfl
  | some e=>cases e<;>rfl
theorem aLU(M:Mach rs sg)(S:aQ sg z):(a5 (b8 rs z) (0,0)).getD dU=wbR rs (fB rs z) (gT rs z (0,0)):=by
 have h:=(aGC M S).inn dU (rK M z)
 rw[aTQ]at h
 rw[h]
 unfold gT wbR
 cases a5 (bM rs z) (0,0)with
 | none=>rfl
 | some e=>cases e<;>rfl
theorem aEC:gT rs [] (0,q)=(rowAt rs q).l:=by
 have a:aR rs [] (0,q)=((rowAt rs q).l,1):=by unfold aR;rw[AJ rfl]
 unfold gT
 cases e:(rowAt rs q).l with
 | w x=>rw[jY (o:=.w x) (by unfold bM;rw[a,e])];rfl
 | n q'=>
  rw[jY (o:=.n q') (by unfold bM;rw[a,e];simp only;rw[AM (by decide)])];rfl
end Mc
namespace Mc
open Fl
variable{rs:L9 Rw}
def gU(f:Tn)(bk:L9 Tn):Dz:=.tuple [f.d,.tuple (bk.map Tn.d)]
def bkF(bk:L9 Tn)(q:Int):Tn:=bk.getD q.toNat (.w dU)
def tnV(m:Nat):Tn->Prop
 | .n i=>0<=i/\i < (m:Int)
 | .w _=>True
theorem i7(a b:Int)(h:PyData.int a=PyData.int b):a=b:=by injection h
theorem i8(ps:L9 Int)(q:Int):a7 (.int q) ((been PyData.int ps).map (·.1))=true:=by
 unfold a7
 rw[rG,CL]
 refine .inr ?_
 rw[show jQ (.int q)=true from rfl,GD,BI]
 intro x a
 obtain⟨i,_,rfl⟩:=AN.mp a
 rfl
theorem yE(i:Int):gI [.d (.int i)]=.ok (.d (.bool false)):=by
 unfold gI rC
 simp[wQ]
theorem yF(x:Str):gI [.d (.str x)]=.ok (.d (.bool true)):=by
 unfold gI rC
 simp[wR]
def eZ(rs:L9 Rw)(k:Nat):Dz:=.list (rs.map λr=>cellD (ck k r))
theorem aB8{k:Nat}(h0:0<=q)(h1:q < (rs.length:Int)):dIx (eZ rs k) (.int q)=.ok (cellD (ck k (rowAt rs q))):=iL (oU h0 (by rw[AC,cC h0 h1];rfl))
theorem aND{bk:L9 Tn}(h0:0<=q)(h1:q < (bk.length:Int)):dIx (.tuple (bk.map Tn.d)) (.int q)=.ok (bkF bk q).d:=by
 refine l9 (oU h0 ?_)
 have a:q.toNat < bk.length:=by ext
 rw[AC,AI a]
 unfold bkF
 ext
theorem sZ{bk:L9 Tn}(a:∀ t∈bk,tnV m t)(q:Int):tnV m (bkF bk q):=by
 unfold bkF
 rw[AL]
 cases e:bk[q.toNat]? with
 | none=>exact trivial
 | some t=>exact a t (AG e)
def oρ(rs:L9 Rw)(bk:L9 Tn)(k:Nat)(t:Tn)(ps:L9 Int)(u:O9 A):Sg:=[some (.d (.tuple (bk.map Tn.d))),some (.d (eZ rs k)),some (.d t.d),some (.m (been PyData.int ps)),u]
theorem aTR{bk:L9 Tn}{ps:L9 Int}{u:O9 A}:oT (oρ rs bk k (.w x) ps u)=.ok false:=by
 simp[oT,oρ,Tn.d,yF]
theorem aLV{bk:L9 Tn}{ps:L9 Int}{u:O9 A}:oT (oρ rs bk k (.n q) ps u)=.ok true:=by
 simp[oT,oρ,Tn.d,yE]
theorem aTS{bk:L9 Tn}{ps:L9 Int}{u:O9 A}(h:q∈ps):oB (oρ rs bk k (.n q) ps u)=.ok (.rt (.d (.str "ever"))):=by
 have h1:=i8 ps q
 have h2:=(m8 i7).mpr h
 simp[oB,oρ,Tn.d,h1,h2]
theorem aTT{bk:L9 Tn}{ps:L9 Int}{u:O9 A}(h:q∉ps)(a:cF rs q)(b:ps.length<=16777216)(e:(ck k (rowAt rs q)).2=1):oB (oρ rs bk k (.n q) ps u)=.ok (.rt (.d (.int (ck k (rowAt rs q)).1))):=by
 have h1:=i8 ps q
 have h2:=gJ i7 h
 have c:(been PyData.int ps).length<=16777216:=by rw[iV];exact b
 have hi:=aB8 (k:=k) a.1 a.2
 simp[oB,oρ,Tn.d,h1,h2,c,hi,cellD,dF,e]
theorem aVM{bk:L9 Tn}{ps:L9 Int}{u:O9 A}(h:q∉ps)(a:cF rs q)(e:ps.length<=16777216)(f:(ck k (rowAt rs q)).2≠1)(h0:0<=(ck k (rowAt rs q)).1)(c:(ck k (rowAt rs q)).1 < (bk.length:Int)):oB (oρ rs bk k (.n q) ps u)=.ok (.nx (oρ rs bk k (bkF bk (ck k (rowAt rs q)).1) (ps++[q]) (some (.d (cellD (ck k (rowAt rs q))))))):=by
 have h1:=i8 ps q
 have h2:=gJ i7 h
 have i:=kZ i7 h
 have b:(been PyData.int ps).length<=16777216:=by rw[iV];exact e
 have hi:=aB8 (k:=k) a.1 a.2
 have g:=aND h0 c
 simp[oB,oρ,Tn.d,h1,h2,i,b,hi,cellD,dF,f,g]
theorem s9{l:L9 Int}(g:l.Nodup)(c:∀ q∈l,0<=q/\q < (m:Int)):l.length<=m:=
 qR (λq:Int=>q.toNat) m l g (λq d=>by have:=c q d;show q.toNat < m;ext) (λa f b h e=>by
  have h1:=c a f
  have h2:=c b h
  have i:a.toNat=b.toNat:=e
  ext)
theorem aED{bk:Int->Tn}:fM rs bk c q=if (ck (c - 97) (rowAt rs q)).2=1 then some (.inr (.n (ck (c - 97) (rowAt rs q)).1))else match bk (ck (c - 97) (rowAt rs q)).1 with
 | .n r=>some (.inl r)
 | .w x=>some (.inr (.w x)):=id rfl
theorem aP2{bk:L9 Tn}(M:Mach rs sg)(m:bA sg c=true)(hb:bk.length=rs.length)(o:∀ t∈bk,tnV rs.length t){h:Int}:∀ (n:Nat) (ps:L9 Int) (q:Int) (u:O9 A),Und2 (fM rs (bkF bk) c) h ps q->(∀ p∈ps,cF rs p)->cF rs q->rs.length+1<=ps.length+n->
  aB (aX oT oB) (aM (vV 2)) (oρ rs bk (c - 97) (.n q) ps u)=.ok (.rt (.d ((a5 (fM rs (bkF bk) c) h).getD (.w dU)).d)):=by
 intro n
 induction n with
 | zero=>
  intro ps q u U pv a l
  have:=s9 U.nd pv
  ext
 | succ n ih=>
  intro ps q u U pv a l
  rw[aW]
  by_cases b:q∈ps
  .rw[iT aLV (aTS b),U.met b];rfl
  .have s:ps.length<=rs.length:=s9 U.nd pv
   have f:ps.length<=16777216:=by have:=M.len2;ext
   have hr:=AG (cC a.1 a.2)
   obtain⟨_,g⟩:=oQ M hr (show c - 97 < sg by have:=BH m;ext)
   have g:mO rs.length (ck (c - 97) (rowAt rs q)):=g
   obtain⟨k,j,v⟩:=g
   by_cases h1:(ck (c - 97) (rowAt rs q)).2=1
   .have st:fM rs (bkF bk) c q=some (.inr (.n (ck (c - 97) (rowAt rs q)).1)):=by unfold fM;exact AJ h1
    rw[iT aLV (aTT b a f h1),U.outs st];rfl
   .rw[eS aLV (aVM b a f h1 k (by rw[hb];exact j))]
    have i:=sZ o (ck (c - 97) (rowAt rs q)).1
    cases e:bkF bk (ck (c - 97) (rowAt rs q)).1 with
    | w x=>
     have st:fM rs (bkF bk) c q=some (.inr (.w x)):=by rw[aED,AM h1,e]
     rw[cL aTR,U.outs st]
     simp[oρ,Tn.d]
    | n r=>
     rw[e]at i
     have st:fM rs (bkF bk) c q=some (.inl r):=by rw[aED,AM h1,e]
     have:=ih (ps++[q]) r (some (.d (cellD (ck (c - 97) (rowAt rs q))))) (U.next b st) (λp f=>by
      rcases A7.mp f with z|z
      · exact pv p z
      · rw [AK.mp z]; exact a) i (by rw [A2, BU]; ext)
     rw[aW]at this
     exact this
theorem aTU{bk:L9 Tn}(M:Mach rs sg)(g:bA sg c=true)(hb:bk.length=rs.length)(f:∀ t∈bk,tnV rs.length t){t:Tn}(e:tnV rs.length t):j4 [.d (.tuple (bk.map Tn.d)),.d (eZ rs (c - 97)),.d t.d]=.ok (.d (onR rs (bkF bk) c t).d):=by
 have a:aB (aX oT oB) (aM (vV 2)) (oρ rs bk (c - 97) t [] none)=.ok (.rt (.d (onR rs (bkF bk) c t).d)):=by
  cases t with
  | w x=>
   rw[aW,cL aTR]
   simp[oρ,Tn.d,onR]
  | n q=>exact aP2 M g hb f (rs.length+1) [] q none Und2.start (λp b=>by simp at b) e (by simp)
 unfold j4
 rw[zM]
 simp only[jH,aW,uO,R.bind_ok,BG,BR,Nat.reduceAdd,AZ,BQ,CD,B6,replicate,BJ,BS]
 rw[aW]at a
 simp only[oρ,been,BQ]at a
 rw[a];rfl
theorem aVN{bk:L9 Tn}(M:Mach rs sg)(b:bA sg c=true)(hb:bk.length=rs.length)(a:∀ t∈bk,tnV rs.length t){t:Tn}(f:tnV rs.length t) :
  gO [.d (gU t bk),.d (eZ rs (c - 97))]=.ok (.d (gU (onR rs (bkF bk) c t) ((range rs.length).map λq:Nat=>onR rs (bkF bk) c (.n (q:Int))))):=by
 have h:=bK (fs:=stN 0) (fe:=eA (aI 3 j4 (aA (vD (e2 dIx (rV 1) (eC (.int 1)))) (aA (vV 2) (aA (vV 0) aC))))) (Y0:=[none,some (.d (gU t bk)),some (.d (eZ rs (c - 97)))]) (d:=λi:Nat=>.int (i:Int)) (g:=λi:Nat=>(onR rs (bkF bk) c (.n (i:Int))).d) (xs:=range rs.length) λi hi=>by
  refine⟨_,rfl,?_⟩
  have:=aTU M b hb a (t:=.n (i:Int)) ⟨by ext,by have:=BF.mp hi;ext⟩
  have e:(Tn.n (i:Int)).d=.int i:=rfl
  rw[e]at this
  simp[gU,this]
 have hr:=gK (n:=rs.length) (by have:=M.len2;ext)
 have j:dLen (eZ rs (c - 97))=.ok (.int rs.length):=by unfold eZ;rw[c7,AA]
 have h1:=aTU M b hb a f
 have k:dIx (gU t bk) (.int 0)=.ok t.d:=aB2 _ _
 have h2:dIx (gU t bk) (.int 1)=.ok (.tuple (bk.map Tn.d)):=aTI _ _ _
 unfold gO aBV
 simp[k,h2,h1,j,hr,cP,h]
 unfold gU
 rw[AX];rfl
def aG(rs:L9 Rw)(z:L9 Nat):Dz:=gU (gT rs z (0,0)) ((range rs.length).map λq:Nat=>fB rs z (q:Int))
theorem k8(M:Mach rs sg)(S:aQ sg z)(V:k7 rs z s):tnV rs.length (gT rs z s):=by
 unfold gT
 cases e:a5 (bM rs z) s with
 | none=>exact trivial
 | some t=>
  obtain⟨n,h⟩:=eH e
  show tnV rs.length t
  clear e
  induction h with
  | @out s o h=>
   unfold bM at h
   rcases beg_cell M S V with ⟨x,e,b⟩|⟨q,e,a,h1,h2⟩
   .rw[e]at h;cases h;exact trivial
   .rw[e]at h
    simp only at h
    split at h
    · cases h
    · cases h; exact a
  | @go s s' o n h t ih=>
   refine ih ?_
   unfold bM at h
   rcases beg_cell M S V with ⟨x,e,b⟩|⟨q,e,a,h1,h2⟩
   .rw[e]at h;cases h
   .rw[e]at h
    simp only at h
    split at h
    · rename_i c; cases h; exact⟨h1, c, a⟩
    · cases h
theorem aAA{z:L9 Nat}{q:Nat}(h:q < rs.length):k7 rs z ((z.length:Int),(q:Int)):=⟨by show(0:Int)<=z.length;ext,C5 _,by show(0:Int)<=q;ext,by show(q:Int) < rs.length;ext⟩
theorem yG(a:cF rs q):bkF ((range rs.length).map λq:Nat=>fB rs z (q:Int)) q=fB rs z q:=by
 have b:q.toNat < rs.length:=by have:=a.1;have:=a.2;ext
 unfold bkF
 rw[AL,AC,B1 b]
 show fB rs z ((q.toNat:Nat):Int)=_
 rw[show((q.toNat:Nat):Int)=q by have:=a.1;ext]
theorem aB9(M:Mach rs sg)(i:bA sg c=true){bk a:Int->Tn}(h:∀ q,cF rs q->bk q=a q)(p:∀ q,cF rs q->tnV rs.length (bk q)){t:Tn}(l:tnV rs.length t):onR rs bk c t=onR rs a c t:=by
 cases t with
 | w x=>rfl
 | n q=>
  have st:∀ q,cF rs q->fM rs bk c q=fM rs a c q:=λq b=>by
   unfold fM
   have hr:=AG (cC b.1 b.2)
   obtain⟨_,f⟩:=oQ M hr (show c - 97 < sg by have:=BH i;ext)
   rw[h _ ⟨f.1,f.2.1⟩]
  have nx:∀ q d,cF rs q->fM rs bk c q=some (.inl d)->cF rs d:=λq d b e=>by
   unfold fM at e
   have hr:=AG (cC b.1 b.2)
   obtain⟨_,f⟩:=oQ M hr (show c - 97 < sg by have:=BH i;ext)
   have j:=p _ ⟨f.1,f.2.1⟩
   split at e
   .cases e
   .split at e
    · rename_i r m; cases e; rw [m]at j; exact j
    · cases e
  have g:=aEB (st:=fM rs bk c) (st2:=fM rs a c) (e:=id) (k:=id) (ev:=.w dU) (Dom:=cF rs) (λq b=>?_) (s:=q) l
  .show (a5 (fM rs bk c) q).getD (.w dU)=(a5 (fM rs a c) q).getD (.w dU)
   exact(g.trans (by rw[Option.map_id];rfl)).symm
  .have e:=(st q b).symm
   cases e2:fM rs bk c q with
   | none=>unfold fM at e2;split at e2<;>(try split at e2)<;>cases e2
   | some x=>
    rw[e2]at e
    cases x with
    | inl d=>exact .inl ⟨d,rfl,e,nx q d b e2⟩
    | inr o=>exact .inr ⟨o,rfl,by rw[jY (s:=id q) e];rfl⟩
theorem aCA(M:Mach rs sg)(S:aQ sg z)(b:bA sg c=true):gO [.d (aG rs z),.d (eZ rs (c - 97))]=.ok (.d (aG rs (z++[c]))):=by
 have i:((range rs.length).map λq:Nat=>fB rs z (q:Int)).length=rs.length:=by simp
 have f:∀ t∈(range rs.length).map λq:Nat=>fB rs z (q:Int),tnV rs.length t:=λt h=>by
  obtain⟨q,e,rfl⟩:=AN.mp h
  exact k8 M S (aAA (BF.mp e))
 have g:∀ q,cF rs q->tnV rs.length (bkF ((range rs.length).map λq:Nat=>fB rs z (q:Int)) q):=λq a=>sZ f q
 unfold aG
 rw[aVN M b i f (k8 M S (rK M z))]
 rw[aB9 M b (λq a=>yG a) g (k8 M S (rK M z)),aJA M S b]
 have j:((range rs.length).map λq:Nat=>onR rs (bkF ((range rs.length).map λq:Nat=>fB rs z (q:Int))) c (.n (q:Int)))=(range rs.length).map λq:Nat=>fB rs (z++[c]) (q:Int):=?_
 .rw[j]
 refine BA λq e=>?_
 have a:cF rs (q:Int):=⟨by ext,by have:=BF.mp e;ext⟩
 rw[aB9 M b (λq a=>yG a) g (t:=.n (q:Int)) a,aI9 M S b a]
theorem wU(M:Mach rs sg):aH (aE rs)=.ok (rs.map a6):=dO (by have:=M.len2;rw[AA];ext)
theorem aLW(rs:L9 Rw)(f:Rw->α):rs.map f=(range rs.length).map λq:Nat=>f (rowAt rs (q:Int)):=by
 apply List.ext_getElem
 .simp
 .intro i h1 h2
  have hi:i < rs.length:=by simpa using h1
  simp only[GX,FY]
  congr 1
  unfold rowAt
  rw[AL,show((i:Int)).toNat=i by ext,AI hi];rfl
theorem aVO(M:Mach rs sg):fF [.d (aE rs)]=.ok (.d (aG rs [])):=by
 have h:=bK (fs:=stN 0) (fe:=e2 dIx (rV 0) (eC (.int 0))) (Y0:=[none]) (d:=a6) (g:=λr:Rw=>r.l.d) (xs:=rs) λr _=>⟨_,rfl,by simp[a6]⟩
 have e1:aG rs []=.tuple [(rowAt rs 0).l.d,.tuple (rs.map λr=>r.l.d)]:=by
  unfold aG gU
  rw[aEC,aLW rs,AX]
  congr 4
  refine BA λq _=>?_
  show(gT rs [] (((([]:L9 Nat).length:Nat):Int),(q:Int))).d=_
  rw[show((([]:L9 Nat).length:Nat):Int)=0 by rfl,aEC]
 obtain⟨r,t,a,_⟩:=M.cons
 have b:dIx (.tuple (rs.map λr=>r.l.d)) (.int 0)=.ok (rowAt rs 0).l.d:=by
  subst a
  exact aB2 _ _
 rw[e1]
 unfold fF nO
 simp[wU M,cP,h,b]
theorem aTV(M:Mach rs sg)(Y0:Sg)(h:cP [none,some 0] Y0=[none,some (.d (aE rs))]) :
  compL (stN 0) cQ (eA (aI 2 i4 (aA (vV 1) (aA (vV 0) aC)))) (cP [none,some 0] Y0) ((range sg).map λi:Nat=>.int (i:Int))=.ok ((range sg).map (eZ rs)):=by
 rw[h]
 refine bK λk a=>⟨_,rfl,?_⟩
 have:=aPW M (BF.mp a)
 simp[this]
 rfl
def byρ(rs:L9 Rw)(z:Str)(s:Int×Int)(ps:L9 (Int×Int)):Sg:=[some (.d (aE rs)),some (.d (.str z)),some (.d (.int s.1)),some (.d (.int s.2)),some (.m (been prD ps))]
theorem aJB{z:Str}(hz:z.cps.toList.length<=16777216):byT (byρ rs z s ps)=.ok (decide (s.1<=(z.cps.toList.length:Int))):=by
 have a:=rF (z:=z) (by rw[gC];exact hz)
 rw[gC]at a
 simp[byT,byρ,a]
theorem aP3{z:Str}(h:s∈ps):byB (byρ rs z s ps)=.ok (.rt (.d (.str "ever"))):=by
 have h1:a7 (.tuple [.int s.1,.int s.2]) ((been prD ps).map (·.1))=true:=iU k6 ps s
 have h2:bC (been prD ps) (.tuple [.int s.1,.int s.2])=true:=(m8 j6).mpr h
 simp[byB,byρ,h1,h2]
theorem aVP{z:Str}(h:(0,q)∉ps)(b:ps.length<=16777216)(a:cF rs q)(e:(rowAt rs q).l=.w x):byB (byρ rs z (0,q) ps)=.ok (.rt (.d (.str x))):=by
 have h1:a7 (.tuple [.int 0,.int q]) ((been prD ps).map (·.1))=true:=iU k6 ps (0,q)
 have h2:bC (been prD ps) (.tuple [.int 0,.int q])=false:=gJ j6 h
 have c:(been prD ps).length<=16777216:=by rw[iV];exact b
 have hr:=nC a.1 a.2
 simp[byB,byρ,h1,h2,c,dF,hr,a6,e,Tn.d,wR]
theorem aTW{z:Str}(M:Mach rs sg)(S:aQ sg z.cps.toList){s':Int×Int}(h:s∉ps)(j:ps.length<=16777216)(V:k7 rs z.cps.toList s)(e:c8 rs z.cps.toList s=some s'):byB (byρ rs z s ps)=.ok (.nx (byρ rs z s' (ps++[s]))):=by
 obtain⟨p,q⟩:=s
 have h1:a7 (.tuple [.int p,.int q]) ((been prD ps).map (·.1))=true:=iU k6 ps (p,q)
 have h2:bC (been prD ps) (.tuple [.int p,.int q])=false:=gJ j6 h
 have i:putM (been prD ps) (.tuple [.int p,.int q]) (.bool true)=been prD (ps++[(p,q)]):=kZ j6 h
 have b:(been prD ps).length<=16777216:=by rw[iV];exact j
 have hr:=nC V.2.2.1 V.2.2.2
 have f:=wS M S V.valid
 rw[e]at f
 obtain⟨k,m⟩:=s'
 simp only[lR,prD]at f
 by_cases g:p=0
 .subst g
  have a:∃ c,(rowAt rs q).l=.n c:=by
   unfold c8 aR at e
   ext
  obtain⟨c,a⟩:=a
  simp[byB,byρ,h1,h2,i,b,dF,hr,a6,a,Tn.d,wQ,f]
 .simp[byB,byρ,h1,h2,i,b,dF,g,f]
theorem aP4{z:Str}(M:Mach rs sg)(S:aQ sg z.cps.toList){j:Int×Int}:∀ (n:Nat) (ps:L9 (Int×Int)) (s:Int×Int),Und2 (bM rs z.cps.toList) j ps s->(∀ p∈ps,k7 rs z.cps.toList p)->k7 rs z.cps.toList s->kC rs z.cps.toList+1<=ps.length+n->
  aB (aX byT byB) (aM (vV 3)) (byρ rs z s ps)=.ok (.rt (.d ((a5 (bM rs z.cps.toList) j).getD (.w dU)).d)):=by
 have i:z.cps.toList.length<=16777216:=by have:=S.1;ext
 have u:kC rs z.cps.toList<=1002 * 1000:=FU (by have:=S.1;ext) M.len2
 intro n
 induction n with
 | zero=>
  intro ps s U pv V k
  have:=pB U.nd λst h=>(pv st h).valid
  unfold kC at k
  ext
 | succ n ih=>
  intro ps s U pv V k
  rw[aW]
  have f:byT (byρ rs z s ps)=.ok true:=by rw[aJB i,AY V.2.1]
  by_cases a:s∈ps
  .rw[iT f (aP3 a),U.met a];rfl
  .have t:ps.length<=kC rs z.cps.toList:=pB U.nd λst h=>(pv st h).valid
   have b:ps.length<=16777216:=by ext
   rcases beg_cell M S V with ⟨x,e,m⟩|⟨q,e,o,h1,h2⟩
   .obtain ⟨p,q⟩:=s
    simp only at m
    subst m
    have r:(rowAt rs q).l=.w x:=by unfold aR at e;rw[AJ rfl]at e;exact e
    rw[iT f (aVP a b V.2.2 r),U.outs (show bM rs z.cps.toList (0,q)=some (.inr (.w x))by unfold bM;rw[e])];rfl
   .have g:c8 rs z.cps.toList s=some (s.1+(aR rs z.cps.toList s).2,q):=by unfold c8;rw[e]
    rw[eS f (aTW M S a b V g)]
    by_cases c:s.1+(aR rs z.cps.toList s).2<=(z.cps.toList.length:Int)
    .have st:bM rs z.cps.toList s=some (.inl (s.1+(aR rs z.cps.toList s).2,q)):=by unfold bM;rw[e];simp only;rw[AJ c]
     have:=ih (ps++[s]) (s.1+(aR rs z.cps.toList s).2,q) (U.next a st) (λp b=>by
      rcases A7.mp b with z|z
      · simp[*]
      · rw [AK.mp z]; exact V) ⟨h1, c, o⟩ (by rw [A2, BU]; ext)
     simp_all
    .have st:bM rs z.cps.toList s=some (.inr (.n q)):=by unfold bM;rw[e];simp only;rw[AM c]
     rw[cL (by rw[aJB i,A5 c]),U.outs st]
     simp[byρ,Tn.d]
theorem aNE{z:Str}(M:Mach rs sg)(S:aQ sg z.cps.toList)(V:k7 rs z.cps.toList s):fD [.d (aE rs),.d (.str z),.d (.int s.1),.d (.int s.2)]=.ok (.d (gT rs z.cps.toList s).d):=by
 have a:=aP4 M S (kC rs z.cps.toList+1) [] s Und2.start (λp b=>by simp at b) V (by simp)
 unfold fD
 rw[qG]
 simp only[jH,aW,uO,R.bind_ok,BG,BR,Nat.reduceAdd,AZ,BQ,CD,B6,replicate,BJ,BS]
 rw[aW]at a
 simp only[byρ,been,BQ]at a
 rw[a];rfl
theorem aJC{z:Str}(M:Mach rs sg)(S:aQ sg z.cps.toList):cM [.d (aE rs),.d (.str z)]=.ok (.d (aG rs z.cps.toList)):=by
 have e:z.cps.toList.length<=16777216:=by have:=S.1;ext
 have a:=rF (z:=z) (by rw[gC];exact e)
 rw[gC]at a
 have h:=bK (fs:=stN 0) (fe:=eA (aI 4 fD (aA (vV 1) (aA (vV 2) (aA (vD (e1 dLen (rV 2))) (aA (vV 0) aC)))))) (Y0:=[none,some (.d (aE rs)),some (.d (.str z))]) (d:=λi:Nat=>.int (i:Int)) (g:=λi:Nat=>(fB rs z.cps.toList (i:Int)).d) (xs:=range rs.length) λi hi=>by
  refine⟨_,rfl,?_⟩
  have:=aNE M S (aAA (z:=z.cps.toList) (BF.mp hi))
  simp only at this
  simp only[aNA,pT,jS,wL,sU,lH,jL,i5,BJ,A9,BE,R.bind_ok,a,BG,BR,Nat.reduceAdd,CU,this,aIY]
  rfl
 have hr:=gK (n:=rs.length) (by have:=M.len2;ext)
 have c:dLen (aE rs)=.ok (.int rs.length):=by unfold aE;rw[aB0,AA]
 have b:=aNE M S (rK M z.cps.toList)
 simp only at b
 unfold cM nB
 simp[c,hr,cP,h,b]
 unfold aG gU
 rw[AX];rfl
theorem aCB(i j:Int):dNe (.int i) (.int j)=.ok (.bool (!decide (i=j))):=by rw[wO (bZ i) (bZ j),wP]
end Mc
variable{ps:L9 Str}
namespace Fl
@[simp] theorem aLX(i:Nat)(f:Sg->R (L9 (Dz×Dz)))(Y:Sg):nN i f Y=(f Y).bind λce=>(dX [] ce).bind λres=>.ok (.nx (Y.set i (some (.m res)))):=id rfl
@[simp] theorem aP5(Y:Sg):uG Y=.ok []:=id rfl
@[simp] theorem aLY(f g:Sg->R Dz)(r:Sg->R (L9 (Dz×Dz)))(Y:Sg):lZ f g r Y=(f Y).bind λx=>(g Y).bind λy=>(r Y).bind λt=>.ok ((x,y)::t):=id rfl
end Fl
variable{x x0:Dz}{gs:L9 Dz}
namespace Mc
open Fl
theorem wordW_is{rs:L9 Rw}(M:Mach rs sg)(S:aQ sg z):bF rs z="by"\/bF rs z="out"\/bF rs z="ever":=by
 obtain⟨_,ps,⟨p,r⟩,_,V,q⟩:=aB5 (z:=⟨z.toArray⟩) M S
 have c:=(M.row _ (AG (cC V.2.2.1 V.2.2.2))).1
 unfold bF
 rcases q with ⟨_,x,a,b⟩|⟨_,b⟩
 .have b:a5 (b8 rs z) (0,0)=some x:=b
  have:x="by"\/x="out":=by
   unfold aR at a
   simp only at a
   by_cases d:p=0
   .rw[AJ d]at a;have k:=c.1;rw[show(rowAt rs r).l=.w x from a]at k;exact k
   .rw[AM d]at a
    split at a
    · have k := c.2.1; rw [show(rowAt rs r).r = .w x from a]at k; exact k
    · cases a
  ext
 .grind
theorem pW{w:Str}(h:w="by"\/w="out"\/w="ever"):shaped (.str w)=true:=by rcases h with rfl|rfl|rfl<;>decide +kernel
theorem aTX{w v:Str}(h:w="by"\/w="out"\/w="ever")(h':v="by"\/v="out"\/v="ever"):dEq (.str w) (.str v)=.ok (.bool (decide (w=v))):=by
 rw[m6 (pW h) (pW h'),aI6]
 congr 2
@[simp] theorem aXL(m i:Nat)(f:Sg->R (L9 Dz))(Y:Sg):yA m i f Y=match Y[i]? with|some (some (.g k n G))=>(f Y).bind λds=>if k<=m/\ds.length=n then G ds else .bad|_=>.bad:=id rfl
@[simp] theorem aW0(m i:Nat)(f:Sg->R (L9 Dz))(Y:Sg):z9 m i f Y=match Y[i]? with|some (some (.g k n G))=>(f Y).bind λds=>if k<=m/\ds.length=n then(match G ds with | .ok d=>if sN d=true then .ok d else .bad|_=>.bad)else .bad|_=>.bad:=id rfl
def fN(fs:L9 Dz):L9 (Dz×Dz):=fs.zipIdx.map λp=>(p.1,.int (p.2:Int))
theorem pX(fs:L9 Dz):(fN fs).map (·.1)=fs:=by
 unfold fN
 rw[AX]
 show fs.zipIdx.map Prod.fst=fs
 simp_all
theorem aEE(fs:L9 Dz):(fN fs).length=fs.length:=by unfold fN;rw[AA,CO]
theorem aCC{fs:L9 Dz}(hx:eE x=true)(h:∀ y∈fs,eE y=true):a7 x ((fN fs).map (·.1))=true:=by
 unfold a7
 rw[pX,hx,GD,CL,BI]
 exact .inl h
theorem yH{fs:L9 Dz}:bC (fN fs) x=true↔x∈fs:=by rw[mU,pX]
theorem uS{fs:L9 Dz}(h:x∉fs):bC (fN fs) x=false:=by
 cases q:bC (fN fs) x with
 | false=>rfl
 | true=>exact absurd (yH.mp q) h
theorem aEF{fs:L9 Dz}(h:x∉fs):putM (fN fs) x (.int (fs.length:Int))=fN (fs++[x]):=by
 unfold putM
 rw[uS h,AM (by decide)]
 unfold fN
 ext
theorem aP6{fs:L9 Dz}(h:x∈fs):∃ i:Nat,b7 (fN fs) x=some (.int (i:Int))/\fs[i]? = some x:=by
 unfold b7
 cases e:(fN fs).find? λp=>decide (p.1=x)with
 | none=>
  rw[F5]at e
  rw[<-pX fs,AN]at h
  ext
 | some p=>
  have h1:=List.find?_some e
  have h2:=GM e
  unfold fN at h2
  ext
structure Srch where
 after:Dz->List Dz
 x0:Dz
 good:Nat->Dz->Prop
 lim:Nat
 k1:Nat
 k2:Nat
 G:List Dz->R Dz
 D:List Dz->R Dz
structure Srch.ok(S:Srch):Prop where
 g0:S.good 0 S.x0
 gs:∀ i x,S.good i x->i<=S.lim->∀ y∈S.after x,S.good (i+1) y
 up:∀ i j x,i<=j->S.good i x->S.good j x
 few:∀ xs:List Dz,xs.Nodup->(∀ x∈xs,∃ i,S.good i x)->xs.length<=S.lim
 key:∀ i x,S.good i x->eE x=true
 hk1:S.k1<=12
 hk2:S.k2<=12
 hG:∀ i x,i<=S.lim->S.good i x->S.G [x]=.ok (.list (S.after x))/\(S.after x).length<=16777216
 hD:∀ (fs:List Dz) (i:Int),fs.length<=S.lim->S.D [.list fs,.int i]=.ok (.bool false)
 hl:S.lim<=16000000
def bL(js:L9 Nat):Dz:=.tuple (js.map λj:Nat=>.int (j:Int))
def adQ(fs:L9 Dz)(y:Dz):L9 Dz:=if y∈fs then fs else fs++[y]
def adA(fs ys:L9 Dz):L9 Dz:=ys.foldl adQ fs
def nrQ(fs:L9 Dz)(y:Dz):Nat:=fs.idxOf y
theorem kM{fs:L9 Dz}(h:y∈fs):adQ fs y=fs:=AJ h
theorem i9{fs:L9 Dz}(h:y∉fs):adQ fs y=fs++[y]:=AM h
theorem oX(fs:L9 Dz)(y:Dz):fs <+: adQ fs y:=by
 by_cases h:y∈fs
 · rw [kM h]; exact DF _
 · rw [i9 h]; exact List.prefix_append ..
theorem tD(fs:L9 Dz)(y:Dz):y∈adQ fs y:=by
 by_cases h:y∈fs
 · rw [kM h]; exact h
 · rw [i9 h]; simp
theorem aJD{fs:L9 Dz}(h:fs.Nodup):(adQ fs y).Nodup:=by
 by_cases q:y∈fs
 .rw[kM q];exact h
 .rw[i9 q,DA]
  ext
theorem aP7(fs:L9 Dz)(y:Dz):(adQ fs y).length<=fs.length+1:=by
 by_cases q:y∈fs
 · rw [kM q]; ext
 · rw [i9 q]; simp
theorem aLZ(fs ys:L9 Dz)(y:Dz):adA fs (ys++[y])=adQ (adA fs ys) y:=by unfold adA;rw[EY];rfl
theorem yI(ys:L9 Dz):∀ fs:L9 Dz,fs <+: adA fs ys:=by
 induction ys with
 | nil=>exact λfs=>DF _
 | cons y t ih=>exact λfs=>(oX fs y).trans (ih _)
theorem wV(ys:L9 Dz):∀ {fs:L9 Dz},fs.Nodup->(adA fs ys).Nodup:=by
 induction ys with
 | nil=>exact λh=>h
 | cons y t ih=>exact λh=>ih (aJD h)
theorem mF(ys:L9 Dz):∀ {fs:L9 Dz} {y:Dz},y∈ys->y∈adA fs ys:=by
 induction ys with
 | nil=>intro fs y h;cases h
 | cons x t ih=>
  intro fs y h
  rcases AW.mp h with rfl|h
  · exact(yI t _).subset (tD fs y)
  · exact ih h
theorem adA_mem(ys:L9 Dz):∀ {fs:L9 Dz} {y:Dz},y∈adA fs ys->y∈fs\/y∈ys:=by
 induction ys with
 | nil=>intro fs y h;exact .inl h
 | cons x t ih=>
  intro fs y h
  rcases ih (fs:=adQ fs x) h with h|h
  .by_cases q:x∈fs
   .rw[kM q]at h;exact .inl h
   .rw[i9 q]at h
    ext
  .grind
theorem aEG(ys:L9 Dz):∀ fs:L9 Dz,(adA fs ys).length<=fs.length+ys.length:=by
 induction ys with
 | nil=>intro fs;exact AQ _
 | cons x t ih=>
  intro fs
  have h1:=ih (adQ fs x)
  have h2:=aP7 fs x
  show(adA (adQ fs x) t).length<=fs.length+(t.length+1)
  ext
theorem oY{fs fs':L9 Dz}(h:fs <+: fs')(a:y∈fs):nrQ fs' y=nrQ fs y:=by
 obtain⟨t,rfl⟩:=h
 unfold nrQ
 ext
theorem oZ{fs:L9 Dz}(a:y∈fs):fs[nrQ fs y]? = some y:=by
 have h:nrQ fs y < fs.length:=F6 a
 rw[AI h]
 exact DB some (List.getElem_idxOf h)
theorem aNF{xs:L9 α}(h:xs.Nodup){x:α}(h1:xs[i]? = some x)(h2:xs[j]? = some x):i=j:=by
 obtain⟨a,e1⟩:=AD.mp h1
 obtain⟨b,e2⟩:=AD.mp h2
 rcases DR i j with q|q|q
 · exact absurd (e1.trans e2.symm) (CV.mp h i j a b q)
 · exact q
 · exact absurd (e2.trans e1.symm) (CV.mp h j i b a q)
theorem aEH{fs:L9 Dz}(h:fs.Nodup)(a:y∈fs):b7 (fN fs) y=some (.int (nrQ fs y:Int)):=by
 obtain⟨i,h1,h2⟩:=aP6 a
 rw[h1,aNF h h2 (oZ a)]
structure Sq where
 after:Dz->List Dz
 x0:Dz
 stop:List Dz->Nat->Bool
 k1:Nat
 k2:Nat
 G:List Dz->R Dz
 D:List Dz->R Dz
def bfQ(after:Dz->L9 Dz)(x0:Dz):Nat->L9 Dz
 | 0=>[x0]
 | n+1=>match (bfQ after x0 n)[n]? with
  | some x=>adA (bfQ after x0 n) (after x)
  | none=>bfQ after x0 n
theorem nE{after:Dz->L9 Dz}(h:(bfQ after x0 n)[n]? = some x):bfQ after x0 (n+1)=adA (bfQ after x0 n) (after x):=by rw[bfQ,h]
theorem dQ(after:Dz->L9 Dz)(x0:Dz)(n:Nat):bfQ after x0 n <+: bfQ after x0 (n+1):=by
 rw[bfQ]
 split
 · exact yI _ _
 · simp_all
theorem j8{after:Dz->L9 Dz}{x0:Dz}(h:m<=n):bfQ after x0 m <+: bfQ after x0 n:=by
 obtain⟨k,rfl⟩:=FX h
 clear h
 induction k with
 | zero=>exact DF _
 | succ k ih=>exact ih.trans (dQ after x0 (m+k))
theorem rL(after:Dz->L9 Dz)(x0:Dz)(n:Nat):(bfQ after x0 n).Nodup:=by
 induction n with
 | zero=>simp[bfQ]
 | succ n ih=>
  rw[bfQ]
  split
  · exact wV _ ih
  · exact ih
theorem pY(after:Dz->L9 Dz)(x0:Dz)(n:Nat):(bfQ after x0 n)[0]? = some x0:=by
 obtain⟨t,e⟩:=j8 (after:=after) (x0:=x0) (BP n)
 rw[<-e];rfl
theorem gV{f g:L9 α}{x:α}(h:f <+: g)(e:f[i]? = some x):g[i]? = some x:=by
 obtain⟨t,rfl⟩:=h
 rw[BV (AD.mp e).1]
 exact e
theorem lP{f g:L9 α}{x:α}(h:f <+: g)(hi:i < f.length)(e:g[i]? = some x):f[i]? = some x:=by
 obtain⟨t,rfl⟩:=h
 rwa [BV hi]at e
def jU(after:Dz->L9 Dz)(fs:L9 Dz)(x:Dz):Dz:=bL ((after x).map (nrQ fs))
def a8(after:Dz->L9 Dz)(fs:L9 Dz)(n:Nat):L9 Dz:=(fs.take n).map (jU after fs)
structure Sq.ok(S:Sq)(N:Nat):Prop where
 on:∀ m,m < N->m < (bfQ S.after S.x0 m).length/\S.stop (bfQ S.after S.x0 m) m=false
 off:(bfQ S.after S.x0 N).length<=N\/S.stop (bfQ S.after S.x0 N) N=true
 key:(∀ x∈bfQ S.after S.x0 N,eE x=true)\/(∀ x∈bfQ S.after S.x0 N,jQ x=true)
 len:(bfQ S.after S.x0 N).length<=16000000
 hk1:S.k1<=12
 hk2:S.k2<=12
 hG:∀ m x,m < N->(bfQ S.after S.x0 N)[m]? = some x->(∃ d,S.G [x]=.ok d/\aH d=.ok (S.after x))/\(S.after x).length<=1000
 hD:∀ m,m<=N->m < (bfQ S.after S.x0 m).length->S.D [.list (bfQ S.after S.x0 m),.int (m:Int)]=.ok (.bool (S.stop (bfQ S.after S.x0 m) m))
theorem aNG{B:L9 Dz}(h:(∀ x∈B,eE x=true)\/(∀ x∈B,jQ x=true)){fs:L9 Dz}(a:y∈B)(b:∀ x∈fs,x∈B):a7 y ((fN fs).map (·.1))=true:=by
 unfold a7
 rw[pX,CL,A1,A1,BI,BI]
 ext
def rqρ(S:Sq)(fs:L9 Dz)(gs:L9 Dz)(u v:O9 A):Sg:=[some (.d S.x0),some (.g S.k1 1 S.G),some (.g S.k2 2 S.D),some (.l fs),some (.m (fN fs)),some (.l gs),u,v]
theorem aTY{S:Sq}{B fs ys gs:L9 Dz}{v:O9 A}(D:(∀ x∈B,eE x=true)\/(∀ x∈B,jQ x=true))(L:B.length<=16000000)(nd:fs.Nodup)(J:adA fs ys <+: B)(N:ys.length<=1000) :
  ∃ v',gL (stN 7) rhF ys (rqρ S fs gs (some (.l [])) v)=.ok (.nx (rqρ S (adA fs ys) gs (some (.l ((ys.map (nrQ (adA fs ys))).map λj:Nat=>.int (j:Int)))) v')):=by
 obtain⟨O,K,v',M⟩:=dP (fs:=stN 7) (fb:=rhF) (d:=id) (xs:=ys) (Y:=rqρ S fs gs (some (.l [])) v)
  (λi Y=>∃ v',Y=rqρ S (adA fs (ys.take i)) gs (some (.l (((ys.take i).map (nrQ (adA fs (ys.take i)))).map λj:Nat=>.int (j:Int)))) v') ⟨v,rfl⟩ λi y Y hi z=>by
  obtain⟨v',e⟩:=z
  have C:ys.take (i+1)=ys.take i++[y]:=by rw[B9,hi];rfl
  have E:=(AD.mp hi).1
  have a:adA fs (ys.take (i+1)) <+: B:=by
   refine List.IsPrefix.trans ?_ J
   have:adA fs ys=adA (adA fs (ys.take (i+1))) (ys.drop (i+1)):=by
    unfold adA;rw[<-List.foldl_append,HI]
   rw[this];exact yI _ _
  have I:(adA fs (ys.take i)).Nodup:=wV _ nd
  have n:(adA fs (ys.take (i+1))).Nodup:=wV _ nd
  have s:∀ x∈ys.take (i+1),x∈adA fs (ys.take (i+1)):=λx b=>mF _ b
  rw[C]at a n s
  rw[C,aLZ]at *
  generalize H:adA fs (ys.take i)=F at *
  have o:y∈B:=a.subset (tD F y)
  have t:∀ x∈F,x∈B:=λx b=>a.subset ((oX F y).subset b)
  have h:F.length < 16777216:=by
   have h1:=a.length_le
   have h2:=(oX F y).length_le
   ext
  have s1:=aNG D o t
  have w:=aNG D o (fs:=adQ F y) (λx b=>a.subset b)
  have p:=aEH n (tD F y)
  have k:(fN F).length<=16777216:=by rw[aEE];ext
  have r:∀ x∈ys.take i,x∈F:=λx b=>by rw[<-H];exact mF _ b
  have m:(ys.take i++[y]).map (nrQ (adQ F y))=(ys.take i).map (nrQ F)++[nrQ (adQ F y) y]:=by
   rw[A8,DJ]
   congr 1
   exact BA λx b=>oY (oX F y) (r x b)
  have g:(ys.take i).length < 16777216:=by rw[BC];ext
  rw[m]
  refine⟨rqρ S F gs (some (.l (((ys.take i).map (nrQ F)).map λj:Nat=>.int (j:Int)))) (some (.d y)),_,by rw[e];simp[rqρ],.inl ?_,some (.d y),rfl⟩
  have q:dLen (.list F)=.ok (.int (F.length:Int)):=c7 _
  have c:min i ys.length < 16777216:=by rw[BC]at g;exact g
  by_cases f:y∈F
  .have u:=yH.mpr f
   rw[kM f]at w p ⊢
   simp[rhF,rqρ,s1,u,p,c]
  .have u:=uS f
   have G:=aEF f
   rw[i9 f]at w p ⊢
   simp[rhF,rqρ,s1,w,u,G,p,q,k,h,c]
 rw[map_id]at K
 ext
theorem Sq.ok.le{S:Sq}(O:S.ok N)(h:m<=N):bfQ S.after S.x0 m <+: bfQ S.after S.x0 N:=j8 h
theorem aEI{S:Sq}(O:S.ok N)(h:m<=N)(c:gs.length=m){u v:O9 A}:rhT (rqρ S (bfQ S.after S.x0 m) gs u v)=.ok (decide (m < N)):=by
 have k2:=O.hk2
 subst c
 by_cases a:gs.length < (bfQ S.after S.x0 gs.length).length
 .have b:=O.hD _ h a
  have d:S.stop (bfQ S.after S.x0 gs.length) gs.length = !decide (gs.length < N):=by
   by_cases q:gs.length < N
   .rw[(O.on _ q).2,AY q];rfl
   .have e:gs.length=N:=by ext
    rcases O.off with z|z
    · rw [e]at a; ext
    · rw [A5 q, e]; exact z
  rw[d]at b
  simp[rhT,rqρ,c7,a,k2,b,sN]
 .have:¬ gs.length < N:=λq=>a (O.on _ q).1
  simp[rhT,rqρ,c7,a,this]
theorem aP8{S:Sq}(O:S.ok N)(h:m < N)(o:gs.length=m){u v:O9 A}:∃ x u' v',(bfQ S.after S.x0 m)[m]? = some x/\rhB (rqρ S (bfQ S.after S.x0 m) gs u v)=.ok (.nx (rqρ S (bfQ S.after S.x0 (m+1)) (gs++[jU S.after (bfQ S.after S.x0 (m+1)) x]) u' v')):=by
 have c:=(O.on m h).1
 have a:(bfQ S.after S.x0 m)[m]? = some (bfQ S.after S.x0 m)[m]:=AI c
 generalize (bfQ S.after S.x0 m)[m]=x at a
 have k1:=O.hk1
 obtain⟨⟨d,k,g⟩,i⟩:=O.hG m x h (gV (O.le (by ext)) a)
 have e:=nE a
 have n:adA (bfQ S.after S.x0 m) (S.after x) <+: bfQ S.after S.x0 N:=by rw[<-e];exact O.le (by ext)
 obtain⟨v',q⟩:=aTY (S:=S) (gs:=gs) (v:=v) O.key O.len (rL S.after S.x0 m) n i
 rw[<-e]at q
 have p:dIx (.list (bfQ S.after S.x0 m)) (.int (m:Int))=.ok x:=iL (cY a)
 have b:gs.length < 16777216:=by have:=(O.le (show m<=N by ext)).length_le;have:=O.len;ext
 have f:(S.after x).length<=16777216:=by ext
 refine⟨x,some (.l (((S.after x).map (nrQ (bfQ S.after S.x0 (m+1)))).map λj:Nat=>.int (j:Int))),v',a,?_⟩
 subst o
 simp only[rqρ]at q
 simp[rhB,rqρ,c7,p,k1,k,g,q,b,jU,bL,f]
theorem nR{after:Dz->L9 Dz}{fs:L9 Dz}(h:m<=fs.length):(a8 after fs m).length=m:=by unfold a8;rw[AA,BC,FD h]
theorem aP9{S:Sq}(O:S.ok N):∀ (k m:Nat) (u v:O9 A),m+k=N->
  ∃ u' v',aX rhT rhB (rqρ S (bfQ S.after S.x0 m) (a8 S.after (bfQ S.after S.x0 m) m) u v)=.ok (.nx (rqρ S (bfQ S.after S.x0 N) (a8 S.after (bfQ S.after S.x0 N) N) u' v')):=by
 have f:∀ m,m<=N->(∀ c,c < m->c < (bfQ S.after S.x0 c).length)->m<=(bfQ S.after S.x0 m).length:=λm b h=>by
  cases m with
  | zero=>exact BP _
  | succ m=>exact AV (h m (ED m)) (dQ S.after S.x0 m).length_le
 intro k
 induction k with
 | zero=>
  intro m u v b
  have b:m=N:=b
  subst b
  have d:=f m (AQ _) λc h=>(O.on c h).1
  rw[cL (by rw[aEI O (AQ m) (nR d),A5 (B4 m)])]
  exact⟨u,v,rfl⟩
 | succ k ih=>
  intro m u v b
  have a:m < N:=b▸EU (Nat.succ_pos k)
  have p:=B7 a
  have d:=f m p λc h=>(O.on c (DI h a)).1
  have r:=nR (after:=S.after) d
  obtain⟨x,u',v',o,q⟩:=aP8 O a r (u:=u) (v:=v)
  rw[eS (by rw[aEI O p r,AY a]) q]
  have e:a8 S.after (bfQ S.after S.x0 m) m++[jU S.after (bfQ S.after S.x0 (m+1)) x]=a8 S.after (bfQ S.after S.x0 (m+1)) (m+1):=by
   unfold a8
   have s:(bfQ S.after S.x0 (m+1)).take (m+1)=(bfQ S.after S.x0 m).take m++[x]:=by
    obtain⟨t,B⟩:=dQ S.after S.x0 m
    have n:=(AD.mp o).1
    rw[<-B,FJ n,B9,o];rfl
   rw[s,A8,DJ]
   congr 1
   refine BA λy C=>?_
   unfold jU
   congr 1
   refine BA λz w=>?_
   obtain⟨j,l⟩:=BX C
   have i:j < m:=by
    have:=(AD.mp l).1
    rw[BC]at this;exact A3 this (EJ _ _)
   rw[F7,AJ i]at l
   refine(oY (dQ S.after S.x0 m) ?_).symm
   have g:(bfQ S.after S.x0 j)[j]? = some y:=lP (O.le (by ext)) ((O.on j (by ext)).1) (gV (O.le (by ext)) l)
   have:=mF (fs:=bfQ S.after S.x0 j) _ w
   rw[<-nE g]at this
   exact(j8 (by ext)).subset this
  rw[e]
  exact ih (m+1) u' v' (by rw[<-b,Nat.add_assoc,EA 1])
theorem aL0{S:Sq}(O:S.ok N):dD [.d S.x0,.g S.k1 1 S.G,.g S.k2 2 S.D]=.ok (.d (.tuple [.list (bfQ S.after S.x0 N),.list (a8 S.after (bfQ S.after S.x0 N) N)])):=by
 obtain⟨u,v,q⟩:=aP9 O N 0 none none (by ext)
 have a:=AG (pY S.after S.x0 N)
 have c:a7 S.x0 []=true:=by
  unfold a7
  rw[CL,A1,A1]
  exact O.key.imp (λh=>⟨h _ a,rfl⟩) (λh=>⟨h _ a,rfl⟩)
 have hi:fN [S.x0]=[(S.x0,.int 0)]:=rfl
 have b:Fl.dX [] [(S.x0,.int 0)]=.ok [(S.x0,.int 0)]:=by simp[Fl.dX,c,putM,bC,b7]
 unfold dD
 rw[zL]
 simp only[rqρ,bfQ,a8,List.take_zero,hi,BQ]at q
 simp[b,q,a8]
end Mc
namespace Fl
@[simp] theorem aL1(i:Nat)(f g:Sg->R Dz)(Y:Sg):pQ i f g Y=match Y[i]? with
 | some (some (.m ce))=>(f Y).bind λk=>(g Y).bind λy=>if a7 k (ce.map (·.1))=true/\ce.length<=16777216 then .ok (.nx (if bC ce k=true then Y else Y.set i (some (.m (putM ce k y)))))else .bad
 | _=>.bad:=id rfl
@[simp] theorem aXM(i:Nat)(Y:Sg):aF2 i Y=match Y[i]? with
 | some (some (.l xs))=>.ok (.nx (Y.set i (some (.l xs.reverse))))
 | _=>.bad:=id rfl
theorem pZ(h:aH x=.ok xs):iK x=.ok (xs.zipIdx.map pR):=by
 unfold iK;rw[h];rfl
end Fl
namespace Mc
open Fl
mutual
def nbD:Dz->Bool
 | .bool _=>false
 | .dict _=>false
 | .list xs=>nF xs
 | .tuple xs=>nF xs
 | _=>true
def nF:L9 Dz->Bool
 | []=>true
 | x::t=>nbD x && nF t
end
theorem mG:∀ {xs:L9 Dz},(∀ x∈xs,nbD x=true)->nF xs=true
 | [],_=>rfl
 | x::t,h=>by
  show(nbD x && nF t)=true
  rw[h x AU,mG λy a=>h y (AS _ a)];rfl
mutual
theorem wW:∀ d:Dz,d.canLay0=true->d.eqv d=true
 | .none,_=>by rfl
 | .bool b,_=>by simp[PyData.eqv]
 | .int i,_=>by simp[PyData.eqv]
 | .str x,_=>by simp[PyData.eqv]
 | .list xs,h=>by
  show PyData.eqvAll xs xs=true
  exact yJ xs h
 | .tuple xs,h=>by
  show PyData.eqvAll xs xs=true
  exact yJ xs h
 | .dict _,h=>by cases h
theorem yJ:∀ xs:L9 Dz,PyData.canLayAll0 xs=true->PyData.eqvAll xs xs=true
 | [],_=>by rfl
 | x::t,h=>by
  have h':(x.canLay0 && PyData.canLayAll0 t)=true:=h
  rw[A1]at h'
  show(x.eqv x && PyData.eqvAll t t)=true
  rw[wW x h'.1,yJ t h'.2];rfl
end
mutual
theorem aJE:∀ x y:Dz,nbD x=true->nbD y=true->x.eqv y=true->x=y
 | .none,.none,_,_,_=>rfl
 | .int i,.int j,_,_,h=>by simp[PyData.eqv]at h;rw[h]
 | .str i,.str j,_,_,h=>by simp[PyData.eqv]at h;rw[h]
 | .list xs,.list ys,h1,h2,h=>by rw[yK xs ys h1 h2 h]
 | .tuple xs,.tuple ys,h1,h2,h=>by rw[yK xs ys h1 h2 h]
 | .bool _,_,h,_,_=>by cases h
 | .dict _,_,h,_,_=>by cases h
 | _,.bool _,_,h,_=>by cases h
 | _,.dict _,_,h,_=>by cases h
 | .none,.int _,_,_,h=>by simp[PyData.eqv]at h
 | .none,.str _,_,_,h=>by simp[PyData.eqv]at h
 | .none,.list _,_,_,h=>by simp[PyData.eqv]at h
 | .none,.tuple _,_,_,h=>by simp[PyData.eqv]at h
 | .int _,.none,_,_,h=>by simp[PyData.eqv]at h
 | .int _,.str _,_,_,h=>by simp[PyData.eqv]at h
 | .int _,.list _,_,_,h=>by simp[PyData.eqv]at h
 | .int _,.tuple _,_,_,h=>by simp[PyData.eqv]at h
 | .str _,.none,_,_,h=>by simp[PyData.eqv]at h
 | .str _,.int _,_,_,h=>by simp[PyData.eqv]at h
 | .str _,.list _,_,_,h=>by simp[PyData.eqv]at h
 | .str _,.tuple _,_,_,h=>by simp[PyData.eqv]at h
 | .list _,.none,_,_,h=>by simp[PyData.eqv]at h
 | .list _,.int _,_,_,h=>by simp[PyData.eqv]at h
 | .list _,.str _,_,_,h=>by simp[PyData.eqv]at h
 | .list _,.tuple _,_,_,h=>by simp[PyData.eqv]at h
 | .tuple _,.none,_,_,h=>by simp[PyData.eqv]at h
 | .tuple _,.int _,_,_,h=>by simp[PyData.eqv]at h
 | .tuple _,.str _,_,_,h=>by simp[PyData.eqv]at h
 | .tuple _,.list _,_,_,h=>by simp[PyData.eqv]at h
theorem yK:∀ xs ys:L9 Dz,nF xs=true->nF ys=true->PyData.eqvAll xs ys=true->xs=ys
 | [],[],_,_,_=>rfl
 | [],_::_,_,_,h=>by simp[PyData.eqvAll]at h
 | _::_,[],_,_,h=>by simp[PyData.eqvAll]at h
 | x::xs,y::ys,h1,h2,h=>by
  have h1':(nbD x && nF xs)=true:=h1
  have a:(nbD y && nF ys)=true:=h2
  have h':(x.eqv y && PyData.eqvAll xs ys)=true:=h
  rw[A1]at h1' a h'
  rw[aJE x y h1'.1 a.1 h'.1,yK xs ys h1'.2 a.2 h'.2]
end
theorem aCD{d:Dz}(h:shaped d=true):d.canLay0=true:=by
 have h':(d.canLay0 && decide (d.depth<=64))=true:=h
 ext
theorem wX{x y:Dz}(hx:nbD x=true)(a:nbD y=true)(l:shaped x=true):x.eqv y=decide (x=y):=by
 by_cases h:x=y
 .subst h;rw[wW x (aCD l),AY rfl]
 .rw[A5 h]
  cases q:x.eqv y with
  | false=>rfl
  | true=>exact absurd (aJE x y hx a q) h
structure Cp(d:Dz):Prop where
 nb:nbD d=true
 sh:shaped d=true
theorem aJF{x y:Dz}(hx:Cp x)(a:Cp y):dEq x y=.ok (.bool (decide (x=y))):=by rw[m6 hx.sh a.sh,wX hx.nb a.nb hx.sh]
theorem wY{x y:Dz}(hx:Cp x)(a:Cp y):dNe x y=.ok (.bool (!decide (x=y))):=by rw[wO hx.sh a.sh,wX hx.nb a.nb hx.sh]
theorem aTZ{x:Dz}(h:shaped x=true):dEq x x=.ok (.bool true):=by rw[m6 h h,wW x (aCD h)]
theorem rM{x:Dz}(h:shaped x=true):dNe x x=.ok (.bool false):=by rw[wO h h,wW x (aCD h)];rfl
def wρ(rs:L9 Rw)(f:Tn)(bk:L9 Tn)(t:Tn)(ps:L9 Int)(u:O9 A):Sg:=[some (.d (aE rs)),some (.d (gU f bk)),some (.d t.d),some (.m (been PyData.int ps)),u]
theorem aL2{rs:L9 Rw}{f:Tn}{bk:L9 Tn}{x:Str}{ps:L9 Int}{u:O9 A}:wT (wρ rs f bk (.w x) ps u)=.ok false:=by
 simp[wT,wρ,Tn.d,yF]
theorem aL3{rs:L9 Rw}{f:Tn}{bk:L9 Tn}{q:Int}{ps:L9 Int}{u:O9 A}:wT (wρ rs f bk (.n q) ps u)=.ok true:=by
 simp[wT,wρ,Tn.d,yE]
theorem aT0{rs:L9 Rw}{f:Tn}{bk:L9 Tn}{q:Int}{ps:L9 Int}{u:O9 A}(h:q∈ps):wB (wρ rs f bk (.n q) ps u)=.ok (.rt (.d (.str "ever"))):=by
 have h1:=i8 ps q
 have h2:=(m8 i7).mpr h
 simp[wB,wρ,Tn.d,h1,h2]
theorem aW1{rs:L9 Rw}{f:Tn}{bk:L9 Tn}{q:Int}{ps:L9 Int}{u:O9 A}{x:Str}(h:q∉ps)(a:cF rs q)(b:ps.length<=16777216)(e:(rowAt rs q).r=.w x):wB (wρ rs f bk (.n q) ps u)=.ok (.nx (wρ rs f bk (.w x) (ps++[q]) (some (.d (.str x))))):=by
 have h1:=i8 ps q
 have h2:=gJ i7 h
 have g:=kZ i7 h
 have c:(been PyData.int ps).length<=16777216:=by rw[iV];exact b
 have hr:=nC a.1 a.2
 simp[wB,wρ,Tn.d,h1,h2,g,c,hr,a6,e,yF]
theorem aW2{rs:L9 Rw}{f:Tn}{bk:L9 Tn}{q a:Int}{ps:L9 Int}{u:O9 A}(h:q∉ps)(b:cF rs q)(i:ps.length<=16777216)(e:(rowAt rs q).r=.n a)(h0:0<=a)(g:a < (bk.length:Int)):wB (wρ rs f bk (.n q) ps u)=.ok (.nx (wρ rs f bk (bkF bk a) (ps++[q]) (some (.d (.int a))))):=by
 have h1:=i8 ps q
 have h2:=gJ i7 h
 have k:=kZ i7 h
 have c:(been PyData.int ps).length<=16777216:=by rw[iV];exact i
 have hr:=nC b.1 b.2
 have j:=aND h0 g
 simp[wB,wρ,Tn.d,h1,h2,k,c,hr,a6,e,yE,gU,j]
theorem p4{rs:L9 Rw}{sg:Nat}(M:Mach rs sg){q a:Int}(b:cF rs q)(e:(rowAt rs q).r=.n a):0<=a/\a < (rs.length:Int):=by
 have hr:=AG (cC b.1 b.2)
 have:=(M.row _ hr).1.2.1
 rw[e]at this
 exact this
theorem aQA{rs:L9 Rw}{sg:Nat}{f:Tn}{bk:L9 Tn}(M:Mach rs sg)(hb:bk.length=rs.length)(l:∀ t∈bk,tnV rs.length t){g:Int}:∀ (n:Nat) (ps:L9 Int) (q:Int) (u:O9 A),Und2 (fC rs (bkF bk)) g ps q->(∀ p∈ps,cF rs p)->cF rs q->rs.length+1<=ps.length+n->
  aB (aX wT wB) (aM (vV 2)) (wρ rs f bk (.n q) ps u)=.ok (.rt (.d (.str ((a5 (fC rs (bkF bk)) g).getD dU)))):=by
 intro n
 induction n with
 | zero=>
  intro ps q u U pv a k
  have:=s9 U.nd pv
  ext
 | succ n ih=>
  intro ps q u U pv a k
  rw[aW]
  by_cases b:q∈ps
  .rw[iT aL3 (aT0 b),U.met b];rfl
  .have m:ps.length<=rs.length:=s9 U.nd pv
   have c:ps.length<=16777216:=by have:=M.len2;ext
   cases e:(rowAt rs q).r with
   | w x=>
    have st:fC rs (bkF bk) q=some (.inr x):=by unfold fC;rw[e]
    rw[eS aL3 (aW1 b a c e),cL aL2,U.outs st]
    simp[wρ,Tn.d]
   | n q'=>
    obtain⟨j,i⟩:=p4 M a e
    rw[eS aL3 (aW2 b a c e j (by rw[hb];exact i))]
    have h:=sZ l q'
    cases e2:bkF bk q' with
    | w x=>
     have st:fC rs (bkF bk) q=some (.inr x):=by unfold fC;rw[e];simp only;rw[e2]
     rw[cL aL2,U.outs st]
     simp[wρ,Tn.d]
    | n r=>
     rw[e2]at h
     have st:fC rs (bkF bk) q=some (.inl r):=by unfold fC;rw[e];simp only;rw[e2]
     have:=ih (ps++[q]) r (some (.d (.int q'))) (U.next b st) (λp c=>by
      rcases A7.mp c with z|z
      · simp_all
      · rw [AK.mp z]; exact a) h (by rw [A2, BU]; ext)
     simp_all
theorem aVQ{rs:L9 Rw}{sg:Nat}{f:Tn}{bk:L9 Tn}(M:Mach rs sg)(hb:bk.length=rs.length)(e:∀ t∈bk,tnV rs.length t)(b:tnV rs.length f):dE [.d (aE rs),.d (gU f bk)]=.ok (.d (.str (wbR rs (bkF bk) f))):=by
 have g:dIx (gU f bk) (.int 0)=.ok f.d:=rfl
 have a:aB (aX wT wB) (aM (vV 2)) (wρ rs f bk f [] none)=.ok (.rt (.d (.str (wbR rs (bkF bk) f)))):=by
  cases f with
  | w x=>
   rw[aW,cL aL2]
   simp[wρ,Tn.d,wbR]
  | n q=>exact aQA M hb e (rs.length+1) [] q none Und2.start (λp c=>by simp at c) b (by simp)
 unfold dE
 rw[qB]
 rw[aW]at a
 simp only[wρ,been,BQ]at a
 simp_all
theorem aL4{rs:L9 Rw}{sg:Nat}(M:Mach rs sg){bk a:Int->Tn}(h:∀ q,cF rs q->bk q=a q)(j:∀ q,cF rs q->tnV rs.length (bk q)){t:Tn}(g:tnV rs.length t):wbR rs bk t=wbR rs a t:=by
 cases t with
 | w x=>rfl
 | n q=>
  have st:∀ q,cF rs q->fC rs bk q=fC rs a q:=λq c=>by
   unfold fC
   cases e:(rowAt rs q).r with
   | w x=>rfl
   | n b=>simp only;rw[h b (p4 M c e)]
  have nx:∀ q b,cF rs q->fC rs bk q=some (.inl b)->cF rs b:=λq b c e=>by
   unfold fC at e
   cases e2:(rowAt rs q).r with
   | w x=>rw[e2]at e;cases e
   | n r=>
    rw[e2]at e
    simp only at e
    have f:=j _ (p4 M c e2)
    split at e
    · rename_i l i; cases e; rw [i]at f; exact f
    · cases e
  have d:=aEB (st:=fC rs bk) (st2:=fC rs a) (e:=id) (k:=id) (ev:=dU) (Dom:=cF rs) (λq c=>?_) (s:=q) g
  .show (a5 (fC rs bk) q).getD dU=(a5 (fC rs a) q).getD dU
   exact(d.trans (by rw[Option.map_id];rfl)).symm
  .have e:=(st q c).symm
   cases e2:fC rs bk q with
   | none=>unfold fC at e2;split at e2<;>(try split at e2)<;>cases e2
   | some x=>
    rw[e2]at e
    cases x with
    | inl b=>exact .inl ⟨b,rfl,e,nx q b c e2⟩
    | inr o=>exact .inr ⟨o,rfl,by rw[jY (s:=id q) e];rfl⟩
theorem aT1{rs:L9 Rw}{sg:Nat}{z:L9 Nat}(M:Mach rs sg)(S:aQ sg z):dE [.d (aE rs),.d (aG rs z)]=.ok (.d (.str (bF rs z))):=by
 have e:((range rs.length).map λq:Nat=>fB rs z (q:Int)).length=rs.length:=by simp
 have b:∀ t∈(range rs.length).map λq:Nat=>fB rs z (q:Int),tnV rs.length t:=λt c=>by
  obtain⟨q,f,rfl⟩:=AN.mp c
  exact k8 M S (aAA (BF.mp f))
 unfold aG
 rw[aVQ M e b (k8 M S (rK M z)),aL4 M (λq a=>yG a) (λq a=>sZ b q) (k8 M S (rK M z)),<-aLU M S]
 rfl
theorem aJG{rs:L9 Rw}{sg:Nat}{z:L9 Nat}(M:Mach rs sg)(S:aQ sg z){s:Int×Int}(V:k7 rs z s):(gT rs z s).ok:=by
 have a:(Tn.w dU).ok:=by show PyData.strOk dU=true;decide +kernel
 unfold gT
 cases e:a5 (bM rs z) s with
 | none=>exact a
 | some t=>
  obtain⟨n,h⟩:=eH e
  show t.ok
  clear e
  induction h with
  | @out s o h=>
   unfold bM at h
   rcases beg_cell M S V with ⟨x,e,c⟩|⟨q,e,b,h1,h2⟩
   .rw[e]at h
    cases h
    have hr:=AG (cC V.2.2.1 V.2.2.2)
    have:=((M.row _ hr).1.ok).1
    unfold aR at e
    rw[AJ c]at e
    simp only at e
    rw[e]at this
    exact this
   .rw[e]at h
    simp only at h
    split at h
    · cases h
    · cases h; exact trivial
  | @go s s' o n h t ih=>
   refine ih ?_
   unfold bM at h
   rcases beg_cell M S V with ⟨x,e,c⟩|⟨q,e,b,h1,h2⟩
   .rw[e]at h;cases h
   .rw[e]at h
    simp only at h
    split at h
    · rename_i d; cases h; exact⟨h1, d, b⟩
    · cases h
theorem aQB{rs:L9 Rw}{sg:Nat}{z:L9 Nat}(M:Mach rs sg)(S:aQ sg z):(gT rs z (0,0)).ok/\∀ t∈(range rs.length).map λq:Nat=>fB rs z (q:Int),t.ok:=⟨aJG M S (rK M z),λt b=>by
 obtain⟨q,a,rfl⟩:=AN.mp b
 exact aJG M S (aAA (BF.mp a))⟩
theorem uT:∀ {xs:L9 Dz},(∀ x∈xs,eO x=true)->cE xs=true
 | [],_=>rfl
 | x::t,h=>by
  show(eO x && cE t)=true
  rw[h x (AU ..),uT λy a=>h y (AS _ a)];rfl
theorem aJH{t:Tn}(h:t.ok):eO t.d=true:=by
 cases t with
 | n i=>rfl
 | w x=>exact h
theorem aQC{f:Tn}{bk:L9 Tn}(e:f.ok)(hb:∀ t∈bk,t.ok):eE (gU f bk)=true:=by
 have h1:eO (gU f bk)=true:=by
  show cE [f.d,.tuple (bk.map Tn.d)]=true
  refine uT λx a=>?_
  rcases AW.mp a with z|a
  .rw[z];exact aJH e
  .rw[AK.mp a]
   show cE (bk.map Tn.d)=true
   refine uT λx a=>?_
   obtain⟨c,b,rfl⟩:=AN.mp a
   exact aJH (hb c b)
 have h2:Sh 3 (gU f bk):=by
  refine fE λx a=>?_
  rcases AW.mp a with z|a
  .rw[z];exact aMU _ e
  .rw[AK.mp a]
   refine fE λx a=>?_
   obtain⟨c,b,rfl⟩:=AN.mp a
   exact aMU _ (hb c b)
 show(eO (gU f bk) && decide ((gU f bk).depth<=8))=true
 rw[h1,AY (AV h2.2 (by decide))];rfl
def aCE(rs:L9 Rw)(x:Dz)(k:Nat):Dz:=match gO [.d x,.d (eZ rs k)]with
 | .ok (.d y)=>y
 | _=>.none
theorem yL{rs:L9 Rw}{sg k:Nat}{z:L9 Nat}(M:Mach rs sg)(S:aQ sg z)(a:k < sg):aCE rs (aG rs z) k=aG rs (z++[97+k]):=by
 have:=aCA M S (c:=97+k) (by unfold bA;exact AY (by ext))
 rw[show 97+k - 97=k by ext]at this
 unfold aCE
 rw[this]
theorem p5{sg k:Nat}{z:L9 Nat}(S:aQ sg z)(d:k < sg)(b:z.length < 1000):aQ sg (z++[97+k]):=⟨by simp;ext,λc a=>by
 rcases A7.mp a with h|h
 · exact S.2 c h
 · rw [AK.mp h]; unfold bA; exact AY (by ext)⟩
def aJI(rs:L9 Rw)(x:Dz):Dz:=match dE [.d (aE rs),.d x]with
 | .ok (.d y)=>y
 | _=>.none
theorem wZ{rs:L9 Rw}{sg:Nat}{z:L9 Nat}(M:Mach rs sg)(S:aQ sg z):aJI rs (aG rs z)=.str (bF rs z):=by
 unfold aJI
 rw[aT1 M S]
theorem aL5{P:L9 Nat->Prop}(h0:P [])(a:∀ z c,P z->P (z++[c]))(z:L9 Nat):P z:=by
 rw[<-List.reverse_reverse z]
 induction z.reverse with
 | nil=>exact h0
 | cons c t ih=>rw[D5];exact a _ _ ih
end Mc
namespace Mb
open Classical
section
variable{τ:Type}(g:τ->Nat->τ)(t0:τ)(cs:L9 Nat)
variable{g t0 cs}
end
end Mb
variable{x q y:Nat}{k:Dz}{D:L9 (Dz×Dz)}
namespace Mc
open Fl
variable{L:L9 PZ}{k1 k2:Nat}{G Wn:L9 Dz->R Dz}
def stD(z:L9 Nat):Dz:=.str ⟨z.toArray⟩
def sgT(sg:Nat):Str:=Txt.slice "abc" none (some (sg:Int))
theorem aEJ(s1:1<=sg)(a:sg<=3):(sgT sg).cps.toList=[97,98,99].take sg:=aN7 s1 a
theorem aEK(s1:1<=sg)(a:sg<=3):(sgT sg).cps.toList.length<=3:=by rw[aEJ s1 a,BC];simp;ext
abbrev PZ:=Dz×L9 Nat
def adP(z:L9 Nat)(l:L9 PZ)(y:Dz×Nat):L9 PZ:=if y.1∈l.map (·.1)then l else l++[(y.1,z++[97+y.2])]
def bfP(after:Dz->L9 Dz)(x0:Dz):Nat->L9 PZ
 | 0=>[(x0,[])]
 | n+1=>match (bfP after x0 n)[n]? with
  | some p=>(after p.1).zipIdx.foldl (adP p.2) (bfP after x0 n)
  | none=>bfP after x0 n
theorem aQD(z:L9 Nat)(l:L9 PZ)(y:Dz×Nat):(adP z l y).map (·.1)=adQ (l.map (·.1)) y.1:=by
 unfold adP adQ
 split
 · rfl
 · rw [A8]; rfl
theorem yM(z:L9 Nat)(l:L9 PZ)(y:Dz×Nat):l <+: adP z l y:=by
 unfold adP
 ext
theorem aL6(z:L9 Nat)(ys:L9 (Dz×Nat)):∀ l:L9 PZ,(ys.foldl (adP z) l).map (·.1)=adA (l.map (·.1)) (ys.map (·.1)):=by
 induction ys with
 | nil=>intro l;rfl
 | cons y t ih=>intro l;rw[DN,ih,aQD];rfl
theorem k9(z:L9 Nat)(ys:L9 (Dz×Nat)):∀ l:L9 PZ,l <+: ys.foldl (adP z) l:=by
 induction ys with
 | nil=>exact λl=>DF _
 | cons y t ih=>exact λl=>(yM z l y).trans (ih _)
theorem eW(after:Dz->L9 Dz)(x0:Dz)(n:Nat):(bfP after x0 n).map (·.1)=bfQ after x0 n:=by
 induction n with
 | zero=>rfl
 | succ n ih=>
  have e:(bfQ after x0 n)[n]? = ((bfP after x0 n)[n]?).map (·.1):=by rw[<-ih,AC]
  cases q:(bfP after x0 n)[n]? with
  | none=>rw[q]at e;rw[bfP,bfQ,q,e];exact ih
  | some p=>
   rw[q]at e
   rw[bfP,bfQ,q,e]
   simp only[C8]
   rw[aL6,ih]
   simp_all
theorem aL7(after:Dz->L9 Dz)(x0:Dz)(n:Nat):bfP after x0 n <+: bfP after x0 (n+1):=by
 rw[bfP]
 split
 · exact k9 _ _ _
 · simp_all
theorem o3{after:Dz->L9 Dz}{x0:Dz}(h:m<=n):bfP after x0 m <+: bfP after x0 n:=by
 obtain⟨k,rfl⟩:=FX h
 clear h
 induction k with
 | zero=>exact DF _
 | succ k ih=>exact ih.trans (aL7 after x0 (m+k))
theorem aCF(after:Dz->L9 Dz)(x0:Dz)(n:Nat):(bfP after x0 n)[0]? = some (x0,[]):=by
 obtain⟨t,e⟩:=o3 (after:=after) (x0:=x0) (BP n)
 rw[<-e];rfl
theorem gD(after:Dz->L9 Dz)(x0:Dz)(n:Nat):(bfP after x0 n).length=(bfQ after x0 n).length:=by rw[<-eW,AA]
theorem uU{after:Dz->L9 Dz}{p:PZ}(h:(bfP after x0 n)[n]? = some p):bfP after x0 (n+1)=(after p.1).zipIdx.foldl (adP p.2) (bfP after x0 n):=by rw[bfP,h]
theorem jV{a:Dz}(h:bC ce k=false):b7 (putM ce k v) a=if a=k then some v else b7 ce a:=by
 have h':b7 ce k=none:=by
  unfold bC at h
  cases q:b7 ce k with
  | none=>rfl
  | some x=>rw[q]at h;cases h
 unfold putM
 rw[h,AM (by decide)]
 unfold b7 at h' ⊢
 rw[List.find?_append]
 by_cases e:a=k
 .subst e
  have:ce.find? (λp=>decide (p.1=a))=none:=by
   cases q:ce.find? (λp=>decide (p.1=a))with
   | none=>rfl
   | some x=>rw[q]at h';cases h'
  rw[AJ rfl,this]
  simp
 .rw[AM e]
  cases q:ce.find? (λp=>decide (p.1=a))with
  | none=>simp[BL e]
  | some x=>rfl
theorem aQE(h:bC ce k=false):(putM ce k v).length=ce.length+1:=by
 unfold putM;rw[h,AM (by decide)];simp
theorem aCG(h:bC ce k=false):(putM ce k v).map (·.1)=ce.map (·.1)++[k]:=by
 unfold putM;rw[h,AM (by decide),A8];rfl
structure Came(L:List PZ)(D:List (Dz×Dz))(m:Nat):Prop where
 got:∀ (j:Nat) (x:Dz) (z:List Nat),1<=j->j < m->L[j]? = some (x,z)->∃ (i k:Nat) (x':Dz) (z':List Nat),b7 D (.int (j:Int))=some (.tuple [.int (i:Int),.str ⟨#[97+k]⟩])/\L[i]? = some (x',z')/\i < j/\z=z'++[97+k]
 new:∀ j:Nat,m<=j->bC D (.int (j:Int))=false
 key:∀ p∈D.map (·.1),jQ p=true
theorem Came.same(C:Came L D m)(j:Int):a7 (.int j) (D.map (·.1))=true:=by
 unfold a7
 rw[CL,A1,A1]
 exact .inr ⟨rfl,BI.mpr C.key⟩
theorem xA(h:i≠j):(PyData.int (i:Int))≠.int (j:Int):=by ext
theorem Came.step{i k j:Nat}{x y:Dz}(C:Came L D m)(h1:1<=m)(B:m<=L.length)(hi:L[i]? = some (x,z))(w:i < m)(d:j < m\/(j=m/\L[j]? = some (y,z++[97+k]))) :
  Came L (if bC D (.int (j:Int))=true then D else putM D (.int (j:Int)) (.tuple [.int (i:Int),.str ⟨#[97+k]⟩])) (if j < m then m else m+1)/\(if bC D (.int (j:Int))=true then D else putM D (.int (j:Int)) (.tuple [.int (i:Int),.str ⟨#[97+k]⟩])).length<=D.length+1:=by
 refine⟨?_,?_⟩
 .rcases d with d|⟨rfl,d⟩
  .rw[AJ d]
   cases q:bC D (.int (j:Int))with
   | true=>rw[AJ rfl];exact C
   | false=>
    rw[AM (by decide)]
    have A:j=0:=by
     rcases Nat.eq_zero_or_pos j with z|z
     .exact z
     .obtain ⟨o,u,s,t,g,_⟩:=C.got j _ _ z d (AI (show j < L.length by ext))
      unfold bC at q
      rw[g]at q;cases q
    subst A
    refine⟨λc s t a b e=>?_,λc n=>?_,λp f=>?_⟩
    .obtain ⟨o,u,x2,v,g,r⟩:=C.got c s t a b e
     exact⟨o,u,x2,v,by rw[jV q,AM (xA (by ext))];exact g,r⟩
    .have:=C.new c n
     unfold bC at this ⊢
     rw[jV q,AM (xA (by ext))];exact this
    .rw[aCG q]at f
     rcases A7.mp f with h|h
     .exact C.key p h
     .rw[AK.mp h];rfl
  .have q:=C.new j (AQ _)
   rw[q,AM (by decide),AM (show ¬ j < j by ext)]
   refine⟨λc s t a b e=>?_,λc n=>?_,λp f=>?_⟩
   .by_cases l:c=j
    .subst l
     rw[d]at e
     cases e
     exact⟨i,k,x,z,by rw[jV q,AJ rfl],hi,w,rfl⟩
    .obtain ⟨o,u,x2,v,g,r⟩:=C.got c s t a (by ext) e
     exact⟨o,u,x2,v,by rw[jV q,AM (xA l)];exact g,r⟩
   .have:=C.new c (by ext)
    unfold bC at this ⊢
    rw[jV q,AM (xA (by ext))];exact this
   .rw[aCG q]at f
    rcases A7.mp f with h|h
    .exact C.key p h
    .rw[AK.mp h];rfl
 .cases q:bC D (.int (j:Int))with
  | true=>rw[AJ rfl];ext
  | false=>rw[AM (by decide),aQE q];ext
theorem aQF:∀ {js:L9 Nat},js.length<=3->f9 (.str "abc") (bL js)=.ok (js.zipIdx.map λp=>.tuple [.str ⟨#[97+p.2]⟩,.int (p.1:Int)])
 | [],_=>rfl
 | [_],_=>rfl
 | [_,_],_=>rfl
 | [_,_,_],_=>rfl
 | _::_::_::_::_,h=>by simp at h
section
variable{after:Dz->L9 Dz}{x0:Dz}{N:Nat}
theorem aT2{x:Dz}{a b u v w:O9 A}(hi:(bfP after x0 i)[i]? = some (x,z))(ac:i < N)(h3:(after x).length<=3)(C:Came (bfP after x0 N) D (bfP after x0 i).length)(hD:D.length<=1000000) :
  ∃ D' u' v',gL (stT [(stN 5),(stN 6)]) stF (((after x).map (nrQ (bfQ after x0 N))).zipIdx.map λp=>.tuple [.str ⟨#[97+p.2]⟩,.int (p.1:Int)]) [a,b,some (.m D),some (.d (.int (i:Int))),w,u,v,none]=.ok (.nx [a,b,some (.m D'),some (.d (.int (i:Int))),w,u',v',none])/\Came (bfP after x0 N) D' (bfP after x0 (i+1)).length/\D'.length<=D.length+3:=by
 have Q:=uU hi
 have T:=(AD.mp hi).1
 have l:(bfP after x0 N)[i]? = some (x,z):=gV (o3 (by ext)) hi
 obtain⟨Y',q1,D',u',v',q2,r,n⟩:=dP (fs:=stT [(stN 5),(stN 6)]) (fb:=stF) (d:=λp:Nat×Nat=>PyData.tuple [.str ⟨#[97+p.2]⟩,.int (p.1:Int)]) (xs:=((after x).map (nrQ (bfQ after x0 N))).zipIdx) (Y:=[a,b,some (.m D),some (.d (.int (i:Int))),w,u,v,none])
  (λk Y=>∃ D' u' v',Y=[a,b,some (.m D'),some (.d (.int (i:Int))),w,u',v',none]/\Came (bfP after x0 N) D' (((after x).zipIdx.take k).foldl (adP z) (bfP after x0 i)).length/\D'.length<=D.length+k) ⟨D,u,v,rfl,C,by ext⟩ λk p Y g J=>by
  obtain⟨D',u',v',e,r,n⟩:=J
  obtain⟨W,X⟩:=p
  rw[DS]at g
  obtain⟨V,y,hy,G,E⟩:k < (after x).length/\∃ y,(after x)[k]? = some y/\nrQ (bfQ after x0 N) y=W/\k=X:=by
   cases q:(after x)[k]? with
   | none=>rw[AC,q]at g;cases g
   | some y=>
    rw[AC,q]at g
    simp only[C8,HS,EX,Prod.mk.injEq]at g
    exact⟨(AD.mp q).1,y,rfl,g.1,g.2⟩
  subst G E
  have U:(after x).zipIdx[k]? = some (y,k):=by rw[DS,hy];simp
  have S:(after x).zipIdx.take (k+1)=(after x).zipIdx.take k++[(y,k)]:=by rw[B9,U];rfl
  have c:((after x).zipIdx.take (k+1)).foldl (adP z) (bfP after x0 i) <+: bfP after x0 N:=by
   refine List.IsPrefix.trans ?_ (o3 (show i+1<=N by ext))
   rw[Q]
   have:(after x).zipIdx.foldl (adP z) (bfP after x0 i)=((after x).zipIdx.drop (k+1)).foldl (adP z) (((after x).zipIdx.take (k+1)).foldl (adP z) (bfP after x0 i)):=by
    rw[<-List.foldl_append,HI]
   rw[this];exact k9 _ _ _
  rw[S,EY,DN,HJ]at c ⊢
  have f:=k9 z ((after x).zipIdx.take k) (bfP after x0 i)
  generalize ((after x).zipIdx.take k).foldl (adP z) (bfP after x0 i)=F at *
  have Z:(bfP after x0 i).length<=F.length:=f.length_le
  have t:F.length<=(bfP after x0 N).length:=((yM z F (y,k)).trans c).length_le
  have s:(adP z F (y,k)).map (·.1) <+: bfQ after x0 N:=by rw[<-eW];exact c.map _
  have H:F.map (·.1) <+: bfQ after x0 N:=by rw[<-eW];exact((yM z F (y,k)).trans c).map _
  have O:(nrQ (bfQ after x0 N) y < F.length/\(adP z F (y,k)).length=F.length)\/((nrQ (bfQ after x0 N) y=F.length/\(bfP after x0 N)[nrQ (bfQ after x0 N) y]? = some (y,z++[97+k]))/\(adP z F (y,k)).length=F.length+1):=by
   by_cases o:y∈F.map (·.1)
   .refine .inl ⟨?_,by unfold adP;rw[AJ o]⟩
    rw[oY H o]
    have:=F6 o
    rw[AA]at this
    exact this
   .have K:adP z F (y,k)=F++[(y,z++[97+k])]:=AM o
    rw[K]at c s
    have M:(bfP after x0 N)[F.length]? = some (y,z++[97+k]):=gV c (by simp)
    have L:nrQ (bfQ after x0 N) y=F.length:=by
     have h1:(bfQ after x0 N)[F.length]? = some y:=by rw[<-eW,AC,M];rfl
     exact aNF (rL after x0 N) (oZ (AG h1)) h1
    exact .inr ⟨⟨L,by rw[L];exact M⟩,by rw[K];simp⟩
  obtain⟨P,l2⟩:=r.step (i:=i) (k:=k) (j:=nrQ (bfQ after x0 N) y) (y:=y) (by ext) t l (by ext) (O.imp (·.1) (·.1))
  have B:(if nrQ (bfQ after x0 N) y < F.length then F.length else F.length+1)=(adP z F (y,k)).length:=by
   rcases O with h|h
   .rw[AJ h.1,h.2]
   .rw[AM (by ext),h.2]
  rw[B]at P
  have hs:=r.same (nrQ (bfQ after x0 N) y:Int)
  have I:D'.length<=16777216:=by ext
  refine⟨[a,b,some (.m D'),some (.d (.int (i:Int))),w,some (.d (.str ⟨#[97+k]⟩)),some (.d (.int (nrQ (bfQ after x0 N) y:Int))),none],_,by rw[e];rfl,.inl ?_,_,some (.d (.str ⟨#[97+k]⟩)),some (.d (.int (nrQ (bfQ after x0 N) y:Int))),rfl,P,by ext⟩
  simp only[stF,aL1,A9,BE,wK,R.bind_ok,aD6,jS,i5,BG,BR,Nat.reduceAdd,Nat.reduceLeDiff,CU,hs,I,and_self,BJ,BS]
  cases q:bC D' (.int (nrQ (bfQ after x0 N) y:Int))with
  | true=>simp
  | false=>simp
 subst q2
 refine⟨D',u',v',q1,?_,?_⟩
 .rw[Q]
  rwa [CF (by simp)]at r
 .rw[CO,AA]at n
  ext
theorem aQG{a:Dz}{b:O9 A}(o:∀ m,m < N->m < (bfQ after x0 m).length)(H:∀ i x,i < N->(bfQ after x0 N)[i]? = some x->(after x).length<=3)(hN:N<=100000) :
  ∃ D r s u v,gL (stT [(stN 3),(stN 4)]) stO ((a8 after (bfQ after x0 N) N).zipIdx.map pR) [some (.d a),b,some (.m []),none,none,none,none,none]=.ok (.nx [some (.d a),b,some (.m D),r,s,u,v,none])/\Came (bfP after x0 N) D (bfP after x0 N).length:=by
 have G:N<=(bfQ after x0 N).length:=by
  cases N with
  | zero=>ext
  | succ n=>have a:=o n (by ext);have b:=(dQ after x0 n).length_le;ext
 have t:(a8 after (bfQ after x0 N) N).length=N:=by unfold a8;rw[AA,BC];ext
 obtain⟨U,O,D,r,s,u,v,M,C,_⟩:=dP (fs:=stT [(stN 3),(stN 4)]) (fb:=stO) (d:=pR) (xs:=(a8 after (bfQ after x0 N) N).zipIdx) (Y:=[some (.d a),b,some (.m []),none,none,none,none,none])
  (λi Y=>∃ D r s u v,Y=[some (.d a),b,some (.m D),r,s,u,v,none]/\Came (bfP after x0 N) D (bfP after x0 i).length/\D.length<=3 * i) ⟨[],none,none,none,none,rfl,⟨λj x z h1 h2 _=>by simp[bfP]at h2;ext,λj _=>rfl,λp f=>by simp at f⟩,by simp⟩ λi p Y f B=>by
  obtain⟨D,r,s,u,v,e,C,S⟩:=B
  obtain⟨Q,T⟩:=p
  rw[DS]at f
  have c:i < N:=by
   rcases EQ i N with h|h
   · exact h
   · rw [C7 (by ext)]at f; cases f
  have y:=o i c
  obtain⟨⟨x,z⟩,l⟩:∃ p,(bfP after x0 i)[i]? = some p:=⟨_,AI (show i < (bfP after x0 i).length by rw[gD];exact y)⟩
  have E:(bfQ after x0 N)[i]? = some x:=by
   have:=gV (o3 (show i<=N by ext)) l
   rw[<-eW,AC,this];rfl
  have g:(a8 after (bfQ after x0 N) N)[i]? = some (jU after (bfQ after x0 N) x):=by
   unfold a8
   rw[AC,F7,AJ c,E];rfl
  rw[g]at f
  simp only[C8,HS,EX,Prod.mk.injEq]at f
  obtain⟨rfl,rfl⟩:=f
  have k:=H i x c E
  obtain⟨K,L,I,q,P,J⟩:=aT2 (N:=N) (a:=some (.d a)) (b:=b) (u:=u) (v:=v) (w:=some (.d (jU after (bfQ after x0 N) x))) l c k C (by ext)
  refine⟨[some (.d a),b,some (.m D),some (.d (.int (i:Int))),some (.d (jU after (bfQ after x0 N) x)),u,v,none],_,by rw[e];rfl,.inl ?_,K,some (.d (.int (i:Int))),some (.d (jU after (bfQ after x0 N) x)),L,I,rfl,P,by ext⟩
  have F:f9 (.str "abc") (jU after (bfQ after x0 N) x)=_:=aQF (js:=(after x).map (nrQ (bfQ after x0 N))) (by rw[AA];exact k)
  simp only[stO,oS,kJ,lG,wK,A9,BE,R.bind_ok,F,q]
 subst M
 rw[CO,t]at C
 exact⟨D,r,s,u,v,O,C⟩
theorem aQH(C:Came L D L.length)(h0:L[0]? = some (x0,[])):∀ (n j:Nat) (x:Dz) (z:L9 Nat) (cf:L9 Dz) (a r s u v:O9 A),j<=n->L[j]? = some (x,z)->cf.length+j<=1000000->
  z.length<=j/\aX stQ stW [a,some (.d (.int (j:Int))),some (.m D),r,s,u,v,some (.l cf)]=.ok (.nx [a,some (.d (.int 0)),some (.m D),r,s,u,v,some (.l (cf++z.reverse.map λc=>.str ⟨#[c]⟩))]):=by
 intro n
 induction n with
 | zero=>
  intro j x z cf a r s u v t e o
  have:j=0:=Nat.le_zero.mp t
  subst this
  rw[h0]at e
  cases e
  refine⟨by simp,?_⟩
  rw[cL (by simp[stQ,aCB])]
  simp
 | succ n ih=>
  intro j x z cf a r s u v t e o
  rcases Nat.eq_zero_or_pos j with f|f
  .subst f
   rw[h0]at e
   cases e
   refine⟨by simp,?_⟩
   rw[cL (by simp[stQ,aCB])]
   simp
  .obtain ⟨i,k,y,G,g,hi,b,rfl⟩:=C.got j x z f (AD.mp e).1 e
   obtain⟨F,w1⟩:=ih i y G (cf++[.str ⟨#[97+k]⟩]) a r s u v (Nat.le_of_lt_succ (A3 b t)) hi (by rw[A2,BU,Nat.add_assoc,EA 1];exact AV (Nat.add_le_add_left b _) o)
   refine⟨by rw[A2];exact AV (Nat.succ_le_succ F) b,?_⟩
   have H:=C.same (j:Int)
   have p:¬ (j:Int)=0:=λh=>absurd (HQ h) (CJ f)
   have w:stQ [a,some (.d (.int (j:Int))),some (.m D),r,s,u,v,some (.l cf)]=.ok true:=by simp[stQ,aCB,p];exact CJ f
   have E:dIx (.tuple [.int (i:Int),.str ⟨#[97+k]⟩]) (.int 0)=.ok (.int (i:Int)):=rfl
   have i1:dIx (.tuple [.int (i:Int),.str ⟨#[97+k]⟩]) (.int 1)=.ok (.str ⟨#[97+k]⟩):=rfl
   have q:cf.length < 16777216:=CW (AV (B8 _ _) o) (by decide)
   have B:stW [a,some (.d (.int (j:Int))),some (.m D),r,s,u,v,some (.l cf)]=.ok (.nx [a,some (.d (.int (i:Int))),some (.m D),r,s,u,v,some (.l (cf++[.str ⟨#[97+k]⟩]))]):=by
    simp[stW,H,g,E,i1,q]
   rw[eS w B,w1]
   simp
theorem aL8(z:L9 Nat)(h:z.length<=1000000):sL (.str "") (.list (z.map λc=>.str ⟨#[c]⟩))=.ok (stD z):=by
 have b:lQ (z.map λc=>PyData.str ⟨#[c]⟩)=some (z.map one):=by
  clear h
  induction z with
  | nil=>rfl
  | cons a t ih=>simp only[AZ,lQ,ih];rfl
 show(match lQ (z.map λc=>PyData.str ⟨#[c]⟩)with|some ys=>if _ then R.ok _ else .bad|none=>.bad)=_
 rw[b]
 simp only
 rw[AJ (by rw[aDD,AA];show z.length+z.length * 0<=_;ext),aDE];rfl
theorem aVR(e:∀ m,m < N->m < (bfQ after x0 m).length)(h:∀ i x,i < N->(bfQ after x0 N)[i]? = some x->(after x).length<=3)(hN:N<=100000)(n:(bfQ after x0 N).length<=400000){x:Dz}(f:(bfP after x0 N)[j]? = some (x,z)) :
  kI [.d (.list (a8 after (bfQ after x0 N) N)),.d (.int (j:Int))]=.ok (.d (stD z)):=by
 obtain⟨D,r,s,u,v,q,C⟩:=aQG (a:=.list (a8 after (bfQ after x0 N) N)) (b:=some (.d (.int (j:Int)))) e h hN
 have c:=(AD.mp f).1
 rw[gD]at c
 obtain⟨k,w⟩:=aQH C (aCF after x0 N) j j x z [] (some (.d (.list (a8 after (bfQ after x0 N) N)))) r s u v (AQ _) f (by simp;ext)
 have l:=pZ (bY (xs:=a8 after (bfQ after x0 N) N) (by unfold a8;rw[AA,BC];ext))
 have g:=aL8 z (by ext)
 unfold kI
 rw[wI]
 simp_all
end
section
variable{after:Dz->L9 Dz}{x0:Dz}
theorem aL9(h:(bfQ after x0 n).length<=n):bfP after x0 (n+1)=bfP after x0 n:=by
 have:(bfP after x0 n)[n]? = none:=C7 (by rw[gD];exact h)
 rw[bfP,this]
theorem uV(h:(bfQ after x0 m).length<=m):∀ k,bfP after x0 (m+k)=bfP after x0 m
 | 0=>rfl
 | k+1=>by
  have ih:=uV h k
  have:(bfQ after x0 (m+k)).length<=m+k:=by rw[<-gD,ih,gD];ext
  rw[<-Nat.add_assoc,aL9 this,ih]
theorem gW{n:Nat}(h:(bfQ after x0 m).length<=m):bfP after x0 n <+: bfP after x0 m:=by
 rcases Nat.le_total n m with q|q
 .exact o3 q
 .obtain ⟨k,rfl⟩:=FX q
  rw[uV h k];exact DF _
structure Fto(after:Dz->List Dz)(x0:Dz)(wn:Dz->Bool)(k1 k2:Nat)(G Wn:List Dz->R Dz)(N:Nat):Prop where
 on:∀ m,m < N->m < (bfQ after x0 m).length/\∀ x,(bfQ after x0 m)[m]? = some x->wn x=false
 off:(bfQ after x0 N).length<=N\/∃ x,(bfQ after x0 N)[N]? = some x/\wn x=true
 key:(∀ x∈bfQ after x0 N,eE x=true)\/(∀ x∈bfQ after x0 N,jQ x=true)
 len:(bfQ after x0 N).length<=100000
 hN:N<=100000
 hk1:k1<=12
 hk2:k2<=11
 hG:∀ m x,m < N->(bfQ after x0 N)[m]? = some x->(∃ d,G [x]=.ok d/\aH d=.ok (after x))/\(after x).length<=3
 hW:∀ m x,m<=N->(bfQ after x0 N)[m]? = some x->Wn [x]=.ok (.bool (wn x))
def aW3(after:Dz->L9 Dz)(x0:Dz)(wn:Dz->Bool)(k1 k2:Nat)(G Wn:L9 Dz->R Dz):Sq where
 after:=after
 x0:=x0
 stop fs m:=match fs[m]? with
  | some x=>wn x
  | none=>false
 k1:=k1
 k2:=12
 G:=G
 D:=cI 3 dL [.g k2 1 Wn]
theorem Fto.sq{b:Dz->Bool}(O:Fto after x0 b k1 k2 G Wn N):(aW3 after x0 b k1 k2 G Wn).ok N where
 on m h:=by
  obtain⟨h1,h2⟩:=O.on m h
  refine⟨h1,?_⟩
  show(match (bfQ after x0 m)[m]? with|some x=>b x|none=>false)=false
  cases q:(bfQ after x0 m)[m]? with
  | none=>rfl
  | some x=>exact h2 x q
 off:=O.off.imp id λc=>by
  obtain⟨x,h1,h2⟩:=c
  show(match (bfQ after x0 N)[N]? with|some x=>b x|none=>false)=true
  rw[h1];exact h2
 key:=O.key
 len:=by have:=O.len;show(bfQ after x0 N).length<=_;ext
 hk1:=O.hk1
 hk2:=by show 12<=12;ext
 hG m x hm a:=by
  obtain⟨h1,h2⟩:=O.hG m x hm a
  exact⟨h1,by show(after x).length<=1000;ext⟩
 hD m hm hl:=by
  show cI 3 dL [.g k2 1 Wn] [.list (bfQ after x0 m),.int (m:Int)]=.ok (.bool (match (bfQ after x0 m)[m]? with|some x=>b x|none=>false))
  have d:m < (bfQ after x0 m).length:=hl
  have a:(bfQ after x0 m)[m]? = some (bfQ after x0 m)[m]:=AI d
  generalize (bfQ after x0 m)[m]=x at a
  have e:=O.hW m x hm (gV (j8 hm) a)
  have k2:=O.hk2
  have f:dIx (.list (bfQ after x0 m)) (.int (m:Int))=.ok x:=iL (cY a)
  rw[a]
  unfold cI dL
  simp[f,k2,e,dOf]
theorem F_fto{s:Dz->Bool}(O:Fto after x0 s k1 k2 G Wn N) :
  ((bfQ after x0 N).length<=N/\dS [.d x0,.g k1 1 G,.g k2 1 Wn]=.ok (.d (.tuple [.list (bfQ after x0 N),.none]))) \/
  ∃ x z,(bfP after x0 N)[N]? = some (x,z)/\s x=true/\dS [.d x0,.g k1 1 G,.g k2 1 Wn]=.ok (.d (.tuple [.list (bfQ after x0 N),stD z])):=by
 have e:=aL0 O.sq
 have e:dD [.d x0,.g k1 1 G,.g 12 2 (cI 3 dL [.g k2 1 Wn])]=.ok (.d (.tuple [.list (bfQ after x0 N),.list (a8 after (bfQ after x0 N) N)])):=e
 have t:N<=(bfQ after x0 N).length:=by
  cases N with
  | zero=>ext
  | succ n=>have a:=(O.on n (by ext)).1;have b:=(dQ after x0 n).length_le;ext
 have c:(a8 after (bfQ after x0 N) N).length=N:=by unfold a8;rw[AA,BC];ext
 have r:dIx (.tuple [.list (bfQ after x0 N),.list (a8 after (bfQ after x0 N) N)]) (.int 0)=.ok (.list (bfQ after x0 N)):=rfl
 have i1:dIx (.tuple [.list (bfQ after x0 N),.list (a8 after (bfQ after x0 N) N)]) (.int 1)=.ok (.list (a8 after (bfQ after x0 N) N)):=rfl
 by_cases q:(bfQ after x0 N).length<=N
 .refine .inl ⟨q,?_⟩
  have l:(N:Int)=((bfQ after x0 N).length:Int):=by ext
  unfold dS l7
  simp[hU,n6,eJ,l6,e,r,i1,c7,c,dF,<-l,dOf]
 .obtain ⟨x,o,u⟩:=O.off.resolve_left q
  obtain⟨⟨k,z⟩,j⟩:∃ p,(bfP after x0 N)[N]? = some p:=⟨_,AI (show N < (bfP after x0 N).length by rw[gD];ext)⟩
  have f:k=x:=by
   have:(bfQ after x0 N)[N]? = some k:=by rw[<-eW,AC,j];rfl
   simp_all
  subst f
  have v:=aVR (after:=after) (x0:=x0) (N:=N) (λm h=>(O.on m h).1) (λi x hi o=>(O.hG i x hi o).2) O.hN (by have:=O.len;ext) j
  have l:¬ (N:Int)=((bfQ after x0 N).length:Int):=by ext
  refine .inr ⟨k,z,j,u,?_⟩
  unfold dS l7
  simp[hU,n6,eJ,l6,e,r,i1,c7,c,dF,l,v,dOf]
end
theorem nS{P:Nat->Prop}:∀ K:Nat,P K->∃ n,n<=K/\P n/\∀ m,m < n->¬ P m:=by
 intro K
 induction K using Nat.strongRecOn with
 | _ K ih=>
  ext
def rdD(ap:L9 (L9 Nat))(ws:L9 Dz):Dz:=.tuple [.tuple (ap.map bL),.tuple ws]
structure Rdr(ap:List (List Nat))(sg:Nat):Prop where
 n1:1<=ap.length
 n2:ap.length<=1000
 s1:1<=sg
 s3:sg<=3
 row:∀ r∈ap,r.length=sg/\∀ j∈r,j < ap.length
section
variable{ap:L9 (L9 Nat)}{sg:Nat}
theorem Rdr.at(M:Rdr ap sg)(a:q < ap.length):ap[q]? = some (ap.getD q [])/\(ap.getD q []).length=sg/\∀ j∈ap.getD q [],j < ap.length:=by
 have e:ap[q]? = some (ap.getD q []):=by rw[AL,AI a];rfl
 exact⟨e,M.row _ (AG e)⟩
theorem aQI:∀ {n:Nat} {xs:L9 Dz},xs.Nodup->(∀ x∈xs,∃ q:Nat,q < n/\x=.int (q:Int))->xs.length<=n:=by
 intro n xs nd h
 refine qR (λx=>match x with | .int q=>q.toNat|_=>0) n xs nd (λx d=>?_) (λa c b f e=>?_)
 · ext
 · ext
theorem mH{ws:L9 Dz}(M:Rdr ap sg)(a:q < ap.length):dIx (.tuple (ap.map bL)) (.int (q:Int))=.ok (bL (ap.getD q [])):=l9 (cY (by rw[AC,(M.at a).1];rfl))
end
def sl(y z:L9 Nat):Prop:=y.length < z.length\/(y.length=z.length/\Lex (· < ·) y z)
theorem aJJ:∀ {x y z:L9 Nat},Lex (· < ·) x y->Lex (· < ·) y z->Lex (· < ·) x z
 | _,_,_,.nil,.cons _=>.nil
 | _,_,_,.nil,.rel _=>.nil
 | _,_,_,.rel h,.rel k=>.rel (DI h k)
 | _,_,_,.rel h,.cons _=>.rel h
 | _,_,_,.cons _,.rel k=>.rel k
 | _,_,_,.cons h,.cons k=>.cons (aJJ h k)
theorem aT3(z:L9 Nat){d:Nat}(h:c < d):Lex (· < ·) (z++[c]) (z++[d]):=by
 induction z with
 | nil=>exact .rel h
 | cons a z ih=>exact .cons ih
theorem aT4{y:L9 Nat}(h:Lex (· < ·) y z):y.length=z.length->∀ c d:Nat,Lex (· < ·) (y++[c]) (z++[d]):=by
 induction h with
 | nil=>intro e;simp at e
 | rel h=>intro _ c d;exact .rel h
 | cons h ih=>intro e c d;exact .cons (ih (by simpa using e) c d)
theorem aGD{x y:L9 Nat}(h:sl x y)(k:sl y z):sl x z:=by
 rcases h with h|⟨h1,h2⟩<;>rcases k with k|⟨k1,k2⟩
 · exact .inl (by ext)
 · exact .inl (by ext)
 · exact .inl (by ext)
 · exact .inr ⟨by ext, aJJ h2 k2⟩
theorem aAB{y:L9 Nat}(h:sl y z)(c d:Nat):sl (y++[c]) (z++[d]):=by
 rcases h with h|⟨h1,h2⟩
 · exact .inl (by simp; ext)
 · exact .inr ⟨by simp; ext, aT4 h2 h1 c d⟩
theorem aVS(z:L9 Nat){d:Nat}(h:c < d):sl (z++[c]) (z++[d]):=.inr ⟨by simp,aT3 z h⟩
theorem aVT(z:L9 Nat)(c:Nat):sl z (z++[c]):=.inl (by simp)
section
variable{after:Dz->L9 Dz}{x0:Dz}
theorem aEL(ys:L9 Dz):∀ (k:Nat) (F:L9 PZ),(F.map (·.2)).Pairwise sl->(∀ p∈F,∀ j,k<=j->sl p.2 (z++[97+j]))->
  (((ys.zipIdx k).foldl (adP z) F).map (·.2)).Pairwise sl/\(∀ p∈(ys.zipIdx k).foldl (adP z) F,p∈F\/∃ j,p.2=z++[97+j])/\∀ (j:Nat) y,ys[j]? = some y->∃ zy,(y,zy)∈(ys.zipIdx k).foldl (adP z) F/\(zy=z++[97+(k+j)]\/sl zy (z++[97+(k+j)])):=by
 induction ys with
 | nil=>intro k F h1 h2;exact⟨h1,λp d=>.inl d,λj y e=>by simp at e⟩
 | cons y t ih=>
  intro k F h1 h2
  rw[List.zipIdx_cons,DN]
  by_cases g:y∈F.map (·.1)
  .have l:adP z F (y,k)=F:=AJ g
   rw[l]
   obtain⟨a,b,c⟩:=ih (k+1) F h1 λp d j n=>h2 p d j (by ext)
   refine⟨a,b,λj w e=>?_⟩
   cases j with
   | zero=>
    simp at e
    subst e
    obtain⟨p,d,rfl⟩:=AN.mp g
    exact⟨p.2,(k9 z _ F).subset d,.inr (h2 p d _ (by ext))⟩
   | succ j=>
    obtain⟨zy,i,f⟩:=c j w (by simpa using e)
    exact⟨zy,i,by rw[show k+(j+1)=k+1+j by ext];exact f⟩
  .have l:adP z F (y,k)=F++[(y,z++[97+k])]:=AM g
   rw[l]
   have o:((F++[(y,z++[97+k])]).map (·.2)).Pairwise sl:=by
    rw[A8,List.pairwise_append]
    refine⟨h1,by simp,λu q v m=>?_⟩
    obtain⟨p,d,rfl⟩:=AN.mp q
    rw[DJ,AK]at m
    rw[m];exact h2 p d k (AQ _)
   obtain⟨a,b,c⟩:=ih (k+1) (F++[(y,z++[97+k])]) o λp d j n=>by
    rcases A7.mp d with h|h
    .exact h2 p h j (by ext)
    .rw[AK.mp h];exact aVS z (by ext)
   refine⟨a,λp d=>?_,λj w e=>?_⟩
   .rcases b p d with h|h
    .rcases A7.mp h with h|h
     · exact .inl h
     · exact .inr ⟨k, by rw [AK.mp h]⟩
    .exact .inr h
   .cases j with
    | zero=>
     simp at e
     subst e
     exact⟨z++[97+k],(k9 z _ _).subset (by simp),.inl rfl⟩
    | succ j=>
     obtain⟨zy,i,f⟩:=c j w (by simpa using e)
     exact⟨zy,i,by rw[show k+(j+1)=k+1+j by ext];exact f⟩
theorem aJK(n:Nat):((bfP after x0 n).map (·.2)).Pairwise sl/\∀ x z,(bfP after x0 n)[n]? = some (x,z)->∀ p∈bfP after x0 n,∀ j,sl p.2 (z++[97+j]):=by
 induction n with
 | zero=>
  refine⟨by simp[bfP],λx z e p c j=>?_⟩
  have e:some (x0,([]:L9 Nat))=some (x,z):=e
  cases e
  rw[AK.mp c]
  exact aVT [] _
 | succ n ih=>
  obtain⟨h1,h2⟩:=ih
  cases q:(bfP after x0 n)[n]? with
  | none=>
   have e:bfP after x0 (n+1)=bfP after x0 n:=by rw[bfP,q]
   rw[e]
   refine⟨h1,λx z f=>?_⟩
   have:=GN.mp q
   rw[C7 (by ext)]at f
   cases f
  | some p=>
   obtain⟨x,z⟩:=p
   have e:=uU q
   obtain⟨a,b,_⟩:=aEL (after x) 0 (bfP after x0 n) h1 λp c j _=>h2 x z q p c j
   rw[e]
   refine⟨a,λx1 k e1 p c j=>?_⟩
   have d:sl z k:=by
    have o:((after x).zipIdx.foldl (adP z) (bfP after x0 n))[n]? = some (x,z):=gV (k9 z _ _) q
    have r:=(AD.mp o)
    have s:=(AD.mp e1)
    obtain⟨i,g⟩:=r
    obtain⟨m,l⟩:=s
    have:=CV.mp a n (n+1) (by rw[AA];exact i) (by rw[AA];exact m) (by ext)
    rw[GX,GX,g,l]at this
    exact this
   rcases b p c with h|⟨t,h⟩
   .exact aGD (h2 x z q p h 0) (aAB d _ _)
   .rw[h];exact aAB d _ _
def gE(after:Dz->L9 Dz)(x0:Dz)(w:L9 Nat):Dz:=w.foldl (λx c=>((after x)[c - 97]?).getD .none) x0
theorem aQJ{x:Dz}(a:(bfQ after x0 N).length<=N)(h:(bfP after x0 N)[i]? = some (x,z)):(bfP after x0 i)[i]? = some (x,z)/\bfP after x0 (i+1) <+: bfP after x0 N:=by
 have hi:i < (bfP after x0 i).length:=by
  rcases EQ i (bfP after x0 i).length with q|q
  .exact q
  .have h1:=(gW (n:=N) (show(bfQ after x0 i).length<=i by rw[<-gD];exact q)).length_le
   ext
 exact⟨lP (gW a) hi h,gW a⟩
theorem aQK(l:(bfQ after x0 N).length<=N)(s:∀ x∈bfQ after x0 N,(after x).length=sg)(w:L9 Nat):(∀ c∈w,bA sg c=true)->∃ z,(gE after x0 w,z)∈bfP after x0 N/\(z=w\/sl z w):=by
 refine aL5 (P:=λw=>(∀ c∈w,bA sg c=true)->∃ z,(gE after x0 w,z)∈bfP after x0 N/\(z=w\/sl z w)) (λ_=>⟨[],AG (aCF after x0 N),.inl rfl⟩) (λw c v r=>?_) w
 obtain⟨z,m,d⟩:=v λc l=>r c (CP _ l)
 have A:=BH (r c (by simp))
 obtain⟨i,hi⟩:=BX m
 obtain⟨b,k⟩:=aQJ l hi
 obtain⟨s1,y⟩:=aJK (after:=after) (x0:=x0) i
 obtain⟨_,_,g⟩:=aEL (after (gE after x0 w)) 0 (bfP after x0 i) s1 λp k j _=>y _ z b p k j
 have a:gE after x0 w∈bfQ after x0 N:=by rw[<-eW];exact AN.mpr ⟨_,m,rfl⟩
 have q:=s _ a
 have o:(after (gE after x0 w))[c - 97]? = some (after (gE after x0 w))[c - 97]:=AI (by ext)
 obtain⟨t,n,f⟩:=g (c - 97) _ o
 rw[<-uU b]at n
 have u:gE after x0 (w++[c])=(after (gE after x0 w))[c - 97]:=by
  unfold gE
  rw[EY,DN,HJ]
  show((after (gE after x0 w))[c - 97]?).getD .none=_
  rw[o];rfl
 rw[u]
 refine⟨t,k.subset n,?_⟩
 rw[show 97+(0+(c - 97))=c by ext]at f
 rcases d with rfl|d
 .exact f
 .exact .inr (f.elim (λe=>by rw[e];exact aAB d _ _) λh=>aGD h (aAB d _ _))
theorem aQL(n:Nat):∀ p∈bfP after x0 n,gE after x0 p.2=p.1:=by
 induction n with
 | zero=>intro p a;rw[AK.mp a];rfl
 | succ n ih=>
  rw[bfP]
  split
  .rename_i q d
   have b:=ih q (AG d)
   have e:∀ (ys:L9 (Dz×Nat)) (F:L9 PZ),(∀ y∈ys,(after q.1)[y.2]? = some y.1)->(∀ p∈F,gE after x0 p.2=p.1)->∀ p∈ys.foldl (adP q.2) F,gE after x0 p.2=p.1:=by
    intro ys
    induction ys with
    | nil=>exact λF _ h=>h
    | cons y t iht=>
     intro F c h
     refine iht _ (λf h'=>c f (AS _ h')) λp a=>?_
     unfold adP at a
     split at a
     .grind
     .rcases A7.mp a with z|z
      .grind
      .rw[AK.mp z]
       show gE after x0 (q.2++[97+y.2])=y.1
       unfold gE at b ⊢
       ext
   ext
  .exact ih
structure FtoC(after:Dz->List Dz)(x0:Dz)(wn:Dz->Bool)(k1 k2:Nat)(G Wn:List Dz->R Dz)(M:Nat):Prop where
 cl:(bfQ after x0 M).length<=M
 hM:M<=100000
 key:(∀ x∈bfQ after x0 M,eE x=true)\/(∀ x∈bfQ after x0 M,jQ x=true)
 hk1:k1<=12
 hk2:k2<=11
 hG:∀ x∈bfQ after x0 M,(∃ d,G [x]=.ok d/\aH d=.ok (after x))/\(after x).length<=3
 hW:∀ x∈bfQ after x0 M,Wn [x]=.ok (.bool (wn x))
theorem F_ftoC{c:Dz->Bool}{M:Nat}(O:FtoC after x0 c k1 k2 G Wn M) :
  ((∀ p∈bfP after x0 M,c p.1=false)/\dS [.d x0,.g k1 1 G,.g k2 1 Wn]=.ok (.d (.tuple [.list (bfQ after x0 M),.none]))) \/
  ∃ (i:Nat) (x:Dz) (z:L9 Nat) (fs:L9 Dz),(bfP after x0 M)[i]? = some (x,z)/\c x=true/\(∀ (j:Nat) y v,j < i->(bfP after x0 M)[j]? = some (y,v)->c y=false)/\dS [.d x0,.g k1 1 G,.g k2 1 Wn]=.ok (.d (.tuple [.list fs,stD z])):=by
 obtain⟨N,hN,h2,C⟩:=nS (P:=λn=>(bfQ after x0 n).length<=n\/∃ x,(bfQ after x0 n)[n]? = some x/\c x=true) M (.inl O.cl)
 have sub:∀ n x,x∈bfQ after x0 n->x∈bfQ after x0 M:=λn x a=>by
  rw[<-eW]at a ⊢
  obtain⟨p,f,rfl⟩:=AN.mp a
  exact CI ((gW O.cl).subset f)
 have w:(bfQ after x0 N).length<=M:=by
  have:=(gW (n:=N) O.cl).length_le
  rw[gD,gD]at this
  exact AV this O.cl
 have hM:=O.hM
 have T:Fto after x0 c k1 k2 G Wn N:={
  on:=λm B=>by
   ext
  off:=h2
  key:=O.key.imp (λh x a=>h x (sub N x a)) (λh x a=>h x (sub N x a))
  len:=by ext
  hN:=by ext
  hk1:=O.hk1
  hk2:=O.hk2
  hG:=λm x _ a=>O.hG x (sub N x (AG a))
  hW:=λm x _ a=>O.hW x (sub N x (AG a))}
 have b:∀ (j:Nat) y v,j < N->(bfP after x0 M)[j]? = some (y,v)->c y=false:=λj y v l e=>by
  refine(T.on j l).2 y ?_
  have:=(T.on j l).1
  have A:(bfP after x0 j)[j]? = some (y,v):=lP (gW O.cl) (by rw[gD];exact this) e
  rw[<-eW,AC,A];rfl
 rcases F_fto T with ⟨r,e⟩|⟨x,z,f,u,e⟩
 .left
  have s:bfP after x0 M=bfP after x0 N:=by
   obtain⟨k,t⟩:=FX hN
   rw[<-t,uV r k]
  have o:bfQ after x0 N=bfQ after x0 M:=by rw[<-eW,<-eW,s]
  refine⟨λp f=>?_,by rw[<-o];exact e⟩
  obtain⟨j,l⟩:=BX f
  have q:=(AD.mp l).1
  rw[s,gD]at q
  ext
 .exact .inr ⟨N,x,z,_,gV (gW O.cl) f,u,b,e⟩
end
def prN(a b:Nat):Dz:=.tuple [.int (a:Int),.int (b:Int)]
def afP(r1 r2:L9 (L9 Nat)):Dz->L9 Dz
 | .tuple [.int a,.int b]=>((r1.getD a.toNat []).zip (r2.getD b.toNat [])).map λp=>prN p.1 p.2
 | _=>[]
theorem tE(r1 r2:L9 (L9 Nat))(a b:Nat):afP r1 r2 (prN a b)=((r1.getD a []).zip (r2.getD b [])).map λp=>prN p.1 p.2:=by
 show((r1.getD ((a:Int)).toNat []).zip (r2.getD ((b:Int)).toNat [])).map _=_
 rw[show((a:Int)).toNat=a by ext,show((b:Int)).toNat=b by ext]
def wnP(w1 w2:L9 Str):Dz->Bool
 | .tuple [.int a,.int b]=>decide (w1.getD a.toNat ""≠w2.getD b.toNat "")
 | _=>false
theorem aGE(w1 w2:L9 Str)(a b:Nat):wnP w1 w2 (prN a b)=decide (w1.getD a ""≠w2.getD b ""):=by
 show decide (w1.getD ((a:Int)).toNat ""≠w2.getD ((b:Int)).toNat "")=_
 rw[show((a:Int)).toNat=a by ext,show((b:Int)).toNat=b by ext]
def aGF(w:Str):Prop:=w="by"\/w="out"\/w="ever"
structure Rdw(ap:List (List Nat))(ws:List Str)(sg:Nat):Prop where
 r:Rdr ap sg
 wl:ws.length=ap.length
 ww:∀ w∈ws,aGF w
def rdW(ap:L9 (L9 Nat))(ws:L9 Str):Dz:=rdD ap (ws.map .str)
section
variable{r1 r2:L9 (L9 Nat)}{w1 w2:L9 Str}{sg:Nat}
theorem Rdw.w(M:Rdw r1 w1 sg)(b:q < r1.length):aGF (w1.getD q "")/\dIx (.tuple (w1.map .str)) (.int (q:Int))=.ok (.str (w1.getD q "")):=by
 have a:=M.wl
 have e:w1[q]? = some (w1.getD q ""):=by rw[AL,AI (by ext)];rfl
 refine⟨M.ww _ (AG e),l9 (cY ?_)⟩
 rw[AC,e];rfl
theorem mI(M1:Rdr r1 sg)(M2:Rdr r2 sg)(i:a < r1.length)(hb:b < r2.length):∀ {x:Dz},x∈bfQ (afP r1 r2) (prN a b) n->∃ c d:Nat,c < r1.length/\d < r2.length/\x=prN c d:=by
 induction n with
 | zero=>intro x e;rw[AK.mp e];exact⟨a,b,i,hb,rfl⟩
 | succ n ih=>
  intro x e
  rw[bfQ]at e
  split at e
  .rename_i y f
   rcases adA_mem _ e with h|h
   .exact ih h
   .obtain ⟨c,d,k,g,rfl⟩:=ih (AG f)
    rw[tE]at h
    obtain⟨p,j,rfl⟩:=AN.mp h
    have:=EI (a:=p.1) (b:=p.2) j
    exact⟨p.1,p.2,(M1.at k).2.2 _ this.1,(M2.at g).2.2 _ this.2,rfl⟩
  .exact ih e
theorem aQM(nd:xs.Nodup)(h:∀ x∈xs,∃ c d:Nat,c < n/\d < m/\x=prN c d):xs.length<=n * m:=by
 refine qR (λx=>match x with | .tuple [.int a,.int b]=>a.toNat * m+b.toNat|_=>0) (n * m) xs nd (λx i=>?_) (λx i y p e=>?_)
 .obtain ⟨c,d,l,f,rfl⟩:=h x i
  show c * m+d < n * m
  exact A3 (FN f _) (by rw[<-Nat.succ_mul];exact Nat.mul_le_mul_right _ l)
 .obtain ⟨c,d,l,f,rfl⟩:=h x i
  obtain⟨k,g,q,j,rfl⟩:=h y p
  have e:c * m+d=k * m+g:=e
  have h1:(c * m+d) % m=d:=by rw[EA,GE,DT f]
  have h2:(k * m+g) % m=g:=by rw[EA,GE,DT j]
  have o:d=g:=by rw[<-h1,e,h2]
  subst o
  rw[Nat.eq_of_mul_eq_mul_right (CW (BP _) f) (Nat.add_right_cancel e)]
theorem tF(M1:Rdr r1 sg)(M2:Rdr r2 sg)(c:a < r1.length)(hb:b < r2.length)(n:Nat):(bfQ (afP r1 r2) (prN a b) n).length<=r1.length * r2.length:=
 aQM (rL _ _ n) λx d=>mI M1 M2 c hb d
theorem aVU(M1:Rdw r1 w1 sg)(M2:Rdw r2 w2 sg)(c:a < r1.length)(hb:b < r2.length) :
  gA [.d (rdW r1 w1),.d (rdW r2 w2),.d (prN a b)]=.ok (.d (.list (afP r1 r2 (prN a b)))):=by
 have g:dIx (rdW r1 w1) (.int 0)=.ok (.tuple (r1.map bL)):=rfl
 have n:dIx (rdW r2 w2) (.int 0)=.ok (.tuple (r2.map bL)):=rfl
 have l:dIx (prN a b) (.int 0)=.ok (.int (a:Int)):=rfl
 have i:dIx (prN a b) (.int 1)=.ok (.int (b:Int)):=rfl
 have i1:=mH (ws:=w1.map .str) M1.r c
 have h:=mH (ws:=w2.map .str) M2.r hb
 have s3:=M1.r.s3
 have f:=(M1.r.at c).2.1
 have m:=(M2.r.at hb).2.1
 have e:aH (bL (r1.getD a []))=.ok ((r1.getD a []).map λj:Nat=>.int (j:Int)):=dO (by rw[AA];ext)
 have d2:aH (bL (r2.getD b []))=.ok ((r2.getD b []).map λj:Nat=>.int (j:Int)):=dO (by rw[AA];ext)
 have k:f9 (bL (r1.getD a [])) (bL (r2.getD b []))=.ok (afP r1 r2 (prN a b)):=by
  unfold f9
  rw[e,d2]
  show R.ok _=R.ok _
  rw[tE,HV,AX]
  rfl
 unfold gA rD
 simp_all
theorem aVV(M1:Rdw r1 w1 sg)(M2:Rdw r2 w2 sg)(f:a < r1.length)(hb:b < r2.length) :
  iA [.d (rdW r1 w1),.d (rdW r2 w2),.d (prN a b)]=.ok (.d (.bool (!wnP w1 w2 (prN a b)))):=by
 have l:dIx (rdW r1 w1) (.int 1)=.ok (.tuple (w1.map .str)):=rfl
 have k:dIx (rdW r2 w2) (.int 1)=.ok (.tuple (w2.map .str)):=rfl
 have j:dIx (prN a b) (.int 0)=.ok (.int (a:Int)):=rfl
 have i:dIx (prN a b) (.int 1)=.ok (.int (b:Int)):=rfl
 obtain⟨e,i1⟩:=M1.w f
 obtain⟨c,h⟩:=M2.w hb
 have m:=aTX e c
 have g:(!wnP w1 w2 (prN a b))=decide (w1.getD a ""=w2.getD b ""):=by rw[aGE];simp
 rw[g]
 unfold iA tY
 simp_all
def yN(r1 r2:L9 (L9 Nat))(a b:Nat):L9 PZ:=bfP (afP r1 r2) (prN a b) (r1.length * r2.length)
def p6(r1 r2:L9 (L9 Nat))(w1 w2:L9 Str)(a b:Nat):O9 (L9 Nat):=((yN r1 r2 a b).find? λp=>wnP w1 w2 p.1).map (·.2)
end
theorem aQN{z:L9 Nat}{c:Nat}(h:z.length < 16777216):bJ (stD z) (.str ⟨#[c]⟩)=.ok (stD (z++[c])):=by
 unfold stD
 rw[aB4 (by show z.toArray.size+1<=16777216;rw[A6];exact h),show(⟨z.toArray⟩:Str)++(⟨#[c]⟩:Str)=⟨(z++[c]).toArray⟩by
  show(⟨z.toArray ++ #[c]⟩:Str)=_
  simp]
section
variable{r1 r2:L9 (L9 Nat)}{w1 w2:L9 Str}{sg:Nat}
theorem aT5{w v:Str}(h:aGF w)(h':aGF v):dNe (.str w) (.str v)=.ok (.bool (!decide (w=v))):=by
 rw[wO (pW h) (pW h'),aI6]
 congr 3
theorem aT6{y:L9 Nat}(h:sl y z):HT.lt2 (z.length:Int) (y.length:Int) ⟨z.toArray⟩ ⟨y.toArray⟩=false:=by
 unfold HT.lt2
 rcases h with h|⟨h1,h2⟩
 .grind
 .rw[AJ (by ext)]
  split
  .rfl
  .refine A5 λa=>?_
   have a:z < y:=a
   exact List.lt_asymm a h2
end
def stN1(ap:L9 (L9 Nat))(q c:Nat):Nat:=(ap.getD q []).getD (c - 97) 0
def b9(ap:L9 (L9 Nat))(q:Nat)(z:L9 Nat):Nat:=z.foldl (stN1 ap) q
def Sgs(sg:Nat)(z:L9 Nat):Prop:=∀ c∈z,bA sg c=true
section
variable{ap r1 r2:L9 (L9 Nat)}{ws w1 w2:L9 Str}{sg:Nat}
theorem xB(h:bA sg c=true):97<=c/\c - 97 < sg:=by
 unfold bA at h
 ext
theorem eD(M:Rdr ap sg)(a:q < ap.length)(b:bA sg c=true):(ap.getD q [])[c - 97]? = some (stN1 ap q c)/\stN1 ap q c < ap.length:=by
 have hr:=M.at a
 have h:=xB b
 have d:c - 97 < (ap.getD q []).length:=by rw[hr.2.1];exact h.2
 have e:(ap.getD q [])[c - 97]? = some (stN1 ap q c):=by
  unfold stN1
  ext
 exact⟨e,hr.2.2 _ (AG e)⟩
theorem yO(M:Rdr ap sg):∀ (z:L9 Nat) {q:Nat},Sgs sg z->q < ap.length->b9 ap q z < ap.length
 | [],_,_,h=>h
 | c::t,_,hs,h=>yO M t (λc a=>hs c (AS _ a)) (eD M h (hs c AU)).2
theorem aJL(M1:Rdr r1 sg)(M2:Rdr r2 sg):∀ (z:L9 Nat) {a b:Nat},Sgs sg z->a < r1.length->b < r2.length->gE (afP r1 r2) (prN a b) z=prN (b9 r1 a z) (b9 r2 b z)
 | [],_,_,_,_,_=>rfl
 | c::t,a,b,hs,ha,hb=>by
  have hc:=hs c AU
  obtain⟨e1,d⟩:=eD M1 ha hc
  obtain⟨e2,f⟩:=eD M2 hb hc
  have e:((afP r1 r2 (prN a b))[c - 97]?).getD .none=prN (stN1 r1 a c) (stN1 r2 b c):=by
   rw[tE,AC]
   have:((r1.getD a []).zip (r2.getD b []))[c - 97]? = some (stN1 r1 a c,stN1 r2 b c):=GO.mpr ⟨e1,e2⟩
   rw[this];rfl
  show gE (afP r1 r2) (((afP r1 r2 (prN a b))[c - 97]?).getD .none) t=_
  rw[e]
  exact aJL M1 M2 t (λc hc=>hs c (AS _ hc)) d f
theorem aQO{after:Dz->L9 Dz}{x0:Dz}(n:Nat):(∀ x∈bfQ after x0 n,(after x).length<=sg)->∀ p∈bfP after x0 n,Sgs sg p.2:=by
 induction n with
 | zero=>intro _ p a c d;rw[AK.mp a]at d;simp at d
 | succ n b=>
  intro i
  have b:=b λx l=>i x ((dQ after x0 n).subset l)
  rw[bfP]
  split
  .rename_i q j
   have g:=b q (AG j)
   have o:(after q.1).length<=sg:=i _ ((dQ after x0 n).subset (by rw[<-eW];exact CI (AG j)))
   have f:∀ (ys:L9 (Dz×Nat)) (F:L9 PZ),(∀ y∈ys,y.2 < sg)->(∀ p∈F,Sgs sg p.2)->∀ p∈ys.foldl (adP q.2) F,Sgs sg p.2:=by
    intro ys
    induction ys with
    | nil=>exact λF _ h=>h
    | cons y t iht=>
     intro F e h
     refine iht _ (λm h'=>e m (AS _ h')) λp a=>?_
     unfold adP at a
     split at a
     .exact h p a
     .rcases A7.mp a with z|z
      .exact h p z
      .rw[AK.mp z]
       intro c d
       rcases A7.mp d with k|k
       .exact g c k
       .rw[AK.mp k]
        have:=e y AU
        unfold bA
        exact AY (by ext)
   refine f _ _ (λy e=>?_) b
   have:=List.snd_lt_add_of_mem_zipIdx e
   ext
  .exact b
def EqI(ap:L9 (L9 Nat))(ws:L9 Str)(sg i x y:Nat):Prop:=∀ w,Sgs sg w->w.length<=i->ws.getD (b9 ap x w) ""=ws.getD (b9 ap y w) ""
theorem EqI.up(h:EqI ap ws sg (i+1) x y):EqI ap ws sg i x y:=λw a b=>h w a (by ext)
theorem EqI.sy(h:EqI ap ws sg i x y):EqI ap ws sg i y x:=λw a b=>(h w a b).symm
theorem EqI.tr{z:Nat}(h:EqI ap ws sg i x y)(k:EqI ap ws sg i y z):EqI ap ws sg i x z:=λw b a=>(h w b a).trans (k w b a)
def gG(ap:L9 (L9 Nat))(ws:L9 Str)(sg i x:Nat):Prop:=∀ b,b < x->¬ EqI ap ws sg i x b
theorem o4(i x:Nat):∃ r,r<=x/\EqI ap ws sg i x r/\gG ap ws sg i r:=by
 obtain⟨r,h1,h2,c⟩:=nS (P:=λr=>EqI ap ws sg i x r) x (λw _ _=>rfl)
 exact⟨r,h1,h2,λb a h=>c b a (h2.tr h)⟩
theorem aEM(h:∀ x,x < ap.length->gG ap ws sg (i+1) x->gG ap ws sg i x)(hx:x < ap.length)(g:y < ap.length)(e:EqI ap ws sg i x y):EqI ap ws sg (i+1) x y:=by
 obtain⟨r,r1,r2,f⟩:=o4 (ap:=ap) (ws:=ws) (sg:=sg) (i+1) x
 obtain⟨s,s1,a,b⟩:=o4 (ap:=ap) (ws:=ws) (sg:=sg) (i+1) y
 have c:=h r (by ext) f
 have d:=h s (by ext) b
 have e2:EqI ap ws sg i r s:=(r2.up.sy.tr e).tr a.up
 have:r=s:=by
  rcases DR r s with q|q|q
  · exact absurd e2.sy (d r q)
  · exact q
  · exact absurd e2 (c s q)
 subst this
 exact r2.tr a.sy
theorem aCH(M:Rdr ap sg)(h:∀ x y,x < ap.length->y < ap.length->EqI ap ws sg i x y->EqI ap ws sg (i+1) x y):∀ (k:Nat) {x y:Nat},x < ap.length->y < ap.length->EqI ap ws sg i x y->EqI ap ws sg (i+k) x y
 | 0,_,_,_,_,e=>e
 | k+1,x,y,hx,hy,e=>λw hs hl=>by
  cases w with
  | nil=>exact e [] hs (BP _)
  | cons c t=>
   have hc:=hs c AU
   obtain⟨_,b⟩:=eD M hx hc
   obtain⟨_,g⟩:=eD M hy hc
   have e1:=h x y hx hy e
   have e2:EqI ap ws sg i (stN1 ap x c) (stN1 ap y c):=λu f hl=>e1 (c::u) (λd a=>by
    rcases AW.mp a with q|q
    · simp_all
    · exact f d q) (by simpa using hl)
   exact aCH M h k b g e2 t (λc hc=>hs c (AS _ hc)) (by simp at hl;ext)
theorem aCI(p q:α->Bool):∀ l:L9 α,(∀ a∈l,p a=true->q a=true)->(∃ a∈l,p a=false/\q a=true)->l.countP p < l.countP q
 | [],_,⟨a,h,_⟩=>by simp at h
 | x::t,hi,⟨a,h,h1,h2⟩=>by
  rw[List.countP_cons,List.countP_cons]
  have hle:=List.countP_mono_left (l:=t) (p:=p) (q:=q) λa b=>hi a (AS _ b)
  rcases AW.mp h with c|c
  .grind
  .have d:=aCI p q t (λa b=>hi a (AS _ b)) ⟨a,c,h1,h2⟩
   ext
open Classical in
theorem aVW(M:Rdr ap sg)(j:a < ap.length)(hb:b < ap.length)(hz:Sgs sg z)(r:ws.getD (b9 ap a z) ""≠ws.getD (b9 ap b z) "") :
  ∃ w,Sgs sg w/\w.length+1<=ap.length/\ws.getD (b9 ap a w) ""≠ws.getD (b9 ap b w) "":=by
 obtain⟨L,h1,h2,n⟩:=nS (P:=λi=>¬ EqI ap ws sg i a b) z.length (λh=>r (h z hz (AQ _)))
 have up:∀ i,i < L->∃ x,x < ap.length/\¬ gG ap ws sg i x/\gG ap ws sg (i+1) x:=λi hi=>CG λg=>by
  have st:∀ x,x < ap.length->gG ap ws sg (i+1) x->gG ap ws sg i x:=λx c h=>CG λh'=>g ⟨x,c,h',h⟩
  have e:EqI ap ws sg i a b:=CG λh=>n i hi h
  have:=aCH (ws:=ws) M (λx y c q=>aEM st c q) (L - i) j hb e
  rw[show i+(L - i)=L by ext]at this
  exact h2 this
 have f:∀ i,i<=L->i+1<=(range ap.length).countP λx=>decide (gG ap ws sg i x):=by
  intro i
  induction i with
  | zero=>
   intro _
   have:0∈range ap.length:=BF.mpr (by ext)
   exact List.countP_pos_iff.mpr ⟨0,this,AY λb hb=>absurd hb (Nat.not_lt_zero _)⟩
  | succ i ih=>
   intro hi
   have:=ih (by ext)
   obtain⟨x,c,m,k⟩:=up i (by ext)
   have:=aCI (λx=>decide (gG ap ws sg i x)) (λx=>decide (gG ap ws sg (i+1) x)) (range ap.length) (λx _ h=>AY λb hb e=>BH h b hb e.up) ⟨x,BF.mpr c,A5 m,AY k⟩
   ext
 have s:=f L (AQ _)
 have o:(range ap.length).countP (λx=>decide (gG ap ws sg L x))<=ap.length:=by
  have:=HK (p:=λx=>decide (gG ap ws sg L x)) (l:=range ap.length)
  rw[A4]at this;exact this
 obtain⟨w,d⟩:=FE.mp h2
 obtain⟨s1,d⟩:=FE.mp d
 obtain⟨t,d⟩:=FE.mp d
 exact⟨w,s1,by ext,d⟩
end
def ix1(ks:L9 Dz)(k:Dz):Nat:=ks.findIdx λy=>decide (y=k)
theorem aEN{a:L9 Dz}(h:k∈a):a[ix1 a k]? = some k/\∀ j,j < ix1 a k->a[j]? ≠ some k:=by
 have c:∃ x∈a,decide (x=k)=true:=⟨k,h,AY rfl⟩
 have b:ix1 a k < a.length:=List.findIdx_lt_length_of_exists c
 refine⟨?_,λj d e=>?_⟩
 .have:=List.findIdx_getElem (w:=b)
  rw[AI b]
  exact DB some (BH this)
 .obtain ⟨f,g⟩:=AD.mp e
  have:=List.not_of_lt_findIdx d
  ext
theorem aT7{a:L9 Dz}(h:a[i]? = some k)(b:∀ j,j < i->a[j]? ≠ some k):ix1 a k=i:=by
 obtain⟨h1,h2⟩:=aEN (AG h)
 rcases DR (ix1 a k) i with q|q|q
 · exact absurd h1 (b _ q)
 · exact q
 · exact absurd h (h2 _ q)
theorem aNH{x:Dz}{a:L9 Dz}(hx:aH x=.ok a)(L:a.length<=100000)(K:(∀ k∈a,eE k=true)\/(∀ k∈a,jQ k=true)):jR [.d x]=.ok (.d (.list (a.map λk=>.int (ix1 a k:Int)))):=by
 have n:=pZ hx
 have same:∀ (k:Dz) (M:L9 (Dz×Dz)),k∈a->(∀ p∈M,p.1∈a)->a7 k (M.map (·.1))=true:=λk M h1 h2=>by
  unfold a7
  ext
 have f:∀ (M:L9 (Dz×Dz)) k,bC M k=(b7 M k).isSome:=λM k=>rfl
 obtain⟨O,H,M,q,o,G,g,r,E⟩:=dP (fs:=stT [(stN 2),(stN 3)]) (fb:=pQ 1 (eV 3) (eV 2)) (d:=pR) (xs:=a.zipIdx) (Y:=[some (.d x),some (.m []),none,none])
  (λi Y=>∃ (M:L9 (Dz×Dz)) (q o:O9 A),Y=[some (.d x),some (.m M),q,o]/\(∀ k,b7 M k=if k∈a.take i then some (.int (ix1 a k:Int))else none)/\(∀ p∈M,p.1∈a)/\M.length<=i)
  ⟨[],none,none,rfl,λk=>by simp[b7],λp s=>by simp at s,AQ _⟩ (λi p Y s w=>by
  obtain⟨M,q,o,e,g,r,E⟩:=w
  subst e
  obtain⟨k,b⟩:=p
  obtain⟨c,rfl⟩:a[i]? = some k/\b=i:=by
   ext
  have t:=AG c
  have D:b < a.length:=(AD.mp c).1
  have B:=same k M t r
  have N:M.length<=16777216:=by ext
  have C:a.take (b+1)=a.take b++[k]:=by rw[B9,c];rfl
  by_cases h:k∈a.take b
  .have v:bC M k=true:=by rw[f,g k,AJ h];rfl
   refine⟨[some (.d x),some (.m M),some (.d (.int (b:Int))),some (.d k)],[some (.d x),some (.m M),some (.d (.int (b:Int))),some (.d k)],by simp[pR],.inl ?_,M,some (.d (.int (b:Int))),some (.d k),rfl,λF=>?_,r,by ext⟩
   .simp_all
   .grind
  .have v:bC M k=false:=by rw[f,g k,AM h];rfl
   have I:ix1 a k=b:=aT7 c λj J e=>h (by
    refine AG (i:=j) ?_
    rw[EN J];exact e)
   refine⟨[some (.d x),some (.m M),some (.d (.int (b:Int))),some (.d k)],[some (.d x),some (.m (putM M k (.int (b:Int)))),some (.d (.int (b:Int))),some (.d k)],by simp[pR],.inl ?_,putM M k (.int (b:Int)),some (.d (.int (b:Int))),some (.d k),rfl,λF=>?_,λp s=>?_,?_⟩
   .simp_all
   .rw[jV v,C]
    ext
   .unfold putM at s
    ext
   .unfold putM
    rw[v,AM (by decide),A2];simp;ext)
 rw[CO,EF]at g
 subst G
 have z:=bK (fs:=stN 0) (fe:=gN 1 (eV 0)) (Y0:=[none,some (.m M)]) (d:=λk:Dz=>k) (g:=λk:Dz=>PyData.int (ix1 a k:Int)) (xs:=a) λk l=>⟨_,rfl,by
  have B:=same k M l r
  have y:=g k
  rw[AJ l]at y
  simp[B,y]⟩
 rw[List.map_id']at z
 have u:gL (stT [(stN 2),(stN 3)]) (pQ 1 (eV 3) (eV 2)) (a.zipIdx.map pR) [some (.d x),some (.m []),none,none]=.ok (.nx [some (.d x),some (.m M),q,o]):=H
 unfold jR aBX
 simp[n,u,hx,cP,z]
section
variable{ap:L9 (L9 Nat)}{ws:L9 Str}{sg:Nat}
def rp(ap:L9 (L9 Nat))(ws:L9 Str)(sg i x:Nat):Nat:=(o4 (ap:=ap) (ws:=ws) (sg:=sg) i x).choose
theorem aGG(i x:Nat):rp ap ws sg i x<=x:=(o4 (ap:=ap) (ws:=ws) (sg:=sg) i x).choose_spec.1
theorem p7(i x:Nat):EqI ap ws sg i x (rp ap ws sg i x):=(o4 (ap:=ap) (ws:=ws) (sg:=sg) i x).choose_spec.2.1
theorem rN(i x:Nat):gG ap ws sg i (rp ap ws sg i x):=(o4 (ap:=ap) (ws:=ws) (sg:=sg) i x).choose_spec.2.2
theorem aJM{r s:Nat}(h1:gG ap ws sg i r)(h2:gG ap ws sg i s)(h:EqI ap ws sg i r s):r=s:=by
 rcases DR r s with q|q|q
 · exact absurd h.sy (h2 r q)
 · exact q
 · exact absurd h (h1 s q)
theorem aEO{i x r:Nat}(h:EqI ap ws sg i x r)(k:gG ap ws sg i r):r=rp ap ws sg i x:=aJM k (rN i x) (h.sy.tr (p7 i x))
theorem rO:rp ap ws sg i x=rp ap ws sg i y↔EqI ap ws sg i x y:=by
 constructor
 .intro h
  have:=p7 (ap:=ap) (ws:=ws) (sg:=sg) i y
  rw[<-h]at this
  exact(p7 i x).tr this.sy
 .intro h
  exact aJM (rN i x) (rN i y) ((p7 i x).sy.tr (h.tr (p7 i y)))
theorem aCJ{i:Nat}{κ:Nat->Dz}(d:∀ x y,x < n->y < n->(κ x=κ y↔EqI ap ws sg i x y))(hx:x < n):ix1 ((range n).map κ) (κ x)=rp ap ws sg i x:=by
 have a:∀ j,j < n->((range n).map κ)[j]? = some (κ j):=λj g=>by rw[AC,B1 g];rfl
 obtain⟨h1,h2⟩:=aEN (AG (a x hx))
 generalize ix1 ((range n).map κ) (κ x)=r at *
 have hr:r < n:=by
  have:=(AD.mp h1).1
  rw[AA,A4]at this;exact this
 rw[a r hr]at h1
 have e:κ r=κ x:=BK h1
 refine aEO ((d x r hx hr).mp e.symm) λb f h=>?_
 have c:b < n:=DI f hr
 exact h2 b f (by rw[a b c,<-(d r b hr c).mpr h,e])
def lkD(ap:L9 (L9 Nat))(ws:L9 Str)(sg i:Nat):Dz:=.list ((range ap.length).map λx=>.int (rp ap ws sg i x:Int))
theorem aMA:EqI ap ws sg 0 x y↔ws.getD x ""=ws.getD y "":=by
 constructor
 .intro h;exact h [] (λc a=>by simp at a) (AQ _)
 .intro h w _ b
  have:w=[]:=List.eq_nil_of_length_eq_zero (by ext)
  subst this;exact h
theorem aMB(M:Rdr ap sg)(hx:x < ap.length)(e:y < ap.length):EqI ap ws sg (i+1) x y↔EqI ap ws sg i x y/\∀ k,k < sg->EqI ap ws sg i (stN1 ap x (97+k)) (stN1 ap y (97+k)):=by
 constructor
 .intro h
  refine⟨h.up,λk f w b d=>h ((97+k)::w) (λc a=>?_) (by simpa using d)⟩
  rcases AW.mp a with q|q
  .rw[q];unfold bA;exact AY (by ext)
  .exact b c q
 .rintro ⟨h1,h2⟩ w b d
  cases w with
  | nil=>exact h1 [] b (BP _)
  | cons c t=>
   have a:=xB (b c AU)
   have:=h2 (c - 97) a.2 t (λc a=>b c (AS _ a)) (by simp at d;ext)
   rw[show 97+(c - 97)=c by ext]at this
   exact this
theorem aVX{i:Nat}(hx:x < ap.length):dIx (lkD ap ws sg i) (.int (x:Int))=.ok (.int (rp ap ws sg i x:Int)):=iL (cY (by rw[AC,B1 hx];rfl))
theorem aT8(M:Rdw ap ws sg):jR [.d (.tuple (ws.map .str))]=.ok (.d (lkD ap ws sg 0)):=by
 have n2:=M.r.n2
 have f:=M.wl
 have a:ws.map PyData.str=(range ap.length).map λx=>PyData.str (ws.getD x ""):=by
  refine D6 λj=>?_
  ext
 have c:aH (.tuple (ws.map .str))=.ok (ws.map .str):=dO (by rw[AA];ext)
 rw[aNH c (by rw[AA];ext) (.inr λk e=>by obtain⟨w,_,rfl⟩:=AN.mp e;rfl)]
 unfold lkD
 rw[a,AX]
 congr 3
 refine BA λx b=>?_
 have b:=BF.mp b
 show PyData.int _=_
 rw[aCJ (ap:=ap) (ws:=ws) (sg:=sg) (i:=0) (κ:=λx=>PyData.str (ws.getD x "")) (λx y _ _=>by rw[aMA];exact⟨λh=>by injection h,λh=>by rw[h]⟩) b]
theorem aVY(M:Rdr ap sg)(hx:x < ap.length):cB [.d (lkD ap ws sg i),.d (bL (ap.getD x []))]=.ok (.d (.tuple ((ap.getD x []).map λj=>.int (rp ap ws sg i j:Int)))):=by
 have hr:=M.at hx
 have s3:=M.s3
 have b:aH (bL (ap.getD x []))=.ok ((ap.getD x []).map λj:Nat=>.int (j:Int)):=dO (by rw[AA];ext)
 have c:=bK (fs:=stN 0) (fe:=e2 dIx (rV 1) (rV 0)) (Y0:=[none,some (.d (lkD ap ws sg i))]) (d:=λj:Nat=>.int (j:Int)) (g:=λj:Nat=>PyData.int (rp ap ws sg i j:Int)) (xs:=ap.getD x []) λj a=>⟨_,rfl,by
  have:=aVX (ws:=ws) (sg:=sg) (i:=i) (hr.2.2 j a)
  simp[this]⟩
 generalize ap.getD x []=r at *
 unfold cB kY
 simp[b,cP,c]
def fkK(ap:L9 (L9 Nat))(ws:L9 Str)(sg i x:Nat):Dz:=.tuple [.int (rp ap ws sg i x:Int),.tuple ((ap.getD x []).map λj=>.int (rp ap ws sg i j:Int))]
theorem aQP(M:Rdr ap sg)(hx:x < ap.length)(b:y < ap.length):fkK ap ws sg i x=fkK ap ws sg i y↔EqI ap ws sg (i+1) x y:=by
 have g:=M.at hx
 have e:=M.at b
 rw[aMB M hx b,<-rO]
 have d:∀ q,q < ap.length->∀ k,k < sg->(ap.getD q [])[k]? = some (stN1 ap q (97+k)):=λq f k a=>by
  have:=(eD M f (c:=97+k) (by unfold bA;exact AY (by ext))).1
  ext
 constructor
 .intro h
  unfold fkK at h
  injection h with h
  injection h with h1 h2
  injection h2 with h2 _
  injection h1 with h1
  injection h2 with h2
  refine⟨HQ h1,λk a=>rO.mp ?_⟩
  have:=DB (λl=>l[k]?) h2
  simp only[AC,d x hx k a,d y b k a,C8]at this
  injection this with this
  injection this with this
  exact HQ this
 .rintro ⟨h1,h2⟩
  unfold fkK
  have:(ap.getD x []).map (λj=>PyData.int (rp ap ws sg i j:Int))=(ap.getD y []).map λj=>PyData.int (rp ap ws sg i j:Int):=by
   refine D6 λk=>?_
   rw[AC,AC]
   by_cases a:k < sg
   .rw[d x hx k a,d y b k a]
    show some (PyData.int _)=some (PyData.int _)
    rw[rO.mpr (h2 k a)]
   .rw[C7 (by rw[g.2.1];exact GK.mp a),C7 (by rw[e.2.1];exact GK.mp a)]
  rw[this,h1]
theorem aEP(f:Nat->Int):∀ (xs:L9 Nat),cE (xs.map λj=>.int (f j))=true
 | []=>rfl
 | x::t=>by rw[AZ,cE,aEP f t];rfl
theorem aT9(M:Rdr ap sg)(hx:x < ap.length):eE (fkK ap ws sg i x)=true:=by
 have d:=aEP (λj=>(rp ap ws sg i j:Int)) (ap.getD x [])
 have h2:Sh 2 (fkK ap ws sg i x):=fE λy a=>by
  rcases AW.mp a with q|q
  .rw[q];exact jG _ _
  .rw[AK.mp q]
   exact fE λz c=>by
    obtain⟨j,_,rfl⟩:=AN.mp c
    exact jG _ _
 have b:=h2.2
 unfold fkK at b ⊢
 unfold eE
 rw[A1]
 refine⟨?_,AY (by ext)⟩
 show cE [_,_]=true
 unfold cE cE
 show(true && (cE ((ap.getD x []).map λj=>PyData.int (rp ap ws sg i j:Int)) && cE []))=true
 rw[d];rfl
theorem aNI(M:Rdw ap ws sg)(i:Nat):oO [.d (.tuple (ap.map bL)),.d (lkD ap ws sg i)]=.ok (.d (lkD ap ws sg (i+1))):=by
 have n2:=M.r.n2
 have s3:=M.r.s3
 have f:aH (lkD ap ws sg i)=.ok ((range ap.length).map λx=>.int (rp ap ws sg i x:Int)):=bY (by rw[AA,A4];ext)
 have m:ap.map bL=(range ap.length).map λx=>bL (ap.getD x []):=by
  refine D6 λj=>?_
  ext
 have e:aH (.tuple (ap.map bL))=.ok ((range ap.length).map λx=>bL (ap.getD x [])):=by rw[<-m];exact dO (by rw[AA];ext)
 have n:f9 (lkD ap ws sg i) (.tuple (ap.map bL))=.ok ((range ap.length).map λx=>.tuple [.int (rp ap ws sg i x:Int),bL (ap.getD x [])]):=by
  unfold f9
  rw[f,e]
  show R.ok _=R.ok _
  rw[HV,AX]
  congr 1
  refine D6 λj=>?_
  rw[AC,AC]
  by_cases h:j < ap.length
  .have l:((range ap.length).zip (range ap.length))[j]? = some (j,j):=GO.mpr ⟨B1 h,B1 h⟩
   rw[B1 h,l];rfl
  .grind
 have o:=bK (fs:=stT [(stN 0),(stN 1)]) (fe:=bG (aA (eV 0) (aA (eA (aI 2 cB (aA (vV 2) (aA (vV 1) aC)))) aC))) (Y0:=[none,none,some (.d (lkD ap ws sg i))]) (d:=λx=>PyData.tuple [.int (rp ap ws sg i x:Int),bL (ap.getD x [])]) (g:=fkK ap ws sg i) (xs:=range ap.length) λx a=>⟨[some (.d (.int (rp ap ws sg i x:Int))),some (.d (bL (ap.getD x []))),some (.d (lkD ap ws sg i))],by simp,by
  have:=aVY (ws:=ws) M.r (i:=i) (BF.mp a)
  unfold fkK
  simp[-List.getD_eq_getElem?_getD,this]⟩
 have c:aH (.list ((range ap.length).map (fkK ap ws sg i)))=.ok ((range ap.length).map (fkK ap ws sg i)):=bY (by rw[AA,A4];ext)
 have b:=aNH c (by rw[AA,A4];ext) (.inl λk c=>by
  obtain⟨x,a,rfl⟩:=AN.mp c
  exact aT9 M.r (BF.mp a))
 have q:((range ap.length).map (fkK ap ws sg i)).map (λk=>PyData.int (ix1 ((range ap.length).map (fkK ap ws sg i)) k:Int))=(range ap.length).map λx=>.int (rp ap ws sg (i+1) x:Int):=by
  rw[AX]
  refine BA λx a=>?_
  show PyData.int _=_
  rw[aCJ (ap:=ap) (ws:=ws) (sg:=sg) (i:=i+1) (κ:=fkK ap ws sg i) (λx y a p=>aQP M.r a p) (BF.mp a)]
 rw[q]at b
 have b:jR [.d (.list ((range ap.length).map (fkK ap ws sg i)))]=.ok (.d (lkD ap ws sg (i+1))):=b
 unfold oO aD5
 simp[-List.getD_eq_getElem?_getD,n,cP,o,b]
theorem aEQ(f:Nat->Int):∀ (xs:L9 Nat),nF (xs.map λj=>.int (f j))=true
 | []=>rfl
 | x::t=>by rw[AZ];show(true && nF _)=true;rw[aEQ f t];rfl
theorem tG(i:Nat):Cp (lkD ap ws sg i):=⟨aEQ _ _,Sh.shaped (n:=1) (sh_lst λx a=>by
 obtain⟨q,_,rfl⟩:=AN.mp a
 exact jG _ _) (by decide)⟩
theorem aER(h:lkD ap ws sg i=lkD ap ws sg (i+1)):∀ x,x < ap.length->rp ap ws sg i x=rp ap ws sg (i+1) x:=λx a=>by
 unfold lkD at h
 injection h with h
 have:=DB (λl=>l[x]?) h
 simp only[AC,B1 a,C8,EX]at this
 injection this with this
 ext
open Classical in
def aCK(ap:L9 (L9 Nat))(ws:L9 Str)(sg i:Nat):Nat:=(range ap.length).countP λx=>decide (gG ap ws sg i x)
open Classical in
theorem aES(h:lkD ap ws sg i≠lkD ap ws sg (i+1)):aCK ap ws sg i < aCK ap ws sg (i+1):=by
 refine aCI _ _ _ (λx _ h=>AY λb c e=>BH h b c e.up) (CG λd=>h ?_)
 have st:∀ x,x < ap.length->gG ap ws sg (i+1) x->gG ap ws sg i x:=λx a hr=>CG λh'=>d ⟨x,BF.mpr a,A5 h',AY hr⟩
 unfold lkD
 congr 1
 refine BA λx a=>?_
 have a:=BF.mp a
 have f:=aGG (ap:=ap) (ws:=ws) (sg:=sg) i x
 rw[<-aEO (ap:=ap) (ws:=ws) (sg:=sg) (i:=i+1) (x:=x) (r:=rp ap ws sg i x) (aEM st a (by ext) (p7 i x)) λb c e=>rN i x b c e.up]
theorem aQQ(i:Nat):aCK ap ws sg i<=ap.length:=by
 unfold aCK
 have:=HK (p:=λx=>@decide (gG ap ws sg i x) (Classical.propDecidable _)) (l:=range ap.length)
 rw[A4]at this;exact this
theorem aQR(M:Rdw ap ws sg):∀ (k i:Nat),ap.length<=aCK ap ws sg i+k->∃ N,aB (aX arT arB) (aM (vV 1)) [some (.d (rdW ap ws)),some (.d (lkD ap ws sg i)),some (.d (lkD ap ws sg (i+1)))]=.ok (.rt (.d (lkD ap ws sg N)))/\lkD ap ws sg N=lkD ap ws sg (N+1):=by
 intro k
 induction k with
 | zero=>
  intro i c
  by_cases h:lkD ap ws sg i=lkD ap ws sg (i+1)
  .refine ⟨i,?_,h⟩
   have a:arT [some (.d (rdW ap ws)),some (.d (lkD ap ws sg i)),some (.d (lkD ap ws sg (i+1)))]=.ok false:=by
    have:=wY (tG (ap:=ap) (ws:=ws) (sg:=sg) (i+1)) (tG (ap:=ap) (ws:=ws) (sg:=sg) i)
    rw[AY h.symm]at this
    simp[arT,this]
   rw[aW,cL a]
   simp
  .have:=aES h
   have:=aQQ (ap:=ap) (ws:=ws) (sg:=sg) (i+1)
   ext
 | succ k ih=>
  intro i c
  by_cases h:lkD ap ws sg i=lkD ap ws sg (i+1)
  .refine ⟨i,?_,h⟩
   have a:arT [some (.d (rdW ap ws)),some (.d (lkD ap ws sg i)),some (.d (lkD ap ws sg (i+1)))]=.ok false:=by
    have:=wY (tG (ap:=ap) (ws:=ws) (sg:=sg) (i+1)) (tG (ap:=ap) (ws:=ws) (sg:=sg) i)
    rw[AY h.symm]at this
    simp[arT,this]
   rw[aW,cL a]
   simp
  .have l:=aES h
   have a:arT [some (.d (rdW ap ws)),some (.d (lkD ap ws sg i)),some (.d (lkD ap ws sg (i+1)))]=.ok true:=by
    have:=wY (tG (ap:=ap) (ws:=ws) (sg:=sg) (i+1)) (tG (ap:=ap) (ws:=ws) (sg:=sg) i)
    rw[A5 λe=>h e.symm]at this
    simp[arT,this]
   have b:dIx (rdW ap ws) (.int 0)=.ok (.tuple (ap.map bL)):=rfl
   have f:=aNI M (i+1)
   have j:arB [some (.d (rdW ap ws)),some (.d (lkD ap ws sg i)),some (.d (lkD ap ws sg (i+1)))]=.ok (.nx [some (.d (rdW ap ws)),some (.d (lkD ap ws sg (i+1))),some (.d (lkD ap ws sg (i+1+1)))]):=by
    simp[arB,b,f]
   obtain⟨N,e,g⟩:=ih (i+1) (by ext)
   refine⟨N,?_,g⟩
   rw[aW]at e ⊢
   rw[eS a j]
   exact e
def EqA(ap:L9 (L9 Nat))(ws:L9 Str)(sg x y:Nat):Prop:=∀ w,Sgs sg w->ws.getD (b9 ap x w) ""=ws.getD (b9 ap y w) ""
theorem aVZ(M:Rdw ap ws sg):∃ L:L9 Nat,eG [.d (rdW ap ws)]=.ok (.d (.list (L.map λr:Nat=>.int (r:Int))))/\L.length=ap.length/\∀ x,x < ap.length->∃ r,L[x]? = some r/\r<=x/\EqA ap ws sg x r/\∀ b,b < r->¬ EqA ap ws sg r b:=by
 obtain⟨N,e,j⟩:=aQR M ap.length 0 (by ext)
 have m:dIx (rdW ap ws) (.int 0)=.ok (.tuple (ap.map bL)):=rfl
 have i1:dIx (rdW ap ws) (.int 1)=.ok (.tuple (ws.map .str)):=rfl
 have n:=aT8 M
 have h1:=aNI M 0
 have f:∀ {x y:Nat},x < ap.length->y < ap.length->EqI ap ws sg N x y->EqA ap ws sg x y:=λ{x y} a c h w g=>by
  have:=aCH (ws:=ws) M.r (i:=N) (λx y a c e=>by
   have:=rO.mpr e
   rw[aER j x a,aER j y c]at this
   exact rO.mp this) w.length a c h
  exact this w g (by ext)
 refine⟨(range ap.length).map (rp ap ws sg N),?_,by rw[AA,A4],λx a=>⟨rp ap ws sg N x,by rw[AC,B1 a];rfl,aGG N x,f a (CW (aGG N x) a) (p7 N x),λb l h=>rN N x b l λw g _=>h w g⟩⟩
 have k:lkD ap ws sg N=.list (((range ap.length).map (rp ap ws sg N)).map λr:Nat=>.int (r:Int)):=by unfold lkD;rw[AX];rfl
 rw[<-k]
 unfold eG
 rw[qD]
 simp_all
end
section
variable{ap:L9 (L9 Nat)}{ws:L9 Str}{sg:Nat}{L:L9 Nat}
structure Lk(ap:List (List Nat))(ws:List Str)(sg:Nat)(L:List Nat):Prop where
 len:L.length=ap.length
 at_:∀ x,x < ap.length->L[x]? = some (L.getD x 0)/\L.getD x 0<=x/\EqA ap ws sg x (L.getD x 0)/\∀ b,b < L.getD x 0->¬ EqA ap ws sg (L.getD x 0) b
theorem aJN(M:Rdw ap ws sg):∃ L:L9 Nat,eG [.d (rdW ap ws)]=.ok (.d (.list (L.map λr:Nat=>.int (r:Int))))/\Lk ap ws sg L:=by
 obtain⟨L,e,l,h⟩:=aVZ M
 refine⟨L,e,l,λx a=>?_⟩
 obtain⟨r,h1,h2,c,b⟩:=h x a
 have:L.getD x 0=r:=by rw[AL,h1];rfl
 rw[this]
 exact⟨h1,h2,c,b⟩
def afL(ap:L9 (L9 Nat))(L:L9 Nat):Dz->L9 Dz
 | .int q=>(ap.getD q.toNat []).map λj=>.int (L.getD j 0:Int)
 | _=>[]
theorem nU(q:Nat):afL ap L (.int (q:Int))=(ap.getD q []).map λj=>.int (L.getD j 0:Int):=by
 show(ap.getD ((q:Int)).toNat []).map _=_
 rw[show((q:Int)).toNat=q by ext]
theorem lA(M:Rdr ap sg)(K:Lk ap ws sg L):∀ {x:Dz},x∈bfQ (afL ap L) (.int 0) n->∃ q:Nat,q < ap.length/\x=.int (q:Int):=by
 induction n with
 | zero=>intro x a;rw[AK.mp a];exact⟨0,M.n1,rfl⟩
 | succ n ih=>
  intro x a
  rw[bfQ]at a
  split at a
  .rename_i y c
   rcases adA_mem _ a with h|h
   .exact ih h
   .obtain ⟨q,e,rfl⟩:=ih (AG c)
    rw[nU]at h
    obtain⟨j,d,rfl⟩:=AN.mp h
    have b:=(M.at e).2.2 j d
    have:=(K.at_ j b).2.1
    exact⟨L.getD j 0,by ext,rfl⟩
  .exact ih a
theorem aUA(M:Rdr ap sg)(K:Lk ap ws sg L)(hx:x < ap.length):cB [.d (.list (L.map λr:Nat=>.int (r:Int))),.d (bL (ap.getD x []))]=.ok (.d (.tuple (afL ap L (.int (x:Int))))):=by
 have hr:=M.at hx
 have s3:=M.s3
 have b:aH (bL (ap.getD x []))=.ok ((ap.getD x []).map λj:Nat=>.int (j:Int)):=dO (by rw[AA];ext)
 have c:=bK (fs:=stN 0) (fe:=e2 dIx (rV 1) (rV 0)) (Y0:=[none,some (.d (.list (L.map λr:Nat=>.int (r:Int))))]) (d:=λj:Nat=>.int (j:Int)) (g:=λj:Nat=>PyData.int (L.getD j 0:Int)) (xs:=ap.getD x []) λj a=>⟨_,rfl,by
  have:dIx (.list (L.map λr:Nat=>.int (r:Int))) (.int (j:Int))=.ok (.int (L.getD j 0:Int)):=iL (cY (by rw[AC,(K.at_ j (hr.2.2 j a)).1];rfl))
  simp[-List.getD_eq_getElem?_getD,this]⟩
 rw[nU]
 generalize ap.getD x []=r at *
 unfold cB kY
 simp[-List.getD_eq_getElem?_getD,b,cP,c]
structure Lst(ap:List (List Nat))(ws:List Str)(L:List Nat)(N:Nat):Prop where
 len:(bfQ (afL ap L) (.int 0) N).length=N
 on:∀ m,m < N->m < (bfQ (afL ap L) (.int 0) m).length
 le:N<=ap.length
theorem aJO(M:Rdr ap sg)(K:Lk ap ws sg L):∃ N,Lst ap ws L N:=by
 have c:∀ n,(bfQ (afL ap L) (.int 0) n).length<=ap.length:=λn=>aQI (rL _ _ n) λx e=>lA M K e
 obtain⟨N,h1,h2,f⟩:=nS (P:=λn=>(bfQ (afL ap L) (.int 0) n).length<=n) ap.length (c _)
 have on:∀ m,m < N->m < (bfQ (afL ap L) (.int 0) m).length:=λm d=>by have:=f m d;ext
 refine⟨N,Nat.le_antisymm h2 ?_,on,h1⟩
 cases N with
 | zero=>ext
 | succ n=>
  have a:=on n (by ext)
  have b:=(dQ (afL ap L) (.int 0) n).length_le
  ext
def roomsL(ap:L9 (L9 Nat))(L:L9 Nat)(N:Nat):L9 Nat:=(bfQ (afL ap L) (.int 0) N).map λx=>match x with | .int q=>q.toNat|_=>0
def cG(ap:L9 (L9 Nat))(L:L9 Nat)(N:Nat):L9 (L9 Nat):=(bfQ (afL ap L) (.int 0) N).map λx=>(afL ap L x).map (nrQ (bfQ (afL ap L) (.int 0) N))
def eK(ap:L9 (L9 Nat))(ws:L9 Str)(L:L9 Nat)(N:Nat):L9 Str:=(roomsL ap L N).map λq=>ws.getD q ""
theorem nV(M:Rdr ap sg)(K:Lk ap ws sg L)(N:Nat):bfQ (afL ap L) (.int 0) N=(roomsL ap L N).map λq:Nat=>.int (q:Int):=by
 unfold roomsL
 rw[AX]
 conv=>lhs;rw[<-map_id (bfQ (afL ap L) (.int 0) N)]
 refine BA λx a=>?_
 obtain⟨q,_,rfl⟩:=lA M K a
 ext
theorem aNJ(M:Rdw ap ws sg)(K:Lk ap ws sg L)(eL:eG [.d (rdW ap ws)]=.ok (.d (.list (L.map λr:Nat=>.int (r:Int)))))(T:Lst ap ws L N) :
  oP [.d (rdW ap ws)]=.ok (.d (rdW (cG ap L N) (eK ap ws L N))):=by
 have n2:=M.r.n2
 have s3:=M.r.s3
 have o:=T.le
 have t:dIx (rdW ap ws) (.int 0)=.ok (.tuple (ap.map bL)):=rfl
 have i1:dIx (rdW ap ws) (.int 1)=.ok (.tuple (ws.map .str)):=rfl
 have n:dIx (.list (L.map λr:Nat=>.int (r:Int))) (.int 0)=.ok (.int 0):=by
  have h:=K.at_ 0 M.r.n1
  have:L.getD 0 0=0:=by ext
  rw[this]at h
  exact iL (cY (j:=0) (by rw[AC,h.1];rfl))
 let S:Sq:={after:=afL ap L,x0:=.int 0,stop:=λ_ _=>false,k1:=2,k2:=1,G:=cI 3 dN [.d (.list (L.map λr:Nat=>.int (r:Int))),.d (rdW ap ws)],D:=gF j5}
 have O:S.ok N:={
  on:=λm f=>⟨T.on m f,rfl⟩
  off:=.inl (EO T.len)
  key:=.inr λx i=>by obtain⟨q,_,rfl⟩:=lA M.r K i;rfl
  len:=by show(bfQ (afL ap L) (.int 0) N).length<=_;rw[T.len];ext
  hk1:=by show 2<=12;ext
  hk2:=by show 1<=12;ext
  hG:=λm x f i=>by
   obtain⟨q,a,rfl⟩:=lA M.r K (AG i)
   have u:(afL ap L (.int (q:Int))).length<=3:=by rw[nU,AA,(M.r.at a).2.1];exact s3
   refine⟨⟨.tuple (afL ap L (.int (q:Int))),?_,dO (by show(afL ap L (.int (q:Int))).length<=_;ext)⟩,by show(afL ap L (.int (q:Int))).length<=1000;ext⟩
   have e:=aUA M.r K a
   have c:=mH (ws:=ws.map .str) M.r a
   show cI 3 dN [.d (.list (L.map λr:Nat=>.int (r:Int))),.d (rdW ap ws)] [.int (q:Int)]=_
   unfold cI dN
   simp[-List.getD_eq_getElem?_getD,t,c,e,dOf]
  hD:=λm f z=>by
   show gF j5 [.list (bfQ (afL ap L) (.int 0) m),.int (m:Int)]=.ok (.bool false)
   unfold gF j5 aD4
   simp[dOf]}
 have e:=aL0 O
 have e:dD [.d (.int 0),.g 2 1 (cI 3 dN [.d (.list (L.map λr:Nat=>.int (r:Int))),.d (rdW ap ws)]),.g 1 2 (gF j5)]=.ok (.d (.tuple [.list (bfQ (afL ap L) (.int 0) N),.list (a8 (afL ap L) (bfQ (afL ap L) (.int 0) N) N)])):=e
 have s:a8 (afL ap L) (bfQ (afL ap L) (.int 0) N) N=(cG ap L N).map bL:=by
  unfold a8 cG
  rw[CF (EO T.len),AX];rfl
 rw[s]at e
 have l:=nV M.r K N
 have p:(roomsL ap L N).length=N:=by unfold roomsL;rw[AA,T.len]
 rw[l]at e
 have hi:aH (.list ((roomsL ap L N).map λq:Nat=>.int (q:Int)))=.ok ((roomsL ap L N).map λq:Nat=>.int (q:Int)):=bY (by rw[AA];ext)
 have b:∀ q∈roomsL ap L N,q < ap.length:=λq a=>by
  have:PyData.int (q:Int)∈bfQ (afL ap L) (.int 0) N:=by rw[l];exact AN.mpr ⟨q,a,rfl⟩
  obtain⟨C,h,e⟩:=lA M.r K this
  ext
 have k:=bK (fs:=stN 0) (fe:=e2 dIx (e2 dIx (rV 1) (eC (.int 1))) (rV 0)) (Y0:=[none,some (.d (rdW ap ws))]) (d:=λq:Nat=>.int (q:Int)) (g:=λq:Nat=>PyData.str (ws.getD q "")) (xs:=roomsL ap L N) λq a=>⟨_,rfl,by
  obtain⟨_,c⟩:=M.w (b q a)
  simp[-List.getD_eq_getElem?_getD,i1,c]⟩
 have v:(roomsL ap L N).map (λq:Nat=>PyData.str (ws.getD q ""))=(eK ap ws L N).map .str:=by unfold eK;rw[AX];rfl
 rw[v]at k
 have x0:dIx (.tuple [.list ((roomsL ap L N).map λq:Nat=>.int (q:Int)),.list ((cG ap L N).map bL)]) (.int 0)=.ok (.list ((roomsL ap L N).map λq:Nat=>.int (q:Int))):=rfl
 have x1:dIx (.tuple [.list ((roomsL ap L N).map λq:Nat=>.int (q:Int)),.list ((cG ap L N).map bL)]) (.int 1)=.ok (.list ((cG ap L N).map bL)):=rfl
 show oP [.d (rdW ap ws)]=.ok (.d (.tuple [.tuple ((cG ap L N).map bL),.tuple ((eK ap ws L N).map .str)]))
 generalize (cG ap L N).map bL=y at *
 generalize (eK ap ws L N).map PyData.str=B at *
 generalize (roomsL ap L N).map (λq:Nat=>PyData.int (q:Int))=A at *
 unfold oP yC
 simp[l5,hU,lF,n6,aFW,eJ,l6,eL,n,e,x0,x1,hi,cP,k,dOf]
end
section
variable{ap:L9 (L9 Nat)}{ws:L9 Str}{sg:Nat}{L:L9 Nat}{N:Nat}
theorem EqA.sy(h:EqA ap ws sg x y):EqA ap ws sg y x:=λw a=>(h w a).symm
theorem EqA.tr{z:Nat}(h:EqA ap ws sg x y)(k:EqA ap ws sg y z):EqA ap ws sg x z:=λw a=>(h w a).trans (k w a)
theorem EqA.on(h:EqA ap ws sg x y)(e:bA sg c=true):EqA ap ws sg (stN1 ap x c) (stN1 ap y c):=λw a=>h (c::w) λd b=>by
 rcases AW.mp b with q|q
 · simp_all
 · exact a d q
theorem Lk.iff(K:Lk ap ws sg L)(hx:x < ap.length)(c:y < ap.length):L.getD x 0=L.getD y 0↔EqA ap ws sg x y:=by
 obtain⟨_,_,b,f⟩:=K.at_ x hx
 obtain⟨_,_,a,d⟩:=K.at_ y c
 constructor
 .intro h;rw[<-h]at a;exact b.tr a.sy
 .intro h
  have e:EqA ap ws sg (L.getD x 0) (L.getD y 0):=b.sy.tr (h.tr a)
  rcases DR (L.getD x 0) (L.getD y 0)with q|q|q
  · exact absurd e.sy (d _ q)
  · exact q
  · exact absurd e (f _ q)
theorem Lk.idem(K:Lk ap ws sg L)(hx:x < ap.length):L.getD (L.getD x 0) 0=L.getD x 0:=by
 have h:=K.at_ x hx
 exact((K.iff hx (CW h.2.1 hx)).mpr h.2.2.1).symm
theorem p8(T:Lst ap ws L N):(roomsL ap L N).length=N:=by unfold roomsL;rw[AA,T.len]
theorem zQ(M:Rdr ap sg)(K:Lk ap ws sg L):∀ q∈roomsL ap L N,q < ap.length:=λq a=>by
 have:PyData.int (q:Int)∈bfQ (afL ap L) (.int 0) N:=by rw[nV M K];exact AN.mpr ⟨q,a,rfl⟩
 obtain⟨b,h,e⟩:=lA M K this
 ext
theorem rP{after:Dz->L9 Dz}{x y:Dz}(i:(bfQ after x0 n).length<=n)(hx:x∈bfQ after x0 n)(g:y∈after x):y∈bfQ after x0 n:=by
 obtain⟨m,d⟩:=BX hx
 have b:=(AD.mp d).1
 have a:m < n:=A3 b i
 by_cases h:m < (bfQ after x0 m).length
 .have:=lP (j8 (B7 a)) h d
  have e:=nE this
  have c:y∈bfQ after x0 (m+1):=by rw[e];exact mF _ g
  exact(j8 (show m+1<=n by ext)).subset c
 .exfalso
  have f:∀ k,(bfQ after x0 (m+k))=bfQ after x0 m:=by
   intro k
   induction k with
   | zero=>rfl
   | succ k ih=>
    have:(bfQ after x0 (m+k))[m+k]? = none:=by rw[ih];exact C7 (by ext)
    rw[<-Nat.add_assoc,bfQ,this]
    exact ih
  obtain⟨k,rfl⟩:=FX (B7 a)
  ext
theorem aMC(M:Rdr ap sg)(K:Lk ap ws sg L)(T:Lst ap ws L N)(hi:i < N)(n:bA sg c=true) :
  stN1 (cG ap L N) i c < N/\(roomsL ap L N).getD (stN1 (cG ap L N) i c) 0=L.getD (stN1 ap ((roomsL ap L N).getD i 0) c) 0:=by
 have m:=p8 T
 have k:(roomsL ap L N)[i]? = some ((roomsL ap L N).getD i 0):=by rw[AL,AI (by ext)];rfl
 have g:=zQ M K _ (AG k)
 generalize p:(roomsL ap L N).getD i 0=q at *
 have l:=nV M K N
 have d:(bfQ (afL ap L) (.int 0) N)[i]? = some (.int (q:Int)):=by rw[l,AC,k];rfl
 obtain⟨e1,r⟩:=eD M g n
 have o:PyData.int (L.getD (stN1 ap q c) 0:Int)∈afL ap L (.int (q:Int)):=by rw[nU];exact AN.mpr ⟨_,AG e1,rfl⟩
 have f:=rP (EO T.len) (AG d) o
 have b:(cG ap L N).getD i []=(afL ap L (.int (q:Int))).map (nrQ (bfQ (afL ap L) (.int 0) N)):=by
  rw[AL]
  unfold cG
  rw[AC,d];rfl
 have h:stN1 (cG ap L N) i c=nrQ (bfQ (afL ap L) (.int 0) N) (.int (L.getD (stN1 ap q c) 0:Int)):=by
  unfold stN1
  rw[b,AL,AC,nU,AC,e1];rfl
 have a:=oZ f
 rw[h]
 generalize nrQ (bfQ (afL ap L) (.int 0) N) (.int (L.getD (stN1 ap q c) 0:Int))=j at *
 have e:=(AD.mp a).1
 rw[T.len]at e
 refine⟨e,?_⟩
 rw[l,AC]at a
 cases z:(roomsL ap L N)[j]? with
 | none=>rw[z]at a;cases a
 | some v=>
  rw[z]at a
  have:PyData.int (v:Int)=.int (L.getD (stN1 ap q c) 0:Int):=BK a
  injection this with this
  rw[AL,z]
  show v=_
  ext
theorem aUB(M:Rdw ap ws sg)(K:Lk ap ws sg L)(T:Lst ap ws L N):Rdw (cG ap L N) (eK ap ws L N) sg:=by
 have a:(cG ap L N).length=N:=by unfold cG;rw[AA,T.len]
 have n1:1<=N:=by
  have:=T.len
  cases N with
  | zero=>simp[bfQ]at this
  | succ n=>ext
 have g:=T.le
 have n2:=M.r.n2
 refine⟨⟨by ext,by ext,M.r.s1,M.r.s3,λr hr=>?_⟩,?_,λw h=>?_⟩
 .obtain ⟨x,d,rfl⟩:=AN.mp hr
  obtain⟨q,b,rfl⟩:=lA M.r K d
  refine⟨by rw[AA,nU,AA,(M.r.at b).2.1],λj f=>?_⟩
  obtain⟨y,e,rfl⟩:=AN.mp f
  have c:=oZ (rP (EO T.len) d e)
  have:=(AD.mp c).1
  rw[T.len]at this
  rw[a];exact this
 .unfold eK;rw[AA,p8 T,a]
 .obtain ⟨q,b,rfl⟩:=AN.mp h
  exact(M.w (zQ M.r K q b)).1
theorem aUC(M:Rdr ap sg)(K:Lk ap ws sg L)(T:Lst ap ws L N):∀ (w:L9 Nat) {i x:Nat},Sgs sg w->i < N->x < ap.length->(roomsL ap L N).getD i 0=L.getD x 0->b9 (cG ap L N) i w < N/\(roomsL ap L N).getD (b9 (cG ap L N) i w) 0=L.getD (b9 ap x w) 0
 | [],_,_,_,hi,_,h=>⟨hi,h⟩
 | c::t,i,x,hs,hi,hx,h=>by
  have hc:=hs c AU
  obtain⟨h1,h2⟩:=aMC M K T hi hc
  have a:=(eD M hx hc).2
  have hr:=K.at_ x hx
  have b:L.getD x 0 < ap.length:=CW hr.2.1 hx
  have e:L.getD (stN1 ap ((roomsL ap L N).getD i 0) c) 0=L.getD (stN1 ap x c) 0:=by
   rw[h]
   exact(K.iff (eD M b hc).2 a).mpr (hr.2.2.1.sy.on hc)
  exact aUC M K T t (λc hc=>hs c (AS _ hc)) h1 a (h2.trans e)
theorem aV0(M:Rdw ap ws sg)(K:Lk ap ws sg L)(T:Lst ap ws L N){w:L9 Nat}(a:Sgs sg w)(hi:i < N)(hx:x < ap.length)(h:(roomsL ap L N).getD i 0=L.getD x 0) :
  (eK ap ws L N).getD (b9 (cG ap L N) i w) ""=ws.getD (b9 ap x w) "":=by
 obtain⟨h1,h2⟩:=aUC M.r K T w a hi hx h
 have b:=p8 T
 have d:(roomsL ap L N)[b9 (cG ap L N) i w]? = some ((roomsL ap L N).getD (b9 (cG ap L N) i w) 0):=by rw[AL,AI (by ext)];rfl
 have e:(eK ap ws L N).getD (b9 (cG ap L N) i w) ""=ws.getD ((roomsL ap L N).getD (b9 (cG ap L N) i w) 0) "":=by
  rw[AL]
  unfold eK
  rw[AC,d];rfl
 rw[e,h2]
 have:=(K.at_ _ (yO M.r w a hx)).2.2.1 [] (λc f=>by simp at f)
 exact this.symm
end
section
variable{after1 after2:Dz->L9 Dz}{x1 x2:Dz}{Rl:Dz->Dz->Prop}
theorem aMD(h1:∀ x y x' y',Rl x y->Rl x' y'->(x=x'↔y=y')){ps:L9 (Dz×Dz)}{q:Dz×Dz}(b:∀ p∈ps,Rl p.1 p.2)(a:Rl q.1 q.2):q.1∈ps.map (·.1)↔q.2∈ps.map (·.2):=by ext
theorem yP(h1:∀ x y x' y',Rl x y->Rl x' y'->(x=x'↔y=y')):∀ (qs ps:L9 (Dz×Dz)),(∀ p∈ps,Rl p.1 p.2)->(∀ q∈qs,Rl q.1 q.2)->∃ ps':L9 (Dz×Dz),adA (ps.map (·.1)) (qs.map (·.1))=ps'.map (·.1)/\adA (ps.map (·.2)) (qs.map (·.2))=ps'.map (·.2)/\∀ p∈ps',Rl p.1 p.2
 | [],ps,hp,_=>⟨ps,rfl,rfl,hp⟩
 | q::qs,ps,hp,hq=>by
  have hq0:=hq q AU
  have e:=aMD h1 hp hq0
  by_cases h:q.1∈ps.map (·.1)
  .obtain ⟨ps',a,b,c⟩:=yP h1 qs ps hp λy d=>hq y (AS _ d)
   refine⟨ps',?_,?_,c⟩
   .show adA (adQ _ _) _=_;rw[kM h];exact a
   .show adA (adQ _ _) _=_;rw[kM (e.mp h)];exact b
  .obtain ⟨ps',a,b,c⟩:=yP h1 qs (ps++[q]) (λy d=>by
    rcases A7.mp d with z|z
    · exact hp y z
    · rw [AK.mp z]; exact hq0) λy d => hq y (AS _ d)
   rw[A8]at a b
   refine⟨ps',?_,?_,c⟩
   .show adA (adQ _ _) _=_;rw[i9 h];exact a
   .show adA (adQ _ _) _=_;rw[i9 λz=>h (e.mpr z)];exact b
theorem aQS(h0:Rl x1 x2)(e:∀ x y,Rl x y->∃ qs:L9 (Dz×Dz),after1 x=qs.map (·.1)/\after2 y=qs.map (·.2)/\∀ q∈qs,Rl q.1 q.2)(h1:∀ x y x' y',Rl x y->Rl x' y'->(x=x'↔y=y'))(n:Nat):∃ ps:L9 (Dz×Dz),bfQ after1 x1 n=ps.map (·.1)/\bfQ after2 x2 n=ps.map (·.2)/\∀ p∈ps,Rl p.1 p.2:=by
 induction n with
 | zero=>exact⟨[(x1,x2)],rfl,rfl,λp i=>by rw[AK.mp i];exact h0⟩
 | succ n ih=>
  obtain⟨ps,a,b,c⟩:=ih
  rw[bfQ,bfQ,a,b,AC,AC]
  cases q:ps[n]? with
  | none=>exact⟨ps,rfl,rfl,c⟩
  | some p=>
   obtain⟨qs,e1,e2,f⟩:=e p.1 p.2 (c p (AG q))
   obtain⟨d,g,j,h⟩:=yP h1 qs ps c f
   exact⟨d,by show adA _ (after1 p.1)=_;rw[e1];exact g,by show adA _ (after2 p.2)=_;rw[e2];exact j,h⟩
theorem aET(h1:∀ x y x' y',Rl x y->Rl x' y'->(x=x'↔y=y')){q:Dz×Dz}(a:Rl q.1 q.2):∀ (ps:L9 (Dz×Dz)),(∀ p∈ps,Rl p.1 p.2)->nrQ (ps.map (·.1)) q.1=nrQ (ps.map (·.2)) q.2
 | [],_=>rfl
 | p::t,hp=>by
  have ih:=aET h1 a t λy b=>hp y (AS _ b)
  have e:=h1 _ _ _ _ (hp p AU) a
  unfold nrQ at ih ⊢
  ext
end
section
variable{r1 r2:L9 (L9 Nat)}{w1 w2:L9 Str}{sg:Nat}{L1 L2:L9 Nat}{N1 N2:Nat}
def EqX(r1 r2:L9 (L9 Nat))(w1 w2:L9 Str)(sg x y:Nat):Prop:=∀ w,Sgs sg w->w1.getD (b9 r1 x w) ""=w2.getD (b9 r2 y w) ""
theorem EqX.on(h:EqX r1 r2 w1 w2 sg x y)(e:bA sg c=true):EqX r1 r2 w1 w2 sg (stN1 r1 x c) (stN1 r2 y c):=λw a=>h (c::w) λd b=>by
 rcases AW.mp b with q|q
 · ext
 · exact a d q
def RlX(r1 r2:L9 (L9 Nat))(w1 w2:L9 Str)(sg:Nat)(L1 L2:L9 Nat)(a b:Dz):Prop:=∃ x y:Nat,a=.int (x:Int)/\b=.int (y:Int)/\x < r1.length/\y < r2.length/\L1.getD x 0=x/\L2.getD y 0=y/\EqX r1 r2 w1 w2 sg x y
theorem aEU(M:Rdr r1 sg)(hx:x < r1.length):r1.getD x []=(range sg).map λk=>stN1 r1 x (97+k):=by
 have hr:=M.at hx
 refine D6 λk=>?_
 rw[AC]
 by_cases a:k < sg
 .have:=(eD M hx (c:=97+k) (by unfold bA;exact AY (by ext))).1
  ext
 .grind
theorem aJP(M1:Rdr r1 sg)(M2:Rdr r2 sg)(j:Lk r1 w1 sg L1)(g:Lk r2 w2 sg L2):∀ a b,RlX r1 r2 w1 w2 sg L1 L2 a b->∃ qs:L9 (Dz×Dz),afL r1 L1 a=qs.map (·.1)/\afL r2 L2 b=qs.map (·.2)/\∀ q∈qs,RlX r1 r2 w1 w2 sg L1 L2 q.1 q.2:=by
 rintro _ _ ⟨x,y,rfl,rfl,hx,hy,_,_,h⟩
 refine⟨(range sg).map λk=>(.int (L1.getD (stN1 r1 x (97+k)) 0:Int),.int (L2.getD (stN1 r2 y (97+k)) 0:Int)),?_,?_,λq m=>?_⟩
 .rw[nU,aEU M1 hx,AX,AX];rfl
 .rw[nU,aEU M2 hy,AX,AX];rfl
 .obtain ⟨k,n,rfl⟩:=AN.mp m
  have d:bA sg (97+k)=true:=by unfold bA;exact AY (by have:=BF.mp n;ext)
  have c:=(eD M1 hx d).2
  have e:=(eD M2 hy d).2
  have l:=j.at_ _ c
  have i:=g.at_ _ e
  refine⟨_,_,rfl,rfl,CW l.2.1 c,CW i.2.1 e,j.idem c,g.idem e,λw f=>?_⟩
  rw[<-l.2.2.1 w f,<-i.2.2.1 w f]
  exact h.on d w f
theorem aQT(f:Lk r1 w1 sg L1)(d:Lk r2 w2 sg L2):∀ a b a' b',RlX r1 r2 w1 w2 sg L1 L2 a b->RlX r1 r2 w1 w2 sg L1 L2 a' b'->(a=a'↔b=b'):=by
 rintro _ _ _ _ ⟨x,y,rfl,rfl,hx,hy,fx,fy,h⟩ ⟨x',y',rfl,rfl,hx',hy',fx',fy',h'⟩
 constructor
 .intro e
  injection e with e
  obtain rfl:x=x':=by ext
  have:EqA r2 w2 sg y y':=λw c=>(h w c).symm.trans (h' w c)
  rw[<-fy,<-fy',(d.iff hy hy').mpr this]
 .intro e
  injection e with e
  obtain rfl:y=y':=by ext
  have:EqA r1 w1 sg x x':=λw c=>(h w c).trans (h' w c).symm
  rw[<-fx,<-fx',(f.iff hx hx').mpr this]
theorem aGH(M1:Rdw r1 w1 sg)(M2:Rdw r2 w2 sg)(f:Lk r1 w1 sg L1)(i:Lk r2 w2 sg L2)(k:Lst r1 w1 L1 N1)(l:Lst r2 w2 L2 N2)(h:EqX r1 r2 w1 w2 sg 0 0) :
  N1=N2/\cG r1 L1 N1=cG r2 L2 N2/\eK r1 w1 L1 N1=eK r2 w2 L2 N2:=by
 have z:=(f.at_ 0 M1.r.n1).2.1
 have B:=(i.at_ 0 M2.r.n1).2.1
 have v:RlX r1 r2 w1 w2 sg L1 L2 (.int 0) (.int 0):=⟨0,0,rfl,rfl,M1.r.n1,M2.r.n1,by ext,by ext,h⟩
 have j:=aJP M1.r M2.r f i
 have h1:=aQT (w1:=w1) (w2:=w2) f i
 have o:=aQS v j h1
 have m:∀ n,(bfQ (afL r1 L1) (.int 0) n).length=(bfQ (afL r2 L2) (.int 0) n).length:=λn=>by
  obtain⟨ps,a,b,_⟩:=o n
  simp_all
 have s:N1=N2:=by
  rcases DR N1 N2 with q|q|q
  .have:=l.on N1 q
   have a:=k.len
   simp_all
  .exact q
  .have:=k.on N2 q
   have a:=l.len
   simp_all
 subst s
 obtain⟨ps,a,b,c⟩:=o N1
 refine⟨rfl,?_,?_⟩
 .unfold cG
  rw[a,b,AX,AX]
  refine BA λp g=>?_
  obtain⟨qs,e1,e2,u⟩:=j p.1 p.2 (c p g)
  show(afL r1 L1 p.1).map _=(afL r2 L2 p.2).map _
  rw[e1,e2,AX,AX]
  refine BA λq d=>?_
  exact aET h1 (u q d) ps c
 .unfold eK roomsL
  rw[a,b,AX,AX,AX,AX]
  refine BA λp g=>?_
  obtain⟨x,y,e1,e2,w,A,_,_,e⟩:=c p g
  show w1.getD (match p.1 with | .int q=>q.toNat|_=>0) ""=w2.getD (match p.2 with | .int q=>q.toNat|_=>0) ""
  rw[e1,e2]
  show w1.getD ((x:Int)).toNat ""=w2.getD ((y:Int)).toNat ""
  rw[show((x:Int)).toNat=x by ext,show((y:Int)).toNat=y by ext]
  exact e [] λc t=>by simp at t
end
section
variable{ap r1 r2:L9 (L9 Nat)}{ws w1 w2:L9 Str}{sg:Nat}{L L1 L2:L9 Nat}{N N1 N2:Nat}
theorem aQU(T:Lst ap ws L N):0 < N:=by
 have:=T.len
 cases N with
 | zero=>simp[bfQ]at this
 | succ n=>ext
theorem aGI(M:Rdr ap sg)(K:Lk ap ws sg L)(T:Lst ap ws L N):(roomsL ap L N).getD 0 0=L.getD 0 0:=by
 have h:=K.at_ 0 M.n1
 have e:(roomsL ap L N)[0]? = some 0:=by
  have:=pY (afL ap L) (.int 0) N
  rw[nV M K,AC]at this
  ext
 ext
theorem xC(M:Rdw ap ws sg)(K:Lk ap ws sg L)(T:Lst ap ws L N):EqX (cG ap L N) ap (eK ap ws L N) ws sg 0 0:=λw a=>
 aV0 M K T a (aQU T) M.r.n1 (aGI M.r K T)
theorem aJQ(M1:Rdw r1 w1 sg)(M2:Rdw r2 w2 sg)(f:Lk r1 w1 sg L1)(d:Lk r2 w2 sg L2)(c:Lst r1 w1 L1 N1)(e:Lst r2 w2 L2 N2) :
  (cG r1 L1 N1=cG r2 L2 N2/\eK r1 w1 L1 N1=eK r2 w2 L2 N2)↔EqX r1 r2 w1 w2 sg 0 0:=by
 constructor
 .rintro ⟨h1,h2⟩ w hw
  have a:=xC M1 f c w hw
  have b:=xC M2 d e w hw
  simp_all
 .intro h
  exact(aGH M1 M2 f d c e h).2
end
end Mc
variable{k:Nat}
namespace Zp
end Zp
namespace Fl
end Fl
variable{x:L9 Nat}{zs:L9 (L9 Nat)}{most:Nat}
namespace Mc
open Fl
variable{rs:L9 Rw}
def afW(rs:L9 Rw)(sg:Nat)(x:Dz):L9 Dz:=(range sg).map (aCE rs x)
def bfW(rs:L9 Rw)(sg n:Nat):L9 Dz:=bfQ (afW rs sg) (aG rs []) n
def adZ(rs:L9 Rw)(zs:L9 (L9 Nat))(z:L9 Nat):L9 (L9 Nat):=if aG rs z∈zs.map (aG rs)then zs else zs++[z]
def cH(sg:Nat)(z:L9 Nat):L9 (L9 Nat):=(range sg).map λk=>z++[97+k]
def zsW(rs:L9 Rw)(sg:Nat):Nat->L9 (L9 Nat)
 | 0=>[[]]
 | n+1=>match (zsW rs sg n)[n]? with
  | some z=>(cH sg z).foldl (adZ rs) (zsW rs sg n)
  | none=>zsW rs sg n
theorem o5(rs:L9 Rw)(zs:L9 (L9 Nat))(z:L9 Nat):(adZ rs zs z).map (aG rs)=adQ (zs.map (aG rs)) (aG rs z):=by
 unfold adZ adQ
 ext
theorem p9(rs:L9 Rw)(l:L9 (L9 Nat)):∀ zs:L9 (L9 Nat),(l.foldl (adZ rs) zs).map (aG rs)=adA (zs.map (aG rs)) (l.map (aG rs)):=by
 induction l with
 | nil=>intro zs;rfl
 | cons z t ih=>intro zs;rw[DN,ih,o5];rfl
theorem adZ_mem(h:x∈adZ rs zs z):x∈zs\/x=z:=by
 unfold adZ at h
 ext
theorem adZs_mem(l:L9 (L9 Nat)):∀ {zs:L9 (L9 Nat)},x∈l.foldl (adZ rs) zs->x∈zs\/x∈l:=by
 induction l with
 | nil=>intro zs h;exact .inl h
 | cons z t ih=>
  intro zs h
  rcases ih (zs:=adZ rs zs z) h with h|h
  .rcases adZ_mem h with h|h
   · ext
   · ext
  .grind
theorem aQV(rs:L9 Rw)(zs:L9 (L9 Nat))(z:L9 Nat):zs <+: adZ rs zs z:=by
 unfold adZ
 ext
theorem aME(rs:L9 Rw)(l:L9 (L9 Nat)):∀ zs:L9 (L9 Nat),zs <+: l.foldl (adZ rs) zs:=by
 induction l with
 | nil=>exact λzs=>DF _
 | cons z t ih=>exact λzs=>(aQV rs zs z).trans (ih _)
theorem aCL(M:Mach rs sg)(S:aQ sg z):(cH sg z).map (aG rs)=afW rs sg (aG rs z):=by
 unfold cH afW
 rw[AX]
 exact BA λk a=>(yL M S (BF.mp a)).symm
structure ZsOk(rs:List Rw)(sg n:Nat)(zs:List (List Nat)):Prop where
 map:zs.map (aG rs)=bfW rs sg n
 ok:∀ z∈zs,aQ sg z/\z.length<=n
theorem aQW(S:aQ sg z)(b:z.length<=n)(c:n < 900)(h:x∈cH sg z):aQ sg x/\x.length<=n+1:=by
 obtain⟨k,a,rfl⟩:=AN.mp h
 exact⟨p5 S (BF.mp a) (by ext),by simp;ext⟩
theorem jI(M:Mach rs sg):∀ n,n<=900->ZsOk rs sg n (zsW rs sg n):=by
 intro n
 induction n with
 | zero=>exact λ_=>⟨rfl,λz a=>by rw[AK.mp a];exact⟨⟨by simp,λc d=>by simp at d⟩,by simp⟩⟩
 | succ n ih=>
  intro f
  obtain⟨h1,h2⟩:=ih (by ext)
  unfold bfW at h1
  have e:(bfQ (afW rs sg) (aG rs []) n)[n]? = ((zsW rs sg n)[n]?).map (aG rs):=by rw[<-h1,AC]
  cases q:(zsW rs sg n)[n]? with
  | none=>
   rw[q]at e
   refine⟨?_,λz a=>?_⟩
   .unfold bfW
    rw[zsW,bfQ,q,e];exact h1
   .rw[zsW,q]at a
    ext
  | some z=>
   rw[q]at e
   have a:=h2 z (AG q)
   refine⟨?_,λx b=>?_⟩
   .unfold bfW
    rw[zsW,bfQ,q,e]
    simp only[C8]
    rw[p9,h1,aCL M a.1]
   .rw[zsW,q]at b
    rcases adZs_mem _ b with b|b
    · ext
    · exact aQW a.1 a.2 (by ext) b
structure EndW(rs:List Rw)(sg most N:Nat):Prop where
 on:∀ m,m < N->m < (bfW rs sg m).length/\(bfW rs sg m).length<=most
 off:(bfW rs sg N).length<=N\/most < (bfW rs sg N).length
theorem aMF{P:Nat->Prop}:∀ K:Nat,P K->∃ n,n<=K/\P n/\∀ m,m < n->¬ P m:=by
 intro K
 induction K using Nat.strongRecOn with
 | _ K ih=>
  ext
theorem aEV(rs:L9 Rw)(sg most:Nat):∃ N,N<=most/\EndW rs sg most N:=by
 obtain⟨n,h1,h2,b⟩:=aMF (P:=λn=>(bfW rs sg n).length<=n\/most < (bfW rs sg n).length) most (by ext)
 exact⟨n,h1,λm a=>by have:=b m a;ext,h2⟩
theorem EndW.full(E:EndW rs sg most N)(h:(bfW rs sg N).length<=most):(bfW rs sg N).length=N:=by
 rcases E.off with q|q
 .cases N with
  | zero=>have:(bfW rs sg 0).length=1:=rfl;ext
  | succ n=>
   have h1:=(E.on n (by ext)).1
   have h2:(bfW rs sg n).length<=(bfW rs sg (n+1)).length:=(dQ _ _ n).length_le
   ext
 .omega
def aW4(rs:L9 Rw)(sg:Nat):Sq where
 after:=afW rs sg
 x0:=aG rs []
 stop fs _:=decide (200 < fs.length)
 k1:=4
 k2:=1
 G:=cI 2 cU [.d (.list ((range sg).map (eZ rs)))]
 D:=cI 2 dZ []
theorem zR(M:Mach rs sg)(a:n<=900){x:Dz}(h:x∈bfW rs sg n):∃ z,aQ sg z/\x=aG rs z:=by
 obtain⟨h1,h2⟩:=jI M n a
 ext
theorem nW(M:Mach rs sg)(S:aQ sg z):eE (aG rs z)=true:=by
 obtain⟨a,b⟩:=aQB M S
 exact aQC a b
theorem aEW(M:Mach rs sg)(E:EndW rs sg most N)(c:1<=most):(bfW rs sg N).length<=most+3:=by
 cases N with
 | zero=>show 1<=most+3;ext
 | succ n=>
  obtain⟨h1,h2⟩:=E.on n (by ext)
  have a:(bfQ (afW rs sg) (aG rs []) n)[n]? = some (bfQ (afW rs sg) (aG rs []) n)[n]:=AI h1
  have b:=aEG (afW rs sg (bfQ (afW rs sg) (aG rs []) n)[n]) (bfQ (afW rs sg) (aG rs []) n)
  rw[<-nE a]at b
  have d:(afW rs sg (bfQ (afW rs sg) (aG rs []) n)[n]).length=sg:=by unfold afW;simp
  have:=M.sg3
  unfold bfW at h2 ⊢
  ext
theorem aQX(M:Mach rs sg)(E:EndW rs sg 200 N)(hN:N<=200):(aW4 rs sg).ok N where
 on m h:=⟨(E.on m h).1,A5 (by have:=(E.on m h).2;unfold bfW at this;show ¬ 200 < (bfQ (afW rs sg) (aG rs []) m).length;ext)⟩
 off:=E.off.imp id λh=>AY h
 key:=.inl λx b=>by
  obtain⟨z,S,rfl⟩:=zR M (by ext) (show x∈bfW rs sg N from b)
  exact nW M S
 len:=by have:=aEW M E (by ext);show(bfW rs sg N).length<=_;ext
 hk1:=by show 4<=12;decide
 hk2:=by show 1<=12;decide
 hG m x hm b:=by
  obtain⟨z,S,rfl⟩:=zR M (show N<=900 by ext) (AG b)
  have f:=bK (fs:=stN 0) (fe:=eA (aI 2 gO (aA (vV 1) (aA (vV 0) aC)))) (Y0:=[none,some (.d (aG rs z))]) (d:=eZ rs) (g:=aCE rs (aG rs z)) (xs:=range sg) λk a=>by
   refine⟨_,rfl,?_⟩
   have a:=BF.mp a
   have:=aCA M S (c:=97+k) (by unfold bA;exact AY (by ext))
   rw[show 97+k - 97=k by ext,<-yL M S a]at this
   simp[this]
  have hi:=bY (xs:=(range sg).map (eZ rs)) (by have:=M.sg3;simp;ext)
  have e:(afW rs sg (aG rs z)).length=sg:=by unfold afW;simp
  have i:=M.sg3
  refine⟨⟨.list (afW rs sg (aG rs z)),?_,bY (by ext)⟩,by show(afW rs sg (aG rs z)).length<=_;ext⟩
  show cI 2 cU [.d (.list ((range sg).map (eZ rs)))] [aG rs z]=_
  unfold cI cU
  simp[hi,cP,f,dOf]
  rfl
 hD m hm e:=by
  show cI 2 dZ [] [.list (bfW rs sg m),.int (m:Int)]=.ok (.bool (decide (200 < (bfW rs sg m).length)))
  unfold cI dZ
  simp[c7,dOf]
  ext
def aGJ(rs:L9 Rw)(sg N:Nat):Dz:=.tuple [.tuple (a8 (afW rs sg) (bfW rs sg N) N),.tuple ((zsW rs sg N).map λz=>.str (bF rs z))]
theorem aJR(M:Mach rs sg)(E:EndW rs sg 200 N)(hN:N<=200):c6 [.d (aE rs)]=if 200 < (bfW rs sg N).length then .ex ⟨"TooMany",[]⟩else .ok (.d (aGJ rs sg N)):=by
 have O:=aQX M E hN
 have e:=aL0 O
 obtain⟨r,t,m,hr⟩:=M.cons
 have b:eP [.d (aE rs)]=.ok (.d (.int sg)):=by rw[m,aD9,hr]
 have a:=gK (n:=sg) (by have:=M.sg3;ext)
 have l:=aTV M [some (.d (aE rs)),none,none,none,none] rfl
 rw[show cP [none,some 0] [some (.d (aE rs)),none,none,none,none]=[none,some (.d (aE rs))]from rfl]at l
 have o:=aVO M
 have Zq:=jI M N (by ext)
 have f:=bK (fs:=stN 0) (fe:=eA (aI 2 dE (aA (vV 1) (aA (vV 0) aC)))) (Y0:=[none,some (.d (aE rs))]) (d:=aG rs) (g:=λz=>.str (bF rs z)) (xs:=zsW rs sg N) λz s=>by
  refine⟨_,rfl,?_⟩
  have:=aT1 M (Zq.ok z s).1
  simp[this]
 rw[Zq.map]at f
 have u:=aEW M E (by ext)
 have j:=bY (xs:=bfW rs sg N) (by ext)
 have e:dD [.d (aG rs []),.g 4 1 (cI 2 cU [.d (.list ((range sg).map (eZ rs)))]),.g 1 2 (cI 2 dZ [])]=.ok (.d (.tuple [.list (bfW rs sg N),.list (a8 (afW rs sg) (bfW rs sg N) N)])):=e
 generalize c:a8 (afW rs sg) (bfW rs sg N) N=i at e
 have q:i.length<=16777216:=by rw[<-c];unfold a8;rw[AA,BC];ext
 have p:dIx (.tuple [.list (bfW rs sg N),.list i]) (.int 0)=.ok (.list (bfW rs sg N)):=rfl
 have i1:dIx (.tuple [.list (bfW rs sg N),.list i]) (.int 1)=.ok (.list i):=rfl
 have v:(zsW rs sg N).length<=16777216:=by
  have:((zsW rs sg N).map (aG rs)).length<=16777216:=by rw[Zq.map];ext
  rwa [AA]at this
 by_cases h:200 < (bfW rs sg N).length
 .have k:(200:Int) < ((bfW rs sg N).length:Int):=by ext
  rw[AJ h]
  unfold c6 nQ
  simp[b,a,l,o,l5,hU,lF,n6,eJ,l6,e,dOf,p,i1,c7,k,oK,few,cP]
 .have k:¬ (200:Int) < ((bfW rs sg N).length:Int):=by ext
  rw[AM h]
  unfold c6 nQ aGJ
  rw[c]
  simp[b,a,l,o,l5,hU,lF,n6,eJ,l6,e,dOf,p,i1,c7,k,j,cP,f]
def wyρ(rs:L9 Rw)(sg most:Nat)(zs:L9 (L9 Nat))(gs:L9 Dz)(u v w x:O9 A):Sg:=[some (.d (aE rs)),some (.d (.int (sg:Int))),some (.d (.int (most:Int))),some (.l (zs.map stD)),some (.m (fN (zs.map (aG rs)))),some (.l gs),u,v,w,x]
theorem aEX(s1:1<=sg)(a:sg<=3):(sgT sg).cps.toList=(range sg).map (97 + ·):=by
 rw[aEJ s1 a]
 rcases(by omega:sg=1\/sg=2\/sg=3)with rfl|rfl|rfl<;>rfl
theorem aUD{most:Nat}{v w x:O9 A}(M:Mach rs sg)(hz:zs[gs.length]? = some z)(nd:(zs.map (aG rs)).Nodup)(U:∀ y∈zs,aQ sg y)(hl:z.length < 900)(S:zs.length<=1000) :
  ∃ v' w' x',gL (stN 7) wyF ((range sg).map λk:Nat=>.str ⟨#[97+k]⟩) (wyρ rs sg most zs gs (some (.l [])) v w x)=.ok (.nx (wyρ rs sg most ((cH sg z).foldl (adZ rs) zs) gs (some (.l (((afW rs sg (aG rs z)).map (nrQ (((cH sg z).foldl (adZ rs) zs).map (aG rs)))).map λj:Nat=>.int (j:Int)))) v' w' x')):=by
 have X:=M.sg3
 have Sz:=U z (AG hz)
 obtain⟨Y',W,v',w',x',T⟩:=dP (fs:=stN 7) (fb:=wyF) (d:=λk:Nat=>PyData.str ⟨#[97+k]⟩) (xs:=range sg) (Y:=wyρ rs sg most zs gs (some (.l [])) v w x)
  (λi Y=>∃ v' w' x',Y=wyρ rs sg most (((cH sg z).take i).foldl (adZ rs) zs) gs (some (.l ((((cH sg z).take i).map λy=>nrQ ((((cH sg z).take i).foldl (adZ rs) zs).map (aG rs)) (aG rs y)).map λj:Nat=>.int (j:Int)))) v' w' x') ⟨v,w,x,rfl⟩ λi k Y hi P=>by
  obtain⟨v',w',x',e⟩:=P
  have a:=(AD.mp hi).1
  rw[A4]at a
  rw[B1 a]at hi
  cases hi
  have f:(cH sg z)[i]? = some (z++[97+i]):=by unfold cH;rw[AC,B1 a];rfl
  have Sy:aQ sg (z++[97+i]):=p5 Sz a (by ext)
  have V:(cH sg z).take (i+1)=(cH sg z).take i++[z++[97+i]]:=by rw[B9,f];rfl
  have G:∀ x∈((cH sg z).take i).foldl (adZ rs) zs,aQ sg x:=λx b=>by
   rcases adZs_mem _ b with h|h
   .exact U x h
   .obtain ⟨k,n,rfl⟩:=AN.mp (FG h)
    exact p5 Sz (BF.mp n) (by ext)
  have u:∀ y∈(cH sg z).take i,aG rs y∈(((cH sg z).take i).foldl (adZ rs) zs).map (aG rs):=λy f=>by
   rw[p9];exact mF _ (CI f)
  have C:((((cH sg z).take i).foldl (adZ rs) zs).map (aG rs)).Nodup:=by rw[p9];exact wV _ nd
  have K:(((cH sg z).take i).foldl (adZ rs) zs)[gs.length]? = some z:=gV (aME rs _ zs) hz
  have D:(((cH sg z).take i).foldl (adZ rs) zs).length<=1003:=by
   have h1:=aEG (((cH sg z).take i).map (aG rs)) (zs.map (aG rs))
   rw[<-p9,AA,AA,AA,BC]at h1
   ext
  rw[V,EY,DN,HJ]
  generalize Z:((cH sg z).take i).foldl (adZ rs) zs=F at *
  have p:((cH sg z).take i++[z++[97+i]]).map (λy=>nrQ ((adZ rs F (z++[97+i])).map (aG rs)) (aG rs y))=((cH sg z).take i).map (λy=>nrQ (F.map (aG rs)) (aG rs y))++[nrQ ((adZ rs F (z++[97+i])).map (aG rs)) (aG rs (z++[97+i]))]:=by
   rw[A8,DJ]
   congr 1
   refine BA λy f=>?_
   rw[o5]
   exact oY (oX _ _) (u y f)
  rw[p]
  have I:=aJC M (z:=⟨(z++[97+i]).toArray⟩) (by simpa using Sy)
  simp only[List.toList_toArray]at I
  have t:dIx (.list (F.map stD)) (.int (gs.length:Int))=.ok (stD z):=iL (cY (by rw[AC,K];rfl))
  have r:bJ (stD z) (.str ⟨#[97+i]⟩)=.ok (.str ⟨(z++[97+i]).toArray⟩):=by
   unfold stD
   have N:z.length+1<=16777216:=by ext
   rw[aB4 (by show z.toArray.size+1<=16777216;rw[A6];exact N),show(⟨z.toArray⟩:Str)++(⟨#[97+i]⟩:Str)=⟨(z++[97+i]).toArray⟩by
    show(⟨z.toArray ++ #[97+i]⟩:Str)=_
    simp]
  have n:∀ x∈F.map (aG rs),eE x=true:=λx b=>by
   obtain⟨y,f,rfl⟩:=AN.mp b
   exact nW M (G y f)
  have g:=nW M Sy
  have s1:=aCC g n
  have O:((adZ rs F (z++[97+i])).map (aG rs)).Nodup:=by rw[o5];exact aJD C
  have m:=aEH O (y:=aG rs (z++[97+i])) (by rw[o5];exact tD _ _)
  have E:∀ x∈(adZ rs F (z++[97+i])).map (aG rs),eE x=true:=λx b=>by
   rw[o5]at b
   by_cases q:aG rs (z++[97+i])∈F.map (aG rs)
   .rw[kM q]at b;exact n x b
   .rw[i9 q]at b
    rcases A7.mp b with h|h
    · exact n x h
    · rw [AK.mp h]; exact g
  have B:=aCC g E
  have o:(fN (F.map (aG rs))).length<=16777216:=by rw[aEE,AA];ext
  have s:F.length < 16777216:=by ext
  have c:min i (cH sg z).length < 16777216:=by ext
  refine⟨wyρ rs sg most F gs (some (.l ((((cH sg z).take i).map λy=>nrQ (F.map (aG rs)) (aG rs y)).map λj:Nat=>.int (j:Int)))) (some (.d (.str ⟨#[97+i]⟩))) w' x',_,by rw[e];simp[wyρ],.inl ?_,some (.d (.str ⟨#[97+i]⟩)),some (.d (.str ⟨(z++[97+i]).toArray⟩)),some (.d (aG rs (z++[97+i]))),rfl⟩
  by_cases q:aG rs (z++[97+i])∈F.map (aG rs)
  .have L:=yH.mpr q
   have J:adZ rs F (z++[97+i])=F:=AJ q
   rw[J]at B m ⊢
   simp only[wyF,wyρ,aW,sW,sU,kJ,lH,jL,wL,wK,pT,jS,i5,A9,BE,R.bind_ok,c7,t,r,BJ,BS,BG,BR,Nat.reduceAdd,CU,I,oR,sY,s1,L,rE,HP,CY,D0,aBY,sX,aBZ,m,AA,BC,c]
   simp
  .have L:=uS q
   have Q:=aEF q
   have J:adZ rs F (z++[97+i])=F++[z++[97+i]]:=AM q
   rw[J]at B m ⊢
   rw[AA]at Q
   rw[A8,DJ]at B m
   simp only[wyF,wyρ,aW,sW,sU,kJ,lH,jL,wL,wK,pT,jS,i5,A9,BE,R.bind_ok,c7,t,r,BJ,BS,BG,BR,Nat.reduceAdd,CU,I,oR,sY,s1,L,rE,Bool.not_false,aLR,Q,o,s,sX,aBZ,B,m,AA,BC,c]
   simp[stD,s,B,m,c]
 have H:(cH sg z).take (range sg).length=cH sg z:=CF (by unfold cH;simp)
 rw[H]at T
 refine⟨v',w',x',?_⟩
 rw[W,T,<-aCL M Sz]
 simp only[AX]
 rfl
theorem aQY{most:Nat}{u v w x:O9 A}(M:Mach rs sg)(s:m < 900)(n:gs.length=m)(r:m < (bfW rs sg m).length)(p:(bfW rs sg m).length<=900) :
  ∃ y u' v' w' x',(bfW rs sg m)[m]? = some y/\wyB (wyρ rs sg most (zsW rs sg m) gs u v w x)=if most < (bfW rs sg (m+1)).length then .ok (.rt (.d .none))else .ok (.nx (wyρ rs sg most (zsW rs sg (m+1)) (gs++[jU (afW rs sg) (bfW rs sg (m+1)) y]) u' v' w' x')):=by
 have Zq:=jI M m (by ext)
 have Zq1:=jI M (m+1) (by ext)
 have o:(zsW rs sg m).length=(bfW rs sg m).length:=by rw[<-Zq.map,AA]
 have a:(zsW rs sg (m+1)).length=(bfW rs sg (m+1)).length:=by rw[<-Zq1.map,AA]
 have b:(zsW rs sg m)[m]? = some (zsW rs sg m)[m]:=AI (by ext)
 generalize (zsW rs sg m)[m]=z at b
 have Sz:=Zq.ok z (AG b)
 have i:(bfW rs sg m)[m]? = some (aG rs z):=by rw[<-Zq.map,AC,b];rfl
 have e1:zsW rs sg (m+1)=(cH sg z).foldl (adZ rs) (zsW rs sg m):=by rw[zsW,b]
 obtain⟨v',w',x',q⟩:=aUD (most:=most) (v:=v) (w:=w) (x:=x) M (by rw[n];exact b) (by rw[Zq.map];exact rL _ _ m) (λy i=>(Zq.ok y i).1) (by have:=Sz.2;ext) (by ext)
 rw[<-e1,Zq1.map]at q
 have g:dSl (.str "abc") none (some (sg:Int))=.ok (.str (sgT sg)):=aF9 (by decide)
 have hi:aH (.str (sgT sg))=.ok ((range sg).map λk:Nat=>.str ⟨#[97+k]⟩):=by
  rw[aB3 (by have:=aEK M.sg1 M.sg3;ext),aEX M.sg1 M.sg3,AX];rfl
 have f:((afW rs sg (aG rs z)).map (nrQ (bfW rs sg (m+1)))).length<=16777216:=by unfold afW;have:=M.sg3;simp;ext
 have e:gs.length < 16777216:=by ext
 refine⟨aG rs z,some (.l (((afW rs sg (aG rs z)).map (nrQ (bfW rs sg (m+1)))).map λj:Nat=>.int (j:Int))),v',w',x',i,?_⟩
 simp only[wyρ]at q
 have t:decide ((most:Int) < ((bfW rs sg (m+1)).length:Int))=decide (most < (bfW rs sg (m+1)).length):=by
  simp_all
 have c:(afW rs sg (aG rs z)).length<=16777216:=by simpa using f
 simp only[wyB,wyρ,aW,pU,sV,i5,R.bind_ok,BR,BP,CU,BJ,BS,oS,lH,aIZ,lG,aI0,aI1,jL,A9,BE,g,hi,q,sX,aI3,e,oR,kJ,c7,AA,a]
 by_cases h:most < (bfW rs sg (m+1)).length
 .simp_all
 .have h':¬ (most:Int) < ((bfW rs sg (m+1)).length:Int):=by ext
  rw[AM h]
  simp[h',a,c,jU,bL]
theorem aQZ(M:Mach rs sg)(E:EndW rs sg most N)(K:most<=800)(h1:1<=most)(hN:N<=most):∀ (k m:Nat) (u v w x:O9 A),m+k=N->((bfW rs sg m).length<=most)->
  (most < (bfW rs sg N).length/\aB (aX wyT wyB) wyE (wyρ rs sg most (zsW rs sg m) (a8 (afW rs sg) (bfW rs sg m) m) u v w x)=.ok (.rt (.d .none))) \/
  ((bfW rs sg N).length<=most/\∃ u' v' w' x',aB (aX wyT wyB) wyE (wyρ rs sg most (zsW rs sg m) (a8 (afW rs sg) (bfW rs sg m) m) u v w x)=wyE (wyρ rs sg most (zsW rs sg N) (a8 (afW rs sg) (bfW rs sg N) N) u' v' w' x')):=by
 have G:∀ (m:Nat) (u v w x:O9 A),m<=N->m<=(bfW rs sg m).length->wyT (wyρ rs sg most (zsW rs sg m) (a8 (afW rs sg) (bfW rs sg m) m) u v w x)=.ok (decide (m < (bfW rs sg m).length)):=λm u v w x b l=>by
  have Zq:=jI M m (AV b (AV hN (AV K (by decide))))
  have C:(zsW rs sg m).length=(bfW rs sg m).length:=by rw[<-Zq.map,AA]
  have r:=nR (after:=afW rs sg) l
  simp only[wyT,wyρ,lH,kJ,jL,A9,BE,R.bind_ok,c7,AA,C,r]
  simp
 have g:∀ m,m<=N->m<=(bfW rs sg m).length:=λm h=>by
  cases m with
  | zero=>exact BP _
  | succ n=>exact AV (E.on n h).1 (dQ _ _ n).length_le
 intro k
 induction k with
 | zero=>
  intro m u v w x f l
  have f:m=N:=f
  subst f
  have O:=E.full l
  refine .inr ⟨l,u,v,w,x,?_⟩
  rw[aW,cL (by rw[G m u v w x (AQ _) (g m (AQ _)),A5 (by ext)])]
  rfl
 | succ k ih=>
  intro m u v w x f l
  have c:m < N:=f▸EU (Nat.succ_pos k)
  have F:=B7 c
  have i:=g m F
  have r:=nR (after:=afW rs sg) i
  obtain⟨y,u',v',w',x',o,q⟩:=aQY (most:=most) (u:=u) (v:=v) (w:=w) (x:=x) M (by ext) r (E.on m c).1 (by ext)
  have D:wyT (wyρ rs sg most (zsW rs sg m) (a8 (afW rs sg) (bfW rs sg m) m) u v w x)=.ok true:=by rw[G m u v w x F i,AY (E.on m c).1]
  by_cases a:most < (bfW rs sg (m+1)).length
  .rw[AJ a]at q
   have b:m+1=N:=by
    rcases EQ (m+1) N with h|h
    .have:=(E.on _ h).2;ext
    .omega
   rw[b]at a
   refine .inl ⟨a,?_⟩
   rw[aW,iT D q];rfl
  .rw[AM a]at q
   have e:a8 (afW rs sg) (bfW rs sg m) m++[jU (afW rs sg) (bfW rs sg (m+1)) y]=a8 (afW rs sg) (bfW rs sg (m+1)) (m+1):=by
    unfold a8 bfW at *
    have s:(bfQ (afW rs sg) (aG rs []) (m+1)).take (m+1)=(bfQ (afW rs sg) (aG rs []) m).take m++[y]:=by
     obtain⟨t,J⟩:=dQ (afW rs sg) (aG rs []) m
     have L:=(AD.mp o).1
     rw[<-J,FJ (by ext),B9,o];rfl
    rw[s,A8,DJ]
    congr 1
    refine BA λy o=>?_
    unfold jU
    congr 1
    refine BA λz I=>?_
    obtain⟨j,H⟩:=BX o
    have p:j < m:=by
     ext
    rw[F7,AJ p]at H
    refine(oY (dQ (afW rs sg) (aG rs []) m) ?_).symm
    have B:(bfQ (afW rs sg) (aG rs []) j)[j]? = some y:=lP (j8 (by ext)) ((E.on j (by ext)).1) H
    have:=mF (fs:=bfQ (afW rs sg) (aG rs []) j) _ I
    rw[<-nE B]at this
    exact(j8 (by ext)).subset this
   rw[e]at q
   have:=ih (m+1) u' v' w' x' (by ext) (by ext)
   rw[aW,eS D q]
   simp_all
def aGK(rs:L9 Rw)(sg N:Nat):Dz:=.tuple [.list ((zsW rs sg N).map stD),.tuple (a8 (afW rs sg) (bfW rs sg N) N),.tuple ((zsW rs sg N).map λz=>.str (bF rs z))]
theorem aJS(M:Mach rs sg)(E:EndW rs sg most N)(y:most<=800)(h1:1<=most)(hN:N<=most):oA [.d (aE rs),.d (.int (sg:Int)),.d (.int (most:Int))]=if most < (bfW rs sg N).length then .ok (.d .none)else .ok (.d (aGK rs sg N)):=by
 have k:=aQZ M E y h1 hN N 0 none none none none (by ext) (by show 1<=most;exact h1)
 have j:=aJC M (z:="") ⟨by show 0<=1000;ext,λc i=>nomatch i⟩
 have j:cM [.d (aE rs),.d (.str "")]=.ok (.d (aG rs [])):=j
 have t:=nW M (z:=[]) ⟨by simp,λc i=>by simp at i⟩
 have C:a7 (aG rs []) []=true:=by unfold a7;rw[t];rfl
 have A:Fl.dX [] [(aG rs [],.int 0)]=.ok [(aG rs [],.int 0)]:=by simp[Fl.dX,C,putM,bC,b7]
 have run:∀ r,aB (aX wyT wyB) wyE (wyρ rs sg most (zsW rs sg 0) (a8 (afW rs sg) (bfW rs sg 0) 0) none none none none)=r->oA [.d (aE rs),.d (.int (sg:Int)),.d (.int (most:Int))]=match r with | .bad=>.bad | .ex e=>.ex e | .ok (.rt (.l _))=>.bad | .ok (.rt a)=>.ok a | .ok (.nx _)=>.ok (.d .none) | .ok _=>.bad:=λr hr=>by
  have hr:aB (aX wyT wyB) wyE [some (.d (aE rs)),some (.d (.int (sg:Int))),some (.d (.int (most:Int))),some (.l [.str ""]),some (.m [(aG rs [],.int 0)]),some (.l []),none,none,none,none]=r:=hr
  unfold oA
  rw[t6]
  simp only[jH,aW,pU,sV,jS,i5,lG,aLX,aLY,aP5,aNA,pT,wL,sU,R.bind_ok,BG,BR,Nat.reduceAdd,Nat.reduceSub,AZ,BQ,CD,B6,replicate,A9,BE,CU,BJ,BS,j,aIY,A,Nat.reduceLeDiff,BP]
  rw[aW]at hr
  rw[hr]
  cases r with
  | bad=>rfl
  | ex e=>rfl
  | ok w=>
   cases w with
   | rt a=>cases a<;>rfl
   | _=>rfl
 rcases k with ⟨f,q⟩|⟨p,u,v,w,x,q⟩
 .rw[AJ f,run _ q]
 .have Zq:=jI M N (by ext)
  have B:(zsW rs sg N).length=(bfW rs sg N).length:=by rw[<-Zq.map,AA]
  rw[AM (by ext)]
  have n:=bK (fs:=stN 0) (fe:=eA (aI 2 bN (aA (vV 1) (aA (vV 0) aC)))) (Y0:=[none,some (.d (aE rs))]) (d:=stD) (g:=λz=>.str (bF rs z)) (xs:=zsW rs sg N) λz s=>by
   refine⟨_,rfl,?_⟩
   have:=rJ M (z:=⟨z.toArray⟩) (by simpa using (Zq.ok z s).1)
   simp only[List.toList_toArray]at this
   simp[stD,this]
  have h:=bY (xs:=(zsW rs sg N).map stD) (by simp;ext)
  have o:(a8 (afW rs sg) (bfW rs sg N) N).length<=16777216:=by unfold a8;rw[AA,BC];ext
  have b:(zsW rs sg N).length<=16777216:=by ext
  have:wyE (wyρ rs sg most (zsW rs sg N) (a8 (afW rs sg) (bfW rs sg N) N) u v w x)=.ok (.rt (.d (aGK rs sg N))):=by
   simp[wyE,wyρ,h,cP,n,aI3,b,aGK]
  rw[run _ (q.trans this)]
section
variable{rs:L9 Rw}{sg N:Nat}
structure Wy(rs:List Rw)(sg N:Nat):Prop where
 m:Mach rs sg
 len:(bfW rs sg N).length=N
 n:N<=200
def bD(rs:L9 Rw)(sg N:Nat):L9 (L9 Nat):=(bfW rs sg N).map λx=>(afW rs sg x).map (nrQ (bfW rs sg N))
def bV(rs:L9 Rw)(sg N:Nat):L9 Str:=(zsW rs sg N).map (bF rs)
theorem aUE(W:Wy rs sg N):aGJ rs sg N=rdW (bD rs sg N) (bV rs sg N):=by
 unfold aGJ rdW rdD a8 bD bV jU
 rw[CF (by rw[W.len];exact AQ _),AX,AX]
 rfl
theorem uW(W:Wy rs sg N)(E:EndW rs sg 200 N):c6 [.d (aE rs)]=.ok (.d (rdW (bD rs sg N) (bV rs sg N))):=by
 have h:=aJR W.m E W.n
 rw[AM (by have:=W.len;have:=W.n;ext),aUE W]at h
 exact h
theorem Wy.pos(W:Wy rs sg N):0 < N:=by
 have:=W.len
 cases N with
 | zero=>simp[bfW,bfQ]at this
 | succ n=>ext
theorem Wy.zlen(W:Wy rs sg N):(zsW rs sg N).length=N:=by
 have h:=(jI W.m N (by have:=W.n;ext)).map
 have:=DB length h
 rw[AA,W.len]at this
 exact this
theorem Wy.at_(W:Wy rs sg N)(hi:i < N):∃ z,(zsW rs sg N)[i]? = some z/\(bfW rs sg N)[i]? = some (aG rs z)/\aQ sg z/\z.length<=N:=by
 have ok:=jI W.m N (by have:=W.n;ext)
 have b:=W.zlen
 have a:(zsW rs sg N)[i]? = some (zsW rs sg N)[i]:=AI (by ext)
 refine⟨_,a,?_,ok.ok _ (E5 _)⟩
 rw[<-ok.map,AC,a];rfl
theorem Wy.rows_len(W:Wy rs sg N):(bD rs sg N).length=N:=by unfold bD;rw[AA,W.len]
theorem Wy.on(W:Wy rs sg N)(hi:(bfW rs sg N)[i]? = some (aG rs z))(S:aQ sg z)(j:z.length < 1000)(f:bA sg c=true) :
  stN1 (bD rs sg N) i c < N/\(bfW rs sg N)[stN1 (bD rs sg N) i c]? = some (aG rs (z++[c])):=by
 obtain⟨h,d⟩:=xB f
 have a:=yL W.m S (k:=c - 97) d
 rw[show 97+(c - 97)=c by ext]at a
 have g:aG rs (z++[c])∈bfW rs sg N:=rP (by have:=W.len;unfold bfW at this;ext) (AG hi) (by
  unfold afW
  exact AN.mpr ⟨c - 97,BF.mpr d,a⟩)
 have e:stN1 (bD rs sg N) i c=nrQ (bfW rs sg N) (aG rs (z++[c])):=by
  unfold stN1 bD
  rw[AL (l:=List.map _ _),AC,hi]
  show((afW rs sg (aG rs z)).map (nrQ (bfW rs sg N))).getD (c - 97) 0=_
  unfold afW
  rw[AL,AC,AC,B1 d]
  show nrQ (bfW rs sg N) (aCE rs (aG rs z) (c - 97))=_
  rw[a]
 have b:=oZ g
 rw[e]
 exact⟨by have:=(AD.mp b).1;have:=W.len;ext,b⟩
theorem aC2(M:Mach rs sg){b:L9 Nat}(S:aQ sg z)(c:aQ sg b)(h:aG rs z=aG rs b):bF rs z=bF rs b:=by
 have a:=wZ M S
 rw[h,wZ M c]at a
 simp_all
theorem Wy.word(W:Wy rs sg N)(hi:(bfW rs sg N)[i]? = some (aG rs z))(S:aQ sg z):(bV rs sg N).getD i ""=bF rs z:=by
 have a:=(AD.mp hi).1
 rw[W.len]at a
 obtain⟨c,h1,h2,b,_⟩:=W.at_ a
 rw[hi]at h2
 unfold bV
 rw[AL,AC,h1]
 exact aC2 W.m b S (BK h2).symm
theorem Wy.run(W:Wy rs sg N):∀ (y:L9 Nat) {i:Nat} {z:L9 Nat},(bfW rs sg N)[i]? = some (aG rs z)->aQ sg (z++y)->(bfW rs sg N)[b9 (bD rs sg N) i y]? = some (aG rs (z++y))
 | [],i,z,hi,_=>by rw[C0];exact hi
 | c::t,i,z,hi,S=>by
  have hc:bA sg c=true:=S.2 c (by simp)
  have a:z.length < 1000:=by have:=S.1;simp at this;ext
  have Sz:aQ sg z:=⟨by ext,λd b=>S.2 d (CP _ b)⟩
  have h:=(W.on hi Sz a hc).2
  have e:z++c::t=(z++[c])++t:=by simp
  rw[e]at S ⊢
  exact W.run t h S
theorem Wy.says(W:Wy rs sg N)(S:aQ sg z):(bV rs sg N).getD (b9 (bD rs sg N) 0 z) ""=bF rs z:=by
 have a:(bfW rs sg N)[0]? = some (aG rs []):=pY _ _ _
 have:=W.run z a S
 exact W.word this S
theorem Wy.rdw(W:Wy rs sg N):Rdw (bD rs sg N) (bV rs sg N) sg:=by
 have s1:=W.m.sg1
 have h:=W.m.sg3
 have n:=W.n
 have i:=W.pos
 have a:=W.rows_len
 refine⟨⟨by ext,by ext,by ext,by ext,λr hr=>?_⟩,?_,λw b=>?_⟩
 .unfold bD at hr
  obtain⟨x,g,rfl⟩:=AN.mp hr
  refine⟨by rw[AA];unfold afW;rw[AA,A4],λj d=>?_⟩
  obtain⟨y,c,rfl⟩:=AN.mp d
  have f:y∈bfW rs sg N:=rP (by have:=W.len;unfold bfW at this;ext) g c
  have:=(AD.mp (oZ f)).1
  have:=W.len
  ext
 .unfold bV;rw[AA,W.zlen,a]
 .unfold bV at b
  obtain⟨z,e,rfl⟩:=AN.mp b
  exact wordW_is W.m ((jI W.m N (by ext)).ok z e).1
end
theorem yQ{z:L9 Nat}(h:z.length<=16777216):dLen (stD z)=.ok (.int (z.length:Int)):=by
 unfold stD;rw[rF (by rw[gC];show z.toArray.toList.length<=_;simp;ext),gC]
section
variable{ap r1 r2:L9 (L9 Nat)}{ws w1 w2:L9 Str}{sg:Nat}{L:L9 Nat}{N:Nat}
end
section
variable{ap:L9 (L9 Nat)}{ws:L9 Str}{rs:L9 Rw}{sg N:Nat}{L:L9 Nat}
end
end Mc
variable{x:Str}
namespace Fl
end Fl
namespace Zp
end Zp
namespace Fl
def BxK(c:Ct)(E':XK)(Z:L2.St)(D:iF)(F H:Hp):R Unit->Prop
 | .bad=>False
 | .ok _=>∀ F' H',Ext F H F' H'->D.nx Z H'
 | .ex e=>∀ a C F' H',Ext F H F' H'->kD c.K c.mg F' e a C->E' (.ref C) (some a) H'
theorem BxK.ext{c:Ct}{E':XK}{Z:L2.St}{D:iF}{F H F1 H1:Hp}(s:Ext F H F1 H1):∀ {r:R Unit},BxK c E' Z D F H r->BxK c E' Z D F1 H1 r
 | .bad,h=>h
 | .ok _,h=>λb H' e=>h b H' (s.trans e)
 | .ex _,h=>λa C b H' e=>h a C b H' (s.trans e)
def aJ4:Sg->R Unit:=λ_=>.ok ()
def aJT(Y:Sg)(Z:L2.St)(p:Az):Prop:=∀ (j:Nat) (a:A),Y[j]? = some (some a)->a.own=true->Z[j]? ≠ some (some (.ref p))
structure Own9(c:Ct)(F H:Hp)(Y:Sg)(Z:L2.St)(i:Nat)(p b:Az)(u:V)(ws:List V):Prop where
 s:Z[i]? = some (some (.ref p))
 ne:p≠b
 hp:H p=some (.lst [u,.ref b])
 hb:H b=some (.lst ws)
 fp:F p=none
 fb:F b=none
 p0:c.H0 p=none
 b0:c.H0 b=none
 np:aJT Y Z p
 nb:aJT Y Z b
theorem Own9.ext{c:Ct}{F H a H':Hp}{Y:Sg}{Z:L2.St}{p b:Az}{u:V}{ws:L9 V}(h:Own9 c F H Y Z i p b u ws)(e:Ext F H a H'):Own9 c a H' Y Z i p b u ws:=
 ⟨h.s,h.ne,e.hh _ _ h.hp,e.hh _ _ h.hb,e.stay h.fp h.hp (λ_ z=>nomatch z),e.stay h.fb h.hb (λ_ z=>nomatch z),h.p0,h.b0,h.np,h.nb⟩
end Fl
namespace L2
section
variable{X:Cx}
end
end L2
namespace PySem
open PySem.Sem (wp)
end PySem
namespace Mc
open Fl
def xD:Sg->R Fw:=(aB (bT 3 (cS (aA (eC (.str "")) aC)))
 (aB (nN 4 (lZ (eA (aI 2 cM (aA (vV 0) (aA (vD (eC (.str ""))) aC)))) (eC (.int 0)) uG))
 (aB (bT 5 (cS aC))
 (aB (aX (e1 asB (e2 dLt (e1 dLen (rV 5)) (e1 dLen (rV 3)))) (aB (bT 6 (cS aC))
 (aB (gM (e1 aH (eSl dSl (eC (.str "abc")) oNo (oSo (rV 1)))) (stN 7) (aB (aY 8 (vD (e2 bJ (e2 dIx (rV 3) (e1 dLen (rV 5))) (rV 7))))
 (aB (aY 9 (aI 2 cM (aA (vV 0) (aA (vV 8) aC))))
 (aB (sIf (e1 asB (iR true 4 (eV 9))) (aB (iZ 4 (eV 9) (e1 dLen (rV 3)))
 (eY 3 (eV 8))) sNx)
 (eY 6 (gN 4 (eV 9)))))))
 (aB (eY 5 (e1 dTup (rV 6)))
 (sIf (e1 asB (e2 dGt (e1 dLen (rV 3)) (rV 2))) (aM (vD (eC .none))) sNx)))))
 (sFz 3 (aM (vD (bG (aA (eV 3) (aA (e1 dTup (rV 5)) (aA (e1 dTup (eL (bP [none,some 0] (e1 aH (rV 3)) (stN 0) cQ (eA (aI 2 bN (aA (vV 1) (aA (vV 0) aC))))))) aC)))))))))))
def dB:L9 A->R A:=fnF 10 xD
def iM:Sg->R Fw:=(aB (aY 2 (vD (bG (aA (eC (.str "many")) (aA (eC .none) aC)))))
 (aB (v6 (some 2) 2 fG (aA (vV 0) (aA (vV 1) aC)) ["TooMany"] (aY 2 (vD (bG (aA (eC (.str "many")) (aA (eC .none) aC))))))
 (aM (vV 2))))
def bQ:L9 A->R A:=fnF 3 iM
def lS:Sg->R Fw:=(aM (vD (e1 dTup (eL (bP [none,none,none] (e1 aH (rV 0)) (stT [(stN 0),(stN 1),(stN 2)]) cQ (bG (aA (eV 0) (aA (e1 dTup (eL (bP [none] (e1 aH (rV 1)) (stN 0) cQ (bG (aA (e2 dIx (rV 0) (eC (.int 0))) (aA (eC (.int 1)) aC)))))) (aA (eV 2) aC)))))))))
def fO:L9 A->R A:=fnF 1 lS
def jE:Sg->R Fw:=(aB (sIf (e1 asB (e1 (iE "str") (rV 0))) (aM (vV 0)) sNx)
 (aM (vD (e2 bJ (rV 0) (e2 dMul (rV 1) (e2 dMod (rV 2) (eC (.int 2))))))))
def cD:L9 A->R A:=fnF 3 jE
def nbB:Sg->R Fw:=(eY 5 (bG (aA (gN 2 (eV 6)) (aA (e1 dTup (eL (bP [none,none,some 2] (e1 aH (rV 7)) (stT [(stN 0),(stN 1)]) cQ (bG (aA (gN 2 (eV 0)) (aA (eV 1) aC)))))) (aA (gN 2 (eV 8)) aC)))))
def kO:Sg->R Fw:=(aB (nN 2 (lZ (eC (.str "by")) (eC (.str "by")) (lZ (eC (.str "out")) (eC (.str "out")) uG)))
 (aB (gM (e1 iK (eV 1)) (stT [(stN 3),(stN 4)]) (iZ 2 (eV 4) (eV 3)))
 (aB (bT 5 (cS aC))
 (aB (gM (e1 aH (eV 0)) (stT [(stN 6),(stN 7),(stN 8)]) nbB)
 (aM (vD (e1 dTup (rV 5))))))))
def dG:L9 A->R A:=fnF 9 kO
def jF:Sg->R Fw:=(aB (bT 2 (e1 dLst (rV 0)))
 (aB (aY 3 (vD (e2 dMod (rV 1) (e1 dLen (rV 2)))))
 (aB (n5 (stT [(stN 4),(stN 5),(stN 6)]) (e2 dIx (rV 2) (rV 3)))
 (aB (sIf (e1 asB (e2 dEq (e2 dMod (e2 dDiv (rV 1) (eC (.int 64))) (eC (.int 2))) (eC (.int 0)))) (aBB 2 (rV 3) (bG (aA (e2 dIx (eL (cS (aA (eC (.str "by")) (aA (eC (.str "out")) (aA (eV 3) aC))))) (e2 dMod (e2 dDiv (rV 1) (eC (.int 128))) (eC (.int 3)))) (aA (eV 5) (aA (eV 6) aC))))) (aBB 2 (rV 3) (bG (aA (eV 4) (aA (eV 5) (aA (e2 dIx (eL (cS (aA (eC (.str "by")) (aA (eC (.str "out")) (aA (eC (.int 0)) aC))))) (e2 dMod (e2 dDiv (rV 1) (eC (.int 128))) (eC (.int 3)))) aC))))))
 (aM (vD (e1 dTup (rV 2))))))))
def eM:L9 A->R A:=fnF 7 jF
def rgA:Sg->R Fw:=iZ 3 (eV 4) (eC (.bool true))
def rgB:Sg->R Fw:=(aB (sIf (e1 asB (e2 dNe (e2 dIx (e2 dIx (rV 0) (eC (.int 1))) (rV 5)) (e2 dIx (e2 dIx (rV 1) (eC (.int 1))) (rV 6)))) (aM (vD (eC (.bool false)))) sNx)
 (sIf (e1 asB (e2 dIn (eC (.bool false)) (eL (bP [none,some 3] (e2 f9 (e2 dIx (e2 dIx (rV 0) (eC (.int 0))) (rV 5)) (e2 dIx (e2 dIx (rV 1) (eC (.int 0))) (rV 6))) (stN 0) cQ (iR false 1 (eV 0)))))) (aM (vD (eC (.bool false)))) sNx))
def jJ:Sg->R Fw:=(aB (sIf (bOr (pK (e1 asB (e1 (iE "list") (rV 2)))) (e1 asB (e2 dNin (bG (aA (eC (.int 0)) (aA (eC (.int 0)) aC))) (rV 2)))) (aM (vD (eC (.bool false)))) sNx)
 (aB (lE 3)
 (aB (gM (e1 aH (eV 2)) (stN 4) rgA)
 (aB (gM (e1 aH (eV 2)) (stT [(stN 5),(stN 6)]) rgB)
 (aM (vD (eC (.bool true))))))))
def dW:L9 A->R A:=fnF 7 jJ
def nG:Sg->R Fw:=(aB (sIf (bOr (e1 asB (e2 dNe (e1 dLen (rV 2)) (eC (.int 2)))) (pK (e1 asB (eA (aI 3 dW (aA (aI 1 c6 (aA (vV 0) aC)) (aA (aI 1 c6 (aA (vV 1) aC)) (aA (vD (e2 dIx (rV 2) (eC (.int 1)))) aC)))))))) (aM (vD (eC (.bool false)))) sNx)
 (aB (bT 4 (bP [none,some 0,some 1] (e1 aH (rV 3)) (stN 0) cQ (e2 dEq (eA (aI 2 bN (aA (vV 1) (aA (vV 0) aC)))) (eA (aI 2 bN (aA (vV 2) (aA (vV 0) aC)))))))
 (aM (vD (aKX (e2 dNin (eC (.bool false)) (rV 4)) (e2 dEq (eA (aI 1 eQ (aA (vV 0) aC))) (eA (aI 1 eQ (aA (vV 1) aC)))))))))
def gX:L9 A->R A:=fnF 5 nG
def rmC:Sg->R Dz:=(bG (aA (eA (aI 3 cD (aA (vV 1) (aA (vV 3) (aA (vD (e2 bJ (e2 bJ (e2 dDiv (rV 4) (eC (.int 7))) (rV 5)) (rV 0))) aC))))) (aA (eV 2) aC)))
def rmB:Sg->R Fw:=(aB (n5 (stT [(stN 7),(stN 8),(stN 9)]) (e2 dIx (rV 0) (e2 dMod (rV 6) (rV 2))))
 (aB (aY 7 (aI 3 cD (aA (vV 7) (aA (vV 2) (aA (vD (e2 bJ (e2 dDiv (rV 1) (eC (.int 3))) (rV 6))) aC)))))
 (aB (aY 9 (aI 3 cD (aA (vV 9) (aA (vV 2) (aA (vD (e2 bJ (e2 dDiv (rV 1) (eC (.int 5))) (rV 6))) aC)))))
 (aB (bT 10 (bP [none,none,none,some 2,some 1,some 6] (e1 iK (rV 8)) (stT [(stN 0),(stT [(stN 1),(stN 2)])]) cQ rmC))
 (sFz 10 (eY 5 (bG (aA (eV 7) (aA (eV 10) (aA (eV 9) aC))))))))))
def lT:Sg->R Fw:=(aB (aY 2 (vD (e1 dLen (rV 0))))
 (aB (bT 3 (e2 aBU (eC (.int 1)) (e2 dMul (eC (.int 2)) (rV 2))))
 (aB (aY 4 (vD (e2 dMod (rV 1) (e1 dLen (rV 3)))))
 (aB (bT 3 (e2 kW (eL (e2 kW (eL (cS (aA (eC (.int 0)) aC))) (eSl dSl (rV 3) (oSo (rV 4)) oNo))) (eSl dSl (rV 3) oNo (oSo (rV 4)))))
 (aB (bT 5 (cS aC))
 (aB (sFz 3 (gM (e1 aH (eV 3)) (stN 6) rmB))
 (sFz 5 (sFz 3 (aM (aI 2 dG (aA (vV 5) (aA (vV 3) aC))))))))))))
def fP:L9 A->R A:=fnF 11 lT
def w1:Sg->R Fw:=(aY 1 (aI 2 bW (aA (vV 0) (aA (vD (eC (.int 0))) aC))))
def w2:Sg->R Fw:=(aY 2 (vD (e2 bJ (eC (.int 1)) (e2 dMod (e2 dDiv (rV 1) (eC (.int 2))) (eC (.int 3))))))
def w3:Sg->R Fw:=(aY 3 (vD (eC (.int 2))))
def w4:Sg->R Fw:=(sIf (e1 asB (e2 dEq (e2 dMod (rV 1) (eC (.int 2))) (eC (.int 1)))) (aY 3 (vD (e2 bJ (eC (.int 1)) (e2 dMod (e2 dDiv (rV 1) (eC (.int 6))) (eC (.int 8)))))) sNx)
def w5:Sg->R Fw:=(aY 4 (aI 4 i6 (aA (vV 0) (aA (vD (eC (.int 3))) (aA (vV 3) (aA (vV 2) aC))))))
def w6:Sg->R Fw:=(sIf (e1 asB (e2 dEq (e2 dMod (rV 1) (eC (.int 2))) (eC (.int 1)))) (aY 4 (aI 1 fO (aA (vV 4) aC))) sNx)
def w7:Sg->R Fw:=(aY 5 (aI 2 fP (aA (vV 4) (aA (vD (e2 dMod (eA (aI 2 bW (aA (vV 0) (aA (vD (eC (.int 1))) aC)))) (eC (.int 2147483647)))) aC))))
def w8:Sg->R Fw:=(aY 6 (vD (e2 dEq (e2 dMod (e2 dDiv (rV 1) (eC (.int 48))) (eC (.int 3))) (eC (.int 1)))))
def w9:Sg->R Fw:=(sIf (e1 asB (eV 6)) (aY 5 (aI 2 eM (aA (vV 5) (aA (vD (e2 dMod (eA (aI 2 bW (aA (vV 0) (aA (vD (eC (.int 2))) aC)))) (eC (.int 2147483647)))) aC)))) sNx)
def w10:Sg->R Fw:=(aY 7 (aI 4 gB (aA (vV 0) (aA (vD (e2 bJ (eC (.int 3)) (rV 3))) (aA (vD (e2 (d2 uE) (eC (.int 0)) (e2 (d2 uF) (eC (.int 40)) (e2 dSub (e2 dSub (e1 dLen (rV 0)) (eC (.int 3))) (rV 3))))) (aA (vV 2) aC))))))
def w11:Sg->R Fw:=(aY 8 (aI 2 jN (aA (vV 2) (aA (vD (eC (.int 4))) aC))))
def w12:Sg->R Fw:=(aY 9 (aI 2 bQ (aA (vV 4) (aA (vV 5) aC))))
def w13:Sg->R Fw:=(sIf (e1 asB (e2 dEq (e2 dIx (rV 9) (eC (.int 0))) (eC (.str "many")))) (aM (vD (e2 dIn (eC .none) (eL (cS (aA (eA (aI 3 dB (aA (vV 4) (aA (vV 2) (aA (vD (eC (.int 200))) aC))))) (aA (eA (aI 3 dB (aA (vV 5) (aA (vV 2) (aA (vD (eC (.int 200))) aC))))) aC))))))) sNx)
def w14:Sg->R Fw:=(sIf (e1 asB (e2 dEq (e2 dIx (rV 9) (eC (.int 0))) (eC (.str "alike")))) (aM (aI 4 gX (aA (vV 4) (aA (vV 5) (aA (vV 9) (aA (vD (eL (e2 kW (eSl dSl (rV 8) oNo (oSo (eC (.int 40)))) (eL (bP [none,some 7] (eU (e2 bJ (e1 dLen (rV 7)) (eC (.int 1)))) (stN 0) cQ (eSl dSl (rV 1) oNo (oSo (rV 0)))))))) aC)))))) sNx)
def w15:Sg->R Fw:=(sIf (bOr (pK (e1 asB (eV 6))) (bOr (e1 asB (e2 dNe (e2 dIx (rV 9) (eC (.int 0))) (eC (.str "unlike")))) (e1 asB (e2 dEq (eA (aI 2 bN (aA (vV 4) (aA (vD (e2 dIx (rV 9) (eC (.int 1)))) aC)))) (eA (aI 2 bN (aA (vV 5) (aA (vD (e2 dIx (rV 9) (eC (.int 1)))) aC)))))))) (aM (vD (eC (.bool false)))) sNx)
def w16:Sg->R Fw:=(bT 10 (bP [none,some 9] (e1 aH (rV 8)) (stN 0) (e1 asB (e2 rB (bG (aA (e1 dLen (rV 0)) (aA (eV 0) aC))) (bG (aA (e1 dLen (e2 dIx (rV 1) (eC (.int 1)))) (aA (e2 dIx (rV 1) (eC (.int 1))) aC))))) (eV 0)))
def w17:Sg->R Fw:=(sIf (e1 asB (e2 dIn (eC (.bool false)) (eL (bP [none,some 4,some 5] (e1 aH (rV 10)) (stN 0) cQ (e2 dEq (eA (aI 2 bN (aA (vV 1) (aA (vV 0) aC)))) (eA (aI 2 bN (aA (vV 2) (aA (vV 0) aC))))))))) (aM (vD (eC (.bool false)))) sNx)
def w18:Sg->R Fw:=(aM (vD (e2 dNe (eA (aI 1 eQ (aA (vV 4) aC))) (eA (aI 1 eQ (aA (vV 5) aC))))))
def xE:Sg->R Fw:=(aB w1 (aB w2 (aB w3 (aB w4 (aB w5 (aB w6 (aB w7 (aB w8 (aB w9 (aB w10 (aB w11 (aB w12 (aB w13 (aB w14 (aB w15 (aB w16 (aB w17 w18)))))))))))))))))
def aNK:L9 A->R A:=fnF 11 xE
end Mc
namespace Fl
variable{X:Cx}{c:Ct}{E:XK}{e:E2}{st:Stmt}{i:Nat}{N:L9 Str}{js:L9 (O9 Nat)}{scope:Scope}{tg elt:E2}{ifs:L9 E2}{fi:Sg->R (L9 Dz)}{fs:Dz->Sg->O9 Sg}{ft:Sg->R Bool}{fe:Sg->R Dz}{is:L9 Nat}
def aNL(X:Cx)(c:Ct)(N:L9 Str)(scope:Scope)(tg elt:E2)(ifs:L9 E2)(fs:Dz->Sg->O9 Sg)(ft:Sg->R Bool)(fe:Sg->R Dz)(is:L9 Nat):Prop:=∀ (cl:L9 (Str×Az)) (C:Az) (s:S9) (H0:Hp) (fp:L9 Az),∃ g,Tg c g fs is/\PG (eI X N scope cl C s H0 fp) tg g/\L2.PIf (eI X N scope cl C s H0 fp) ifs (tTf c E0 ft)/\PD (eI X N scope cl C s H0 fp) c E0 elt fe
def nm1:E2->L9 Str
 | .Name x _=>[x]
 | _=>[]
def nm2:E2->L9 Str
 | .Name x _=>[x]
 | .Tuple es _ _=>es.flatMap nm1
 | _=>[]
def nX(tg:E2)(XN:L9 Str)(js:L9 (O9 Nat)):L9 Str:=(match tg with
 | .Name x _=>[x]
 | .Tuple es _ _=>es.flatMap nm2
 | _=>[])++js.filterMap λo=>o.map λj=>XN.getD j ""
theorem aV1{f:E2}{pos:Pos}(h:Caps X scope (nX tg X.N js) js)(hi:PI X tg f (tI c E fi))(hb:(nX tg X.N js).Nodup->aNL X c (nX tg X.N js) scope tg elt ifs fs ft fe is)(hN:decide (nX tg X.N js).Nodup=true)(k:js.Pairwise λa b=>a=none\/a≠b)(j:∀ i∈is,js[i]? = some none)
 (l:X.calm=true:=by rfl) (hok:c9 scope.names X.env.kindOf=true:=by rfl) (hkind:scope.kind=.function:=by rfl) (hs:∀ x,foldedSetIterable f X.env x=pure x:=by intro _;rfl) :
 PN X c E (.ListComp elt [⟨tg,f,ifs,0⟩] scope pos) (bP js fi fs ft fe):=aOW (aN4 l h hok hi hkind hs) k j λa b c d e=>let ⟨g,q1,q2,q3⟩:=hb (BH hN) a b c d e;⟨g,q2,q1,q3⟩
theorem aV2{f:E2}{pos j h:Pos}(k:Caps X scope (nX tg X.N js) js)(hi:PI X tg f (tI c E fi))(hb:(nX tg X.N js).Nodup->aNL X c (nX tg X.N js) scope tg elt ifs fs ft fe is)(hN:decide (nX tg X.N js).Nodup=true)(n:js.Pairwise λa b=>a=none\/a≠b)(l:∀ i∈is,js[i]? = some none)
 (nd:X.N.Nodup) (hx:Loc X.env.scope x) (m:X.N[i]? = some x:=by rfl) (hsw:swapsWith (.ListComp elt [⟨tg,f,ifs,0⟩] scope pos) (some (.Name x j)) h.line X.env=pure true:=by rfl)
 (hc:X.calm=true:=by rfl) (hok:c9 scope.names X.env.kindOf=true:=by rfl) (hkind:scope.kind=.function:=by rfl) (hf:X.fn x=true\/X.env.scope.names.lookup x=some .local:=by first|exact .inl rfl|exact .inr rfl|assumption) (hs:∀ x,foldedSetIterable f X.env x=pure x:=by intro _;rfl) :
 PSf X c E (.Assign [.Name x j] (.ListComp elt [⟨tg,f,ifs,0⟩] scope pos) h) (bT i (bP js fi fs ft fe)):=aOX (L2.aFD nd m hx hsw hc k hok hi hkind hf hs) n l λa b c d e=>let ⟨g,q1,q2,q3⟩:=hb (BH hN) a b c d e;⟨g,q2,q1,q3⟩
section
variable{P:P9}{w:W9}{K:Frag}{mg:Str->O9 V9}{base:H9}{TH:Hp}{x:Str}{st:Stmt}{ps:L9 Str}{k:Nat}{fb:Sg->R Fw}
def HBd(P:P9)(w:W9)(K:Frag)(mg:Str->O9 V9)(base:H9)(TH:Hp)(k:Nat)(x:Str)(st:Stmt)(N:L9 Str)(fb:Sg->R Fw):Prop:=∀ (f:Az) (cdv:V9) (A:U9) (outer:L9 Env) (s:S9) (H F:Hp) (E:XK),Room k (A.deeper (envOfC x (aJ st) s.heap.objs.size f cdv))->N.Nodup->
 kE ((jB (CXe P w) P w K mg base N x (aJ st) f cdv A outer s H E).fly E) ⟨K,mg,w,F,H,gOf P w K mg base TH,(envOfC x (aJ st) s.heap.objs.size f cdv).cells,λ_=>none⟩ E (bE st) fb
theorem aQ0(N:L9 Str)(D:DefAt K mg x st ps)(S:FnScope N ps (aJ st))(a:HBd P w K mg base TH k x st N fb):bH P w K mg base TH (k+1) x ps (fnF N.length fb):=aSW D S λf b A outer s H F E hr=>a f b A outer s H F E hr S.nd
theorem aQ1{fd:FuncData}(N:L9 Str)(c:Fun K x x st f fd)(S:FnScope N ps (aJ st))(a:HBd P w K mg base TH k x st N fb):FnOk P w K mg base (CXe P w) (k+1) f fd ps (spF (gOf P w K mg base TH) K mg ps.length (fnF N.length fb)):=aSY c S λb A outer s H F E hr=>a f b A outer s H F E hr S.nd
end
theorem aUF{X:Cx}{c:Ct}{E:XK}{G:L9 A->R A}{w:W9}{T:Hp}{e:E2}{pos:Pos}{f:Sg->R (L9 A)}(C:bH P w K mg base T k x ps G)(hr:Room k X.A)(hx:lK (CXe P w) X E)(a:PAv X c E (e::es) f)
  (b:ps.length=n:=by rfl) (hg:Gl X x:=by rfl) (h1:X.prog=P:=by rfl) (h2:X.w=w:=by rfl) (h3:X.K=K:=by rfl) (h4:X.mg=mg:=by rfl) (h5:X.base=base:=by rfl) (hG:gOf P w K mg base T=c.g:=by rfl) (hK:K=c.K:=by rfl) (hM:mg=c.mg:=by rfl) (hdb:(x == ("__debug__":Str))=false:=by decide)
  (he:starEach (e::es) X.env=(false,eval e X.env)::starEach es X.env:=by rfl) (hpl:(backTo pos (starEach es X.env)).any (·.1)=false:=by rfl):PV X c E (.Call (.Name x p) (e::es) [] pos) (aI n G f):=by
 subst h1 h2 h3 h4 h5 b
 exact aM4 hG hK hM (aMT C hr hg hx a hdb he hpl)
end Fl
set_option hygiene false
local macro_rules
| `(tactic| exists $t:term)=>`(tactic| (with_reducible show $t))
local macro_rules
| `(tactic| ac_rfl)=>`(tactic| first
 | exists PD _ _ _ _ (eV _);exact aSD (pv _)
 | exists PD _ _ _ _ (eC _);first
  | exists PD _ _ _ _ (eC (.int _));apply aSG
  | exists PD _ _ _ _ (eC (.str _));apply aSH
  | exact(kU (xI (v:=.str "abc") rfl T.g_SIGNS.choose_spec ⟨_,rfl⟩) λ_=>.str _)
  | exact(kU (xI (v:=.int 200) rfl T.g_MOST_BEGINNINGS.choose_spec ⟨_,rfl⟩) λ_=>.int _)
  | exists PD _ _ _ _ (eC (.bool _));exact aU8
  | exact aSI
 | exists PD _ _ _ _ (e2 _ _ _);first
  | exists PD _ _ _ _ (e2 dIx _ _);refine aM1 (aM2 rfl) aBA ?_ ?_<;>symm
  | exists PD _ _ _ _ (e2 bJ _ _);refine qW (aOK rfl) aHR ?_ ?_<;>symm
  | exists PD _ _ _ _ (e2 dMod _ _);refine qW aOO aHX ?_ ?_<;>symm
  | exists PD _ _ _ _ (e2 dSub _ _);refine qW aOL aHU ?_ ?_<;>symm
  | exists PD _ _ _ _ (e2 dMul _ _);refine qW aOM aHV ?_ ?_<;>symm
  | exists PD _ _ _ _ (e2 dDiv _ _);refine qW aON aHW ?_ ?_<;>symm
  | exists PD _ _ _ _ (e2 dEq _ _);refine oI (aHZ rfl hr.units) aA7 ?_ ?_ (fX _)<;>symm
  | exists PD _ _ _ _ (e2 dNe _ _);refine oI (aH0 rfl hr.units) aA8 ?_ ?_ (fX _)<;>symm
  | exists PD _ _ _ _ (e2 dGt _ _);refine oI aHT aA6 ?_ ?_ (fX _)<;>symm
  | exists PD _ _ _ _ (e2 dLt _ _);refine oI aHS aA5 ?_ ?_ (fX _)<;>symm
  | exists PD _ _ _ _ (e2 dIn _ _);refine oI (aH1 rfl hr.units) aA9 ?_ ?_ (by with_unfolding_all rfl)<;>symm
  | exists PD _ _ _ _ (e2 dNin _ _);refine oI (aDK rfl hr.units) zA ?_ ?_ (by with_unfolding_all rfl)<;>symm
 | exists PD _ _ _ _ (e1 dLen _);refine aSR rfl (mL aKA rfl T.b_len PySem.boot_len (aZ ?_ bR))<;>symm
 | exists PD _ _ _ _ (e1 dTup _);refine aKZ rfl (lL zV rfl T.b_tuple PyProof.Rows.boot_tuple (aZ ?_ bR))<;>symm
 | exists PD _ _ _ _ (e1 dInt _);refine aOT (lL aGY rfl T.b_int boot_int (aZ ?_ bR))<;>symm
 | exists PD _ _ _ _ (e1 (iE "str") _);refine aH6 (mL (aBF rfl (aOZ _)) rfl T.b_isinstance FV (aZ ?_ (aZ (aC5 (v:=.ty "str") rfl T.b_str boot_str rfl) bR)))<;>symm
 | exists PD _ _ _ _ (e1 dNeg _);refine aVA aOP aHY ?_<;>symm
 | exists PD _ _ _ _ (eA _);refine aU9 ?_;symm
 | exists PD _ _ _ _ (eL _);refine aHQ ?_;symm
 | exists PD _ _ _ _ (bG _);refine aSP ?_;symm
 | exists PD _ _ _ _ (gN _ _);refine aO3 rfl rfl (aO2 hr.units (pv _) ?_ (λ_ _=>rfl))<;>symm
 | exists PD _ _ _ _ (iR false _ _);refine aH9 (op:=.In) rfl rfl (xJ (aDR hr.units) ?_ (pv _) (by with_unfolding_all rfl));symm
 | exists PD _ _ _ _ (iR true _ _);refine aH9 (op:=.In) rfl rfl (xJ (aBH hr.units) ?_ (pv _) (by with_unfolding_all rfl));symm
 | exists PD _ _ _ _ (aFR _);refine aSO ?_;symm
 | exists PD _ _ _ _ (eIf _ _ _);refine aVB ?_ ?_ ?_<;>symm
 | exists PD _ _ _ _ (eSl dSl _ _ _);refine aK3 rfl ?_ ?_ ?_<;>symm)
local macro_rules
| `(tactic| and_intros)=>`(tactic| first
 | exists PTf _ _ _ _ (pK _);refine Fl.qI ?_;and_intros
 | exists PTf _ _ _ _ (mS _ _);refine PW.pt ?_;symm
 | exists PTf _ _ _ _ (bOr _ _);refine PW.pt ?_;symm
 | exists PTf _ _ _ _ (e1 asB (iR true _ _));refine aIA rfl rfl (xK (aBH hr.units) ?_ (pv _) (by with_unfolding_all rfl))<;>symm
 | exists PTf _ _ _ _ (e1 asB (iR false _ _));refine aIA rfl rfl (xK (aDR hr.units) ?_ (pv _) (by with_unfolding_all rfl))<;>symm
 | exists PTf _ _ _ _ (e1 asB (e2 dEq _ _));refine Fl.g9 (aHZ rfl hr.units) aA7 ?_ ?_ (fX _)<;>symm
 | exists PTf _ _ _ _ (e1 asB (e2 dNe _ _));refine Fl.g9 (aH0 rfl hr.units) aA8 ?_ ?_ (fX _)<;>symm
 | exists PTf _ _ _ _ (e1 asB (e2 dLt _ _));refine Fl.g9 aHS aA5 ?_ ?_ (fX _)<;>symm
 | exists PTf _ _ _ _ (e1 asB (e2 dLe _ _));refine Fl.g9 aSJ aKT ?_ ?_ (fX _)<;>symm
 | exists PTf _ _ _ _ (e1 asB (e2 dGt _ _));refine Fl.g9 aHT aA6 ?_ ?_ (fX _)<;>symm
 | exists PTf _ _ _ _ (e1 asB (e2 dGe _ _));refine Fl.g9 aSK aKU ?_ ?_ (fX _)<;>symm
 | exists PTf _ _ _ _ (e1 asB (e2 rB _ _));refine Fl.g9 (aPT rfl hr.units) aIV ?_ ?_ (fX _)<;>symm
 | exists PTf _ _ _ _ (e1 asB (e2 dIs _ _));refine Fl.g9 aSL aKV ?_ ?_ (fX _)<;>symm
 | exists PTf _ _ _ _ (e1 asB (e2 dIsnt _ _));refine Fl.g9 aKW aFQ ?_ ?_ (fX _)<;>symm
 | exists PTf _ _ _ _ (e1 asB (e2 dIn _ _));refine Fl.g9 (aH1 rfl hr.units) aA9 ?_ ?_ (by with_unfolding_all rfl)<;>symm
 | exists PTf _ _ _ _ (e1 asB (e2 dNin _ _));refine Fl.g9 (aDK rfl hr.units) zA ?_ ?_ (by with_unfolding_all rfl)<;>symm
 | refine Fl.qH ?_;ac_rfl)
local macro_rules
| `(tactic| symm)=>`(tactic| first
 | exists HBd _ _ _ _ _ _ _ _ _ _ _;intro _ _ _ _ _ _ _ _ hr nd;symm
 | exists FnScope _ _ _;constructor<;>first|rfl|decide +kernel
 | exists PD _ _ _ _ _;ac_rfl
 | exists PR _ _ _ _ _;first|exists PR _ _ _ _ (rV _);exact aSE (pv _)|refine aFP ?_;ac_rfl
 | exists PV _ _ _ _ _;first
  | exists PV _ _ _ _ (vV _);exact aSF (pv _)
  | exists PV _ _ _ _ (vD _);refine sJ ?_;ac_rfl
  | refine aUF (by with_reducible assumption) (hr.mono (by decide)) (by first|exact aU7|exact lV λ_ _ _ h=>h) ?_;symm
 | exists PTf _ _ _ _ _;and_intros
 | exists kE _ _ _ _ _;first
  | apply Fl.sB
  | apply Fl.fW;symm
  | apply Fl.aL<;>symm
 | exists PSf _ _ _ _ _;first
  | exists PSf _ _ _ _ (aY _ _);refine Fl.eX (L2.eX nd rfl (by first|exact .inl rfl|exact .inr rfl) ?_);symm
  | exists PSf _ _ _ _ (bT _ (bP _ _ _ _ _));first|exact aV2 (by symm) (by symm) (λnd _ _ _ _ _=>⟨_,by symm,by symm,by symm,by symm⟩) (by kernel_rfl) (by decide) (by decide) nd (by first|exact .inl rfl|exact .inr rfl)
  | exists PSf _ _ _ _ (bT _ _);refine xX (L2.eX nd rfl (by first|exact .inl rfl|exact .inr rfl) ?_);symm
  | exists PSf _ _ _ _ (aM _);apply Fl.kA;symm
  | exists PSf _ _ _ _ (sIf _ _ _);apply Fl.zZ<;>symm
  | exists PSf _ _ _ _ (eY _ _);refine aSS rfl (L2.kP (z7 G0 PySem.F.slot_list_append PySem.F.type_list_append aG3 (pv _) (aZ ?_ bR)));symm
  | exists PSf _ _ _ _ (gM _ _ _);exact Fl.iO (by symm) (L2.iO (kS ⟨rfl,rfl⟩) rfl (by symm) (by symm) (by symm))
  | exists PSf _ _ _ _ (aX _ _);refine Fl.mJ (L2.mJ (kS ⟨rfl,rfl⟩) ?_ ?_)<;>symm
  | exists PSf _ _ _ _ (n5 _ _);exact aIB (by symm) (vH (by symm) (by symm))
  | exists PSf _ _ _ _ (sFz _ _);refine aM3 _ ?_;symm
  | exists PSf _ _ _ _ (iZ _ _ _);exact Fl.aO4 rfl rfl (vH (by symm) (aGQ (pv _) (by symm) (aK8 hr.units)))
  | exists PSf _ _ _ _ (aBB _ _ _);exact aST (vH (by symm) (aGQ (pv _) (by symm) aKF))
  | exists PSf _ _ _ _ (lE _);exact aO1 rfl (L2.eX nd rfl (by first|exact .inl rfl|exact .inr rfl) aO0)
  | exists PSf _ _ _ _ (aFS _);refine Fl.kP (L2.kP ?_);symm
  | exists PSf _ _ _ _ (nN _ _);exact aPC rfl rfl (L2.eX nd rfl (by first|exact .inl rfl|exact .inr rfl) (aPA hr.units (by symm)))
  | exists PSf _ _ _ _ (oK "TooMany" _);exact zE erp_TooMany.m (L2.iS rfl erp_TooMany rfl (aZ (aIG (by symm)) bR))
  | exists PSf _ _ _ _ (oJ "TooMany" _);exact Fl.iS erp_TooMany.m (L2.iS rfl erp_TooMany rfl (by symm))
  | exists PSf _ _ _ _ (oK "NotLike" _);exact zE erp_NotLike.m (L2.iS rfl erp_NotLike rfl (aZ (aIG (by symm)) bR))
  | exists PSf _ _ _ _ (oJ "NotLike" _);exact Fl.iS erp_NotLike.m (L2.iS rfl erp_NotLike rfl (by symm))
  | apply Fl.kA;symm
 | exists PAv _ _ _ _ _;first
  | exists PAv _ _ _ _ aC;exact aOR
  | refine pM ?_ ?_<;>symm
 | exists PAd _ _ _ _ _;first
  | exists PAd _ _ _ _ aC;exact aOQ
  | refine aKY ?_ ?_<;>symm
 | exists PN _ _ _ _ _;first
  | exists PN _ _ _ _ (cS _);refine aSQ ?_;symm
  | exists PN _ _ _ _ (e2 kW _ _);refine aS0 rfl ?_ ?_<;>symm
  | exists PN _ _ _ _ (e2 aBU _ _);refine aIW (lL (yB rfl) rfl T.b_list D3 (aZ (lL aBT rfl T.b_range PyProof.Rows.boot_range (aZ ?_ (aZ ?_ bR))) bR))<;>symm
  | exists PN _ _ _ _ (bP _ _ _ _ _);first|exact aV1 (by symm) (by symm) (λnd _ _ _ _ _=>⟨_,by symm,by symm,by symm,by symm⟩) (by kernel_rfl) (by decide) (by decide)
 | exists PPf _ _ _ _ _ _;first
  | apply aPB
  | apply aLA<;>symm
 | exists Caps _ _ _ _;constructor<;>first|rfl|exact .inl rfl|exact .inr rfl|symm
 | exists L2.PIf _ _ _;first
  | apply Fl.xN
  | apply aN3;symm
 | exists Tg _ _ _ _;first
  | exists Tg _ _ (stN _) _;exact aDL _
  | exact aSU rfl (by symm) rfl
 | exists Tgs _ _ _ _;first
  | exists Tgs _ _ [] _;exact aOU
  | exact aK0 (by symm) (by symm)
 | exists PG _ _ _;first
  | exists PG _ (.Name _ _) _;exact aNR (by first|exact nd|decide +kernel) rfl (by first|exact .inl rfl|exact .inr rfl)
  | exact aRN rfl (by symm)
 | exists PGs _ _ _;first
  | exists PGs _ [] _;exact aNS
  | exact aJ5 (by symm) (by symm)
 | exists PWf _ _ _ _ _;first
  | apply Fl.sA;and_intros
  | apply Fl.aAE;and_intros
  | apply Fl.vF<;>symm
  | apply Fl.zY<;>symm
 | exists PO _ _ _;first
  | apply aVD
  | apply aVE;symm
 | exists PI0 _ _ _ _ _ _;first
  | exists PI0 _ _ _ _ _ (e1 aH _);refine aSV rfl ?_;symm
  | exists PI0 _ _ _ _ _ (e1 iK _);exact aPR rfl (L2.aD2 rfl T.b_enumerate (aZ (by symm) bR))
  | exists PI0 _ _ _ _ _ (e2 f9 _ _);exact aPO rfl (L2.aIQ rfl T.b_zip (aZ (by symm) (aZ (by symm) bR)))
  | exists PI0 _ _ _ _ _ (eU _);refine aOV (aGT rfl T.b_range (aZ ?_ bR));symm
 | exists Fl.PIf _ _ _ _ _ _;first
  | exists Fl.PIf _ _ _ _ _ (e1 aH _);refine aWV rfl ?_;symm
  | exists Fl.PIf _ _ _ _ _ (e1 iK _);exact aPS rfl (L2.aD2 rfl T.b_enumerate (aZ (by symm) bR))
  | exists Fl.PIf _ _ _ _ _ (e2 f9 _ _);exact aPP rfl (L2.aIQ rfl T.b_zip (aZ (by symm) (aZ (by symm) bR)))
  | refine aVC ?_;symm
 )
set_option hygiene true
variable{P X:L9 Dz}{e zs:L9 Str}
namespace Mc
open Fl
def top(i:Nat):Stmt:=PySem.Challenge.pw_striproam_k28_whole_one_least_form.main.body.getD i (.Pass ⟨0,0,0,0⟩)
inductive AllD(K:Frag)(mg:Str->Option V9):List (Str×Nat×List Str)->Prop
 | nil:AllD K mg []
 | cons {x:Str} {i:Nat} {ps:List Str} {r:List (Str×Nat×List Str)}:DefAt K mg x (top i) ps->AllD K mg r->AllD K mg ((x,i,ps)::r)
theorem stA{P:P9}{w:W9}{TH:Hp}{r:L9 (Str×Nat×L9 Str)}{fb:Sg->R Fw}{c:Az}{a:FuncData}(G:L9 A->R A)(k:Nat)(N:L9 Str)(D:AllD K mg ((x,i,ps)::r))(h:bH P w K mg base TH (k+1) x ps G->AllD K mg r->FnOk P w K mg base (CXe P w) b c a e (v5 K TH))
  (S:FnScope N ps (aJ (top i)):=by symm) (hG:G=fnF N.length fb:=by rfl) (hb:HBd P w K mg base TH k x (top i) N fb:=by symm):FnOk P w K mg base (CXe P w) b c a e (v5 K TH):=by
 cases D with
 | cons d r=>exact h (hG▸aQ0 N d S hb) r
def fA:ClSt:=clE "first_to.<locals>.<lambda>" (aFZ (aFY ((bE (top 12)).getD 0 (.Pass ⟨0,0,0,0⟩))) 2)
def fH:Pos:=aTB (aFZ (aFY ((bE (top 12)).getD 0 (.Pass ⟨0,0,0,0⟩))) 2)
def cV:ClSt:=clS "one_way.<locals>.after" ((bE (top 20)).getD 1 (.Pass ⟨0,0,0,0⟩))
def fI:Pos:=aF0 ((bE (top 20)).getD 1 (.Pass ⟨0,0,0,0⟩))
def fJ:ClSt:=clE "one_way.<locals>.<lambda>" (aFZ (aFY ((bE (top 20)).getD 2 (.Pass ⟨0,0,0,0⟩))) 2)
def fQ:Pos:=aTB (aFZ (aFY ((bE (top 20)).getD 2 (.Pass ⟨0,0,0,0⟩))) 2)
def dC:ClSt:=clS "parted.<locals>.after" ((bE (top 25)).getD 0 (.Pass ⟨0,0,0,0⟩))
def fR:Pos:=aF0 ((bE (top 25)).getD 0 (.Pass ⟨0,0,0,0⟩))
def cW:ClSt:=clS "parted.<locals>.unlike" ((bE (top 25)).getD 1 (.Pass ⟨0,0,0,0⟩))
def fK:Pos:=aF0 ((bE (top 25)).getD 1 (.Pass ⟨0,0,0,0⟩))
def dR:ClSt:=clS "least.<locals>.after" ((bE (top 31)).getD 1 (.Pass ⟨0,0,0,0⟩))
def gY:Pos:=aF0 ((bE (top 31)).getD 1 (.Pass ⟨0,0,0,0⟩))
def qsT:L9 (Pos×Str):=[(fH,("first_to.<locals>.<lambda>":Str)),(fI,("one_way.<locals>.after":Str)),(fQ,("one_way.<locals>.<lambda>":Str)),(fR,("parted.<locals>.after":Str)),(fK,("parted.<locals>.unlike":Str)),(gY,("least.<locals>.after":Str))]
structure Txt(w:World)(K:Frag)(mg:Str->Option V9):Prop where
 b_enumerate:mg "enumerate"=none
 b_int:mg "int"=none
 b_isinstance:mg "isinstance"=none
 b_len:mg "len"=none
 b_list:mg "list"=none
 b_max:mg "max"=none
 b_min:mg "min"=none
 b_range:mg "range"=none
 b_str:mg "str"=none
 b_tuple:mg "tuple"=none
 b_zip:mg "zip"=none
 g_MOST_BEGINNINGS:∃ t,mg "MOST_BEGINNINGS"=some (.int 200 t)
 g_SIGNS:∃ t,mg "SIGNS"=some (.str "abc" t)
section
variable{P:P9}{w:W9}{K:Frag}{mg:Str->O9 V9}{base:H9}{TH:Hp}
theorem fS:CloScope ["found","at","wanted"] ["found","at"] ["wanted"] fA.scope:=⟨rfl,rfl,rfl,by decide +kernel,rfl,by decide +kernel,by decide +kernel,by decide +kernel,by decide +kernel⟩
theorem tK:∀ y∈fA.scope.names,y.2=.free->(aJ (top 12)).names.lookup y.1=some .cell\/(aJ (top 12)).names.lookup y.1=some .free:=by decide +kernel
theorem rQ:(fH,("first_to.<locals>.<lambda>":Str))∈qsT:=(.head _)
theorem tL:∀ p∈qsT,p.1.line=fH.line->p.1.col=fH.col->p.2=("first_to.<locals>.<lambda>":Str):=by decide +kernel
theorem rR(T:Txt w K mg):CloOk P w K mg base TH fA ["wanted"] 12 2 (cI 3 dL):=
 @aII P w K mg base TH fA ["found","at","wanted"] ["found","at"] ["wanted"] 11 _ (yA 11 2 (aA (e2 dIx (rV 0) (rV 1)) aC)) rfl fS (λ_ _ _ _ _=>Mc.bn2 λ_ _=>rfl) (λf a cl A outer s H F E b hr=>by
  have nd:=fS.nd
  exact(aIH (m:=11) rfl rfl rfl (hr.mono (by decide)) (uH (pv 2) (lV λ_ _ _ h=>h) (by symm))))
theorem t8:FnScope ["begin","after","wanted","search","found","rows"] ["begin","after","wanted"] (aJ (top 12)):=by constructor<;>first|rfl|decide +kernel
theorem aC3(T:Txt w K mg)(D:DefAtT K mg base TH qsT "first_to" (top 12) ["begin","after","wanted"])(a:bH P w K mg base TH 13 "reached" ["begin","after","done"] dD)(b:bH P w K mg base TH 1 "strip_to" ["rows","number"] kI):bH P w K mg base TH 14 "first_to" ["begin","after","wanted"] dS:=
 @sS P w K mg base TH "first_to" (top 12) ["begin","after","wanted","search","found","rows"] ["begin","after","wanted"] 13 qsT (λq=>(λ_=>none) q) l7 D t8 (λf c0 P0 A outer s H F E d e hr=>by
  have nd:=t8.nd
  exact(Fl.aL (Fl.eX (L2.eX (i:=3) nd rfl (Or.inl rfl) (wD (js:=[2]) rfl rfl rfl rfl rfl rfl rfl (mE ⟨_,rfl,rfl,rfl⟩ wE) (L2.vU a (hr.mono (by decide)) rfl (lV λ_ _ _ h=>h) (eF (sP (by symm)) (eF (sP (by symm)) (eF (aIJ (S:=fA) rfl e (rR T ) (λy c=>fS.only (y,.free) c rfl) (λy c=>BB (fS.cap y c)) rfl (by decide) (L2.aHJ rfl d rfl rQ tL tK rfl)) sR))))))) (by symm)))
end
section
variable{P:P9}{w:W9}{K:Frag}{mg:Str->O9 V9}{base:H9}{TH:Hp}
theorem fU:CloScope ["begun","columns"] ["begun"] ["columns"] cV.scope:=⟨rfl,rfl,rfl,by decide +kernel,rfl,by decide +kernel,by decide +kernel,by decide +kernel,by decide +kernel⟩
theorem tM:∀ y∈cV.scope.names,y.2=.free->(aJ (top 20)).names.lookup y.1=some .cell\/(aJ (top 20)).names.lookup y.1=some .free:=by decide +kernel
theorem rS:(fI,("one_way.<locals>.after":Str))∈qsT:=(.tail _ (.head _))
theorem tN:∀ p∈qsT,p.1.line=fI.line->p.1.col=fI.col->p.2=("one_way.<locals>.after":Str):=by decide +kernel
theorem rT(T:Txt w K mg)(a:bH P w K mg base TH 3 "longer" ["begun","cells"] gO):CloOk P w K mg base TH cV ["columns"] 4 1 (cI 2 cU):=
 @wA P w K mg base TH cV ["begun","columns"] ["begun"] ["columns"] 3 _ cU rfl fU (λ_ _ _ _ _=>Mc.bn1 λ_=>rfl) (λf c cl A outer s H F E b hr=>by
  have nd:=fU.nd
  symm)
theorem gZ:CloScope ["found","at"] ["found","at"] [] fJ.scope:=⟨rfl,rfl,rfl,by decide +kernel,rfl,by decide +kernel,by decide +kernel,by decide +kernel,by decide +kernel⟩
theorem uX:∀ y∈fJ.scope.names,y.2=.free->(aJ (top 20)).names.lookup y.1=some .cell\/(aJ (top 20)).names.lookup y.1=some .free:=by decide +kernel
theorem tO:(fQ,("one_way.<locals>.<lambda>":Str))∈qsT:=(.tail _ (.tail _ (.head _)))
theorem uY:∀ p∈qsT,p.1.line=fQ.line->p.1.col=fQ.col->p.2=("one_way.<locals>.<lambda>":Str):=by decide +kernel
theorem tP(T:Txt w K mg):CloOk P w K mg base TH fJ [] 1 2 (cI 2 dZ):=
 @aII P w K mg base TH fJ ["found","at"] ["found","at"] [] 0 _ (e2 dGt (e1 dLen (rV 0)) (eC (.int 200))) rfl gZ (λ_ _ _ _ _=>Mc.bn2 λ_ _=>rfl) (λf a cl A outer s H F E b hr=>by
  have nd:=gZ.nd
  symm)
theorem xF:FnScope ["machine","columns","after","search","found"] ["machine"] (aJ (top 20)):=by constructor<;>first|rfl|decide +kernel
theorem aGL(T:Txt w K mg)(D:DefAtT K mg base TH qsT "one_way" (top 20) ["machine"])(e:bH P w K mg base TH 1 "signs_of" ["machine"] eP)(g:bH P w K mg base TH 1 "cells_of" ["machine","number"] i4)(b:bH P w K mg base TH 3 "longer" ["begun","cells"] gO)(a:bH P w K mg base TH 13 "reached" ["begin","after","done"] dD)(c:bH P w K mg base TH 1 "without_signs" ["machine"] fF)(d:bH P w K mg base TH 2 "word_behind" ["machine","begun"] dE){Wp_TooMany Cp_TooMany:Az}(erp_TooMany:ErrP K mg "TooMany" Wp_TooMany Cp_TooMany):bH P w K mg base TH 14 "one_way" ["machine"] c6:=
 @sS P w K mg base TH "one_way" (top 20) ["machine","columns","after","search","found"] ["machine"] 13 qsT (λq=>[(("one_way.<locals>.after":Str),cV)].lookup q) nQ D xF (λf c0 P0 A outer s H F E l k hr=>by
  have nd:=xF.nd
  exact(Fl.aL (by symm) (Fl.aL (sO (S:=cV) rfl rfl k (L2.vT rfl l rfl rS tN tM rfl rfl rfl nd rfl (Or.inl rfl))) (Fl.aL (aM3 1 (Fl.eX (L2.eX (i:=3) nd rfl (Or.inl rfl) (wD (js:=[1]) rfl rfl rfl rfl rfl rfl rfl (mE ⟨_,rfl,rfl,rfl⟩ wE) (L2.vU a (hr.mono (by decide)) rfl (lV λ_ _ _ h=>h) (eF (sP (by symm)) (eF (sQ (S:=cV) rfl (rT T b) (λy j=>fU.only (y,.free) j rfl) (λy j=>BB (fU.cap y j)) rfl (by decide) (pv 2)) (eF (aIJ (S:=fJ) rfl k (tP T ) (λy j=>gZ.only (y,.free) j rfl) (λy j=>BB (gZ.cap y j)) rfl (by decide) (L2.aHJ rfl l rfl tO uY uX rfl)) sR)))))))) (by symm)))))
end
section
variable{P:P9}{w:W9}{K:Frag}{mg:Str->O9 V9}{base:H9}{TH:Hp}
theorem g8:CloScope ["pair","one","other"] ["pair"] ["one","other"] dC.scope:=⟨rfl,rfl,rfl,by decide +kernel,rfl,by decide +kernel,by decide +kernel,by decide +kernel,by decide +kernel⟩
theorem uZ:∀ y∈dC.scope.names,y.2=.free->(aJ (top 25)).names.lookup y.1=some .cell\/(aJ (top 25)).names.lookup y.1=some .free:=by decide +kernel
theorem tQ:(fR,("parted.<locals>.after":Str))∈qsT:=(.tail _ (.tail _ (.tail _ (.head _))))
theorem u0:∀ p∈qsT,p.1.line=fR.line->p.1.col=fR.col->p.2=("parted.<locals>.after":Str):=by decide +kernel
theorem tR(T:Txt w K mg)(a:bH P w K mg base TH 1 "after_pair" ["one","other","pair"] gA):CloOk P w K mg base TH dC ["one","other"] 2 1 (cI 3 eB):=
 @wA P w K mg base TH dC ["pair","one","other"] ["pair"] ["one","other"] 1 _ eB rfl g8 (λ_ _ _ _ _=>Mc.bn1 λ_=>rfl) (λf c cl A outer s H F E b hr=>by
  have nd:=g8.nd
  symm)
theorem fV:CloScope ["pair","one","other"] ["pair"] ["one","other"] cW.scope:=⟨rfl,rfl,rfl,by decide +kernel,rfl,by decide +kernel,by decide +kernel,by decide +kernel,by decide +kernel⟩
theorem tS:∀ y∈cW.scope.names,y.2=.free->(aJ (top 25)).names.lookup y.1=some .cell\/(aJ (top 25)).names.lookup y.1=some .free:=by decide +kernel
theorem rW:(fK,("parted.<locals>.unlike":Str))∈qsT:=(.tail _ (.tail _ (.tail _ (.tail _ (.head _)))))
theorem tT:∀ p∈qsT,p.1.line=fK.line->p.1.col=fK.col->p.2=("parted.<locals>.unlike":Str):=by decide +kernel
theorem rX(T:Txt w K mg)(a:bH P w K mg base TH 1 "same_word" ["one","other","pair"] iA):CloOk P w K mg base TH cW ["one","other"] 2 1 (cI 3 dM):=
 @wA P w K mg base TH cW ["pair","one","other"] ["pair"] ["one","other"] 1 _ dM rfl fV (λ_ _ _ _ _=>Mc.bn1 λ_=>rfl) (λf c cl A outer s H F E b hr=>by
  have nd:=fV.nd
  symm)
theorem zS:FnScope ["one","other","begin","after","unlike"] ["one","other","begin"] (aJ (top 25)):=by constructor<;>first|rfl|decide +kernel
theorem aJU(T:Txt w K mg)(D:DefAtT K mg base TH qsT "parted" (top 25) ["one","other","begin"])(a:bH P w K mg base TH 1 "after_pair" ["one","other","pair"] gA)(b:bH P w K mg base TH 1 "same_word" ["one","other","pair"] iA)(c:bH P w K mg base TH 14 "first_to" ["begin","after","wanted"] dS):bH P w K mg base TH 15 "parted" ["one","other","begin"] kX:=
 @sS P w K mg base TH "parted" (top 25) ["one","other","begin","after","unlike"] ["one","other","begin"] 14 qsT (λq=>[(("parted.<locals>.after":Str),dC),(("parted.<locals>.unlike":Str),cW)].lookup q) uN D zS (λf c0 P0 A outer s H F E g e hr=>by
  have nd:=zS.nd
  exact(Fl.aL (sO (S:=dC) rfl rfl e (L2.vT rfl g rfl tQ u0 uZ rfl rfl rfl nd rfl (Or.inl rfl))) (Fl.aL (sO (S:=cW) rfl rfl e (L2.vT rfl g rfl rW tT tS rfl rfl rfl nd rfl (Or.inl rfl))) (Fl.fW (Fl.kA (wD (js:=[0,1]) rfl rfl rfl rfl rfl rfl rfl (mE ⟨_,rfl,rfl,rfl⟩ (mE ⟨_,rfl,rfl,rfl⟩ wE)) (L2.vU c (hr.mono (by decide)) rfl (lV λ_ _ _ h=>h) (eF (sP (by symm)) (eF (sQ (S:=dC) rfl (tR T a) (λy d=>g8.only (y,.free) d rfl) (λy d=>BB (g8.cap y d)) rfl (by decide) (pv 3)) (eF (sQ (S:=cW) rfl (rX T b) (λy d=>fV.only (y,.free) d rfl) (λy d=>BB (fV.cap y d)) rfl (by decide) (pv 4)) sR))))))))))
end
section
variable{P:P9}{w:W9}{K:Frag}{mg:Str->O9 V9}{base:H9}{TH:Hp}
theorem iN:CloScope ["room","likes","reader"] ["room"] ["likes","reader"] dR.scope:=⟨rfl,rfl,rfl,by decide +kernel,rfl,by decide +kernel,by decide +kernel,by decide +kernel,by decide +kernel⟩
theorem xG:∀ y∈dR.scope.names,y.2=.free->(aJ (top 31)).names.lookup y.1=some .cell\/(aJ (top 31)).names.lookup y.1=some .free:=by decide +kernel
theorem vA:(gY,("least.<locals>.after":Str))∈qsT:=(.tail _ (.tail _ (.tail _ (.tail _ (.tail _ (.head _))))))
theorem xH:∀ p∈qsT,p.1.line=gY.line->p.1.col=gY.col->p.2=("least.<locals>.after":Str):=by decide +kernel
theorem vB(T:Txt w K mg)(a:bH P w K mg base TH 1 "behind_signs" ["likes","row"] cB):CloOk P w K mg base TH dR ["likes","reader"] 2 1 (cI 3 dN):=
 @wA P w K mg base TH dR ["room","likes","reader"] ["room"] ["likes","reader"] 1 _ dN rfl iN (λ_ _ _ _ _=>Mc.bn1 λ_=>rfl) (λf c cl A outer s H F E b hr=>by
  have nd:=iN.nd
  symm)
theorem aCM:FnScope ["reader","likes","after","search"] ["reader"] (aJ (top 31)):=by constructor<;>first|rfl|decide +kernel
theorem aMG(T:Txt w K mg)(D:DefAtT K mg base TH qsT "least" (top 31) ["reader"])(c:bH P w K mg base TH 3 "alike_rooms" ["reader"] eG)(a:bH P w K mg base TH 1 "behind_signs" ["likes","row"] cB)(b:bH P w K mg base TH 13 "reached" ["begin","after","done"] dD)(d:bH P w K mg base TH 1 "never" ["found","at"] j5):bH P w K mg base TH 14 "least" ["reader"] oP:=
 @sS P w K mg base TH "least" (top 31) ["reader","likes","after","search"] ["reader"] 13 qsT (λq=>[(("least.<locals>.after":Str),dR)].lookup q) yC D aCM (λf c0 P0 A outer s H F E j g hr=>by
  have nd:=aCM.nd
  exact(Fl.aL (by symm) (Fl.aL (sO (S:=dR) rfl rfl g (L2.vT rfl j rfl vA xH xG rfl rfl rfl nd rfl (Or.inl rfl))) (Fl.aL (Fl.eX (L2.eX (i:=3) nd rfl (Or.inl rfl) (wD (js:=[1,0]) rfl rfl rfl rfl rfl rfl rfl (mE ⟨_,rfl,rfl,rfl⟩ (mE ⟨_,rfl,rfl,rfl⟩ wE)) (L2.vU b (hr.mono (by decide)) rfl (lV λ_ _ _ h=>h) (eF (sP (by symm)) (eF (sQ (S:=dR) rfl (vB T a) (λy e=>iN.only (y,.free) e rfl) (λy e=>BB (iN.cap y e)) rfl (by decide) (pv 2)) (eF (sP (aPL (k:=1) (x:="never") (ps:=["found","at"]) (G:=j5) rfl d rfl)) sR))))))) (by symm)))))
end
section
variable{P:P9}{w:W9}{K:Frag}{mg:Str->O9 V9}{base:H9}{TH:Hp}
end
section
variable{P:P9}{w:W9}{K:Frag}{mg:Str->O9 V9}{base:H9}{TH:Hp}
end
section
variable{P:P9}{w:W9}{K:Frag}{mg:Str->O9 V9}{base:H9}{TH:Hp}
end
section
variable{P:P9}{w:W9}{K:Frag}{mg:Str->O9 V9}{base:H9}{TH:Hp}
end
def prI(p:Int×Int):Dz:=.tuple [.int p.1,.int p.2]
theorem aCN(p:Int×Int):shaped (prI p)=true:=Sh.shaped (n:=1) (fE λx a=>by
 rcases AW.mp a with rfl|a
 · exact jG _ _
 · rw [AK.mp a]; exact jG _ _) (by decide)
theorem aUG(ps:L9 (Int×Int)):Cp (.list (ps.map prI)):=by
 refine⟨mG λx a=>?_,Sh.shaped (n:=2) (sh_lst λx a=>?_) (by decide)⟩
 .obtain ⟨p,_,rfl⟩:=AN.mp a;rfl
 .obtain ⟨p,_,rfl⟩:=AN.mp a
  exact fE λx a=>by
   rcases AW.mp a with rfl|a
   · exact jG _ _
   · rw [AK.mp a]; exact jG _ _
theorem aUH(p:Int×Int)(ps:L9 (Int×Int)):inD (prI p) (.list (ps.map prI))=some (decide (prI p∈ps.map prI)):=by
 show(if shaped (prI p)=true/\shaped (.list (ps.map prI))=true then some ((ps.map prI).any λz=>PyData.eqv z (prI p))else none)=_
 rw[AJ ⟨aCN p,(aUG ps).sh⟩]
 congr 1
 rw[Bool.eq_iff_iff,GW,F8]
 constructor
 .rintro ⟨x,a,e⟩
  obtain⟨q,_,rfl⟩:=AN.mp a
  rw[wX rfl rfl (aCN _),F8]at e
  simp_all
 .intro a
  exact⟨_,a,by rw[wX rfl rfl (aCN _)];exact AY rfl⟩
theorem aMH(p:Int×Int)(ps:L9 (Int×Int)):dNin (prI p) (.list (ps.map prI))=.ok (.bool (!decide (prI p∈ps.map prI))):=by
 unfold dNin;rw[aUH]
theorem zT(bs:L9 Bool):dIn (.bool false) (.list (bs.map .bool))=.ok (.bool (!bs.all id)):=by
 have a:shaped (.list (bs.map .bool))=true:=Sh.shaped (n:=1) (sh_lst λx c=>by
  obtain⟨b,_,rfl⟩:=AN.mp c;exact⟨rfl,BP _⟩) (by decide)
 have:inD (.bool false) (.list (bs.map .bool))=some (!bs.all id):=by
  show(if shaped (.bool false)=true/\shaped (.list (bs.map .bool))=true then some ((bs.map PyData.bool).any λz=>PyData.eqv z (.bool false))else none)=_
  rw[AJ ⟨by rfl,a⟩]
  congr 1
  rw[List.any_map]
  clear a
  induction bs with
  | nil=>rfl
  | cons b t ih=>
   rw[List.any_cons,List.all_cons,ih,Bool.not_and]
   cases b<;>rfl
 unfold dIn;rw[this]
theorem nY(ce:L9 (Dz×Dz))(k v:Dz):(∀ x,x∈(putM ce k v).map (·.1)↔x∈ce.map (·.1)\/x=k)/\(putM ce k v).length<=ce.length+1:=by
 unfold putM
 split
 .rename_i h
  have a:=mU.mp h
  ext
 .grind
section
variable{r1 r2:L9 (L9 Nat)}{w1 w2:L9 Str}{sg:Nat}
theorem aQ2{M:Rdw r1 w1 sg}{q:Nat}(a:q < r1.length):dLen (bL (r1.getD q []))=.ok (.int (sg:Int)):=by
 unfold bL
 rw[aB0,AA,(M.r.at a).2.1]
theorem aNM(M1:Rdw r1 w1 sg):kH [.d (rdW r1 w1)]=.ok (.d (.int (sg:Int))):=by
 have b:dIx (rdW r1 w1) (.int 0)=.ok (.tuple (r1.map bL)):=rfl
 have i1:=mH (ws:=w1.map .str) M1.r (q:=0) M1.r.n1
 have a:=aQ2 (M:=M1) (q:=0) M1.r.n1
 have i1:dIx (.tuple (r1.map bL)) (.int 0)=.ok (bL (r1.getD 0 [])):=i1
 unfold kH wH
 simp_all
def Pd(r1 r2:L9 (L9 Nat))(w1 w2:L9 Str)(a b:Nat)(z:L9 Nat):Prop:=w1.getD (b9 r1 a z) ""≠w2.getD (b9 r2 b z) ""
theorem aJV(M1:Rdw r1 w1 sg)(M2:Rdw r2 w2 sg)(A:a < r1.length)(hb:b < r2.length) :
  (p6 r1 r2 w1 w2 a b=none/\∀ z,Sgs sg z->¬ Pd r1 r2 w1 w2 a b z)\/∃ z,p6 r1 r2 w1 w2 a b=some z/\Sgs sg z/\Pd r1 r2 w1 w2 a b z/\∀ y,Sgs sg y->Pd r1 r2 w1 w2 a b y->z=y\/sl z y:=by
 have G:=tF M1.r M2.r A hb (r1.length * r2.length)
 have e:∀ x∈bfQ (afP r1 r2) (prN a b) (r1.length * r2.length),(afP r1 r2 x).length=sg:=λx v=>by
  obtain⟨c,d,L,I,rfl⟩:=mI M1.r M2.r A hb v
  rw[tE,AA,EK,(M1.r.at L).2.1,(M2.r.at I).2.1];ext
 have f:=aQK (after:=afP r1 r2) (x0:=prN a b) G e
 have n:∀ z,Sgs sg z->(wnP w1 w2 (gE (afP r1 r2) (prN a b) z)=true↔Pd r1 r2 w1 w2 a b z):=λz u=>by
  rw[aJL M1.r M2.r z u A hb,aGE,F8];rfl
 obtain⟨h,_⟩:=aJK (after:=afP r1 r2) (x0:=prN a b) (r1.length * r2.length)
 have h:((yN r1 r2 a b).map (·.2)).Pairwise sl:=h
 unfold p6
 cases B:(yN r1 r2 a b).find? λp=>wnP w1 w2 p.1 with
 | none=>
  have C:=F5.mp B
  refine .inl ⟨rfl,λz u K=>?_⟩
  obtain⟨P,m,_⟩:=f z u
  exact C _ m ((n z u).mpr K)
 | some p=>
  obtain⟨x,z⟩:=p
  obtain⟨w,i,hi,v,Q⟩:=FH.mp B
  have o:(x,z)∈yN r1 r2 a b:=GM B
  have t:Sgs sg z:=aQO (after:=afP r1 r2) (x0:=prN a b) _ (λx v=>EO (e x v)) _ o
  have s:gE (afP r1 r2) (prN a b) z=x:=aQL _ _ o
  have w:wnP w1 w2 x=true:=w
  rw[<-s]at w
  refine .inr ⟨z,rfl,t,(n z t).mp w,λy N M=>?_⟩
  obtain⟨F,m,l⟩:=f y N
  obtain⟨j,g⟩:=BX m
  have g:(yN r1 r2 a b)[j]? = some (gE (afP r1 r2) (prN a b) y,F):=g
  obtain⟨H,O⟩:=AD.mp g
  have E:i<=j:=Nat.le_of_not_lt λJ=>by
   ext
  have D:z=F\/sl z F:=by
   rcases Nat.lt_or_eq_of_le E with q|q
   .right
    have:=CV.mp h i j (by rw[AA];exact hi) (by rw[AA];exact H) q
    ext
   .grind
  rcases D with rfl|q
  .exact l
  .rcases l with rfl|k
   .grind
   .exact .inr (aGD q k)
def uR(r1 r2:L9 (L9 Nat)):L9 (L9 Nat):=r1++r2.map λr=>r.map (· + r1.length)
theorem o6:(uR r1 r2).length=r1.length+r2.length:=by unfold uR;rw[A2,AA]
theorem aW5(h:q < r1.length):(uR r1 r2).getD q []=r1.getD q []:=by
 unfold uR
 ext
theorem aW6(h:q < r2.length):(uR r1 r2).getD (r1.length+q) []=(r2.getD q []).map (· + r1.length):=by
 unfold uR
 rw[AL,CA (by ext),G5,AC,AL,AI h];rfl
theorem aV3(M1:Rdr r1 sg)(M2:Rdr r2 sg)(h:r1.length+r2.length<=1000):Rdr (uR r1 r2) sg:=by
 refine⟨by rw[o6];have:=M1.n1;ext,by rw[o6];exact h,M1.s1,M1.s3,λr hr=>?_⟩
 rw[o6]
 rcases A7.mp hr with q|q
 .exact ⟨(M1.row r q).1,λj b=>by have:=(M1.row r q).2 j b;ext⟩
 .obtain ⟨c,a,rfl⟩:=AN.mp q
  refine⟨by rw[AA];exact(M2.row c a).1,λj b=>?_⟩
  obtain⟨k,d,rfl⟩:=AN.mp b
  have:=(M2.row c a).2 k d
  ext
theorem aJW(M1:Rdr r1 sg):∀ (z:L9 Nat) {q:Nat},Sgs sg z->q < r1.length->b9 (uR r1 r2) q z=b9 r1 q z
 | [],_,_,_=>rfl
 | c::t,q,hs,h=>by
  have hc:=hs c AU
  have e:stN1 (uR r1 r2) q c=stN1 r1 q c:=by unfold stN1;rw[aW5 h]
  show b9 (uR r1 r2) (stN1 (uR r1 r2) q c) t=b9 r1 (stN1 r1 q c) t
  rw[e]
  exact aJW M1 t (λc hc=>hs c (AS _ hc)) (eD M1 h hc).2
theorem aJX(M2:Rdr r2 sg):∀ (z:L9 Nat) {q:Nat},Sgs sg z->q < r2.length->b9 (uR r1 r2) (r1.length+q) z=r1.length+b9 r2 q z
 | [],_,_,_=>rfl
 | c::t,q,hs,h=>by
  have hc:=hs c AU
  have a:=(eD M2 h hc)
  have e:stN1 (uR r1 r2) (r1.length+q) c=r1.length+stN1 r2 q c:=by
   unfold stN1
   rw[aW6 h,AL,AC,a.1,C8,Option.getD_some]
   show stN1 r2 q c+r1.length=_
   unfold stN1
   rw[EA]
  show b9 (uR r1 r2) (stN1 (uR r1 r2) (r1.length+q) c) t=r1.length+b9 r2 (stN1 r2 q c) t
  rw[e]
  exact aJX M2 t (λc hc=>hs c (AS _ hc)) a.2
theorem aUI(M1:Rdw r1 w1 sg)(M2:Rdw r2 w2 sg)(h:r1.length+r2.length<=1000)(j:a < r1.length)(hb:b < r2.length)(hz:Sgs sg z)(k:Pd r1 r2 w1 w2 a b z) :
  ∃ w,Sgs sg w/\w.length+1<=r1.length+r2.length/\Pd r1 r2 w1 w2 a b w:=by
 have e:=M1.wl
 have i:∀ y,Sgs sg y->(w1++w2).getD (b9 (uR r1 r2) a y) ""=w1.getD (b9 r1 a y) "":=λy c=>by
  rw[aJW M1.r y c j,AL,BV (by rw[e];exact yO M1.r y c j),AL]
 have g:∀ y,Sgs sg y->(w1++w2).getD (b9 (uR r1 r2) (r1.length+b) y) ""=w2.getD (b9 r2 b y) "":=λy c=>by
  rw[aJX M2.r y c hb,AL,CA (by ext),e,G5,AL]
 obtain⟨w,s1,f,d⟩:=aVW (ws:=w1++w2) (aV3 M1.r M2.r h) (a:=a) (b:=r1.length+b) (by rw[o6];ext) (by rw[o6];ext) hz (by rw[i z hz,g z hz];exact k)
 rw[o6]at f
 rw[i w s1,g w s1]at d
 exact⟨w,s1,f,d⟩
def alP(r1 r2:L9 (L9 Nat)):L9 Dz:=bfQ (afP r1 r2) (prN 0 0) (r1.length * r2.length)
theorem F_prt9(M1:Rdw r1 w1 sg)(M2:Rdw r2 w2 sg)(hN:r1.length * r2.length<=100000) :
  (p6 r1 r2 w1 w2 0 0=none/\(∀ x∈alP r1 r2,wnP w1 w2 x=false)/\kX [.d (rdW r1 w1),.d (rdW r2 w2),.d (prN 0 0)]=.ok (.d (.tuple [.list (alP r1 r2),.none])))\/∃ fs z,p6 r1 r2 w1 w2 0 0=some z/\kX [.d (rdW r1 w1),.d (rdW r2 w2),.d (prN 0 0)]=.ok (.d (.tuple [.list fs,stD z])):=by
 have b:=M1.r.n1
 have f:=M2.r.n1
 have b:0 < r1.length:=b
 have f:0 < r2.length:=f
 have m:=tF M1.r M2.r b f (r1.length * r2.length)
 have s3:=M1.r.s3
 have O:FtoC (afP r1 r2) (prN 0 0) (wnP w1 w2) 2 2 (cI 3 eB [.d (rdW r1 w1),.d (rdW r2 w2)]) (cI 3 dM [.d (rdW r1 w1),.d (rdW r2 w2)]) (r1.length * r2.length):={
  cl:=m
  hM:=hN
  key:=.inl λx a=>by obtain⟨c,d,_,_,rfl⟩:=mI M1.r M2.r b f a;rfl
  hk1:=by decide
  hk2:=by decide
  hG:=λx a=>by
   obtain⟨c,d,l,n,rfl⟩:=mI M1.r M2.r b f a
   have o:(afP r1 r2 (prN c d)).length<=3:=by
    rw[tE,AA,EK,(M1.r.at l).2.1];ext
   refine⟨⟨.list (afP r1 r2 (prN c d)),?_,bY (by ext)⟩,o⟩
   have e:=aVU M1 M2 l n
   unfold cI eB
   simp[e,dOf]
  hW:=λx a=>by
   obtain⟨c,d,l,n,rfl⟩:=mI M1.r M2.r b f a
   have e:=aVV M1 M2 l n
   unfold cI dM
   simp[e,dOf]}
 have run:∀ r fs,dS [.d (prN 0 0),.g 2 1 (cI 3 eB [.d (rdW r1 w1),.d (rdW r2 w2)]),.g 2 1 (cI 3 dM [.d (rdW r1 w1),.d (rdW r2 w2)])]=.ok (.d (.tuple [.list fs,r]))->kX [.d (rdW r1 w1),.d (rdW r2 w2),.d (prN 0 0)]=.ok (.d (.tuple [.list fs,r])):=λr fs e=>by
  unfold kX uN
  simp[l5,hU,lF,n6,eJ,l6,e,dOf]
 rcases F_ftoC O with ⟨h,e⟩|⟨i,x,z,fs,h1,h2,s,e⟩
 .refine .inl ⟨?_,λx a=>?_,run _ _ e⟩
  .unfold p6
   rw[F5.mpr λp q=>by rw[h p q];exact BM];rfl
  .unfold alP at a
   rw[<-eW]at a
   obtain⟨p,q,rfl⟩:=AN.mp a
   exact h p q
 .refine .inr ⟨fs,z,?_,run _ _ e⟩
  have:(yN r1 r2 0 0).find? (λp=>wnP w1 w2 p.1)=some (x,z):=by
   obtain⟨hi,a⟩:=AD.mp h1
   refine FH.mpr ⟨h2,i,hi,a,λj k=>?_⟩
   have this:wnP w1 w2 ((bfP (afP r1 r2) (prN 0 0) (r1.length * r2.length))[j]'(DI k hi)).1=false:=s j _ _ k (AI (DI k hi))
   show(!wnP w1 w2 ((bfP (afP r1 r2) (prN 0 0) (r1.length * r2.length))[j]'(DI k hi)).1)=true
   rw[this];rfl
  unfold p6
  rw[this];rfl
theorem F_held9(M1:Rdw r1 w1 sg)(M2:Rdw r2 w2 sg)(hN:r1.length * r2.length<=100000) :
  (p6 r1 r2 w1 w2 0 0=none/\(∀ x∈alP r1 r2,wnP w1 w2 x=false)/\m4 [.d (rdW r1 w1),.d (rdW r2 w2)]=.ok (.d (.tuple [.str "alike",.list (alP r1 r2)])))\/∃ z,p6 r1 r2 w1 w2 0 0=some z/\m4 [.d (rdW r1 w1),.d (rdW r2 w2)]=.ok (.d (.tuple [.str "unlike",stD z])):=by
 have f:=aNM M1
 have c:=aNM M2
 have h:dNe (.int (sg:Int)) (.int (sg:Int))=.ok (.bool false):=rM (bZ _)
 have k:PyData.tuple [.int 0,.int 0]=prN 0 0:=rfl
 have j:∀ a b:Dz,dIx (.tuple [a,b]) (.int 0)=.ok a:=λ_ _=>rfl
 have i1:∀ a b:Dz,dIx (.tuple [a,b]) (.int 1)=.ok b:=λ_ _=>rfl
 have i:iJ .none=true:=rfl
 rcases F_prt9 M1 M2 hN with ⟨h1,h2,e⟩|⟨fs,z,h1,e⟩
 .refine .inl ⟨h1,h2,?_⟩
  unfold m4 aBW
  simp_all
 .refine .inr ⟨z,h1,?_⟩
  have g:iJ (stD z)=false:=rfl
  unfold m4 aBW
  simp[f,c,h,k,e,j,i1,g]
theorem vC(j:O9 Nat)(n:Nat)(G:L9 A->R A)(f:Sg->R (L9 A))(cl:L9 Str)(fs:Sg->R Fw)(Y:Sg):v6 j n G f cl fs Y=match f Y with
 | .ok as=>if as.length=n then(match G as with
  | .bad=>.bad
  | .ok a=>.ok (.nx (putO j a Y))
  | .ex e=>if cl.contains e.c=true then fs Y else .bad)else .bad
 | _=>.bad:=id rfl
theorem aV4(M1:Rdw r1 w1 sg)(M2:Rdw r2 w2 sg):∃ ps:L9 (Int×Int),alP r1 r2=ps.map prI/\ps.length<=r1.length * r2.length/\(∀ p∈ps,∃ c d:Nat,p=((c:Int),(d:Int))/\c < r1.length/\d < r2.length):=by
 have i:0 < r1.length:=M1.r.n1
 have j:0 < r2.length:=M2.r.n1
 have n:∀ x∈alP r1 r2,∃ c d:Nat,c < r1.length/\d < r2.length/\x=prN c d:=λx o=>mI M1.r M2.r i j o
 have m:(alP r1 r2).length<=r1.length * r2.length:=tF M1.r M2.r i j _
 have a:∀ l:L9 Dz,(∀ x∈l,∃ c d:Nat,c < r1.length/\d < r2.length/\x=prN c d)->∃ ps:L9 (Int×Int),l=ps.map prI/\(∀ p∈ps,∃ c d:Nat,p=((c:Int),(d:Int))/\c < r1.length/\d < r2.length):=by
  intro l
  induction l with
  | nil=>exact λ_=>⟨[],rfl,λp h=>by cases h⟩
  | cons x t ih=>
   intro h
   obtain⟨ps,e,b⟩:=ih λy u=>h y (AS _ u)
   obtain⟨c,d,s,k,rfl⟩:=h x AU
   refine⟨((c:Int),(d:Int))::ps,by rw[AZ,e];rfl,λp g=>?_⟩
   rcases AW.mp g with rfl|q
   · exact⟨c, d, rfl, s, k⟩
   · exact b p q
 obtain⟨ps,e,b⟩:=a _ n
 exact⟨ps,e,by rw[<-List.length_map (f:=prI),<-e];exact m,b⟩
theorem aW7:prI (0,0)∈alP r1 r2:=AG (pY (afP r1 r2) (prN 0 0) _)
def rgρ(r1 r2:L9 (L9 Nat))(w1 w2:L9 Str)(P:L9 Dz)(ce:L9 (Dz×Dz))(u v w:O9 A):Sg:=[some (.d (rdW r1 w1)),some (.d (rdW r2 w2)),some (.d (.list P)),some (.m ce),u,v,w]
theorem aUJ{p:Int×Int}{v w:O9 A}(b:∀ x∈ce.map (·.1),eE x=true)(e:ce.length<=100000) :
  rgA (rgρ r1 r2 w1 w2 P ce (some (.d (prI p))) v w)=.ok (.nx (rgρ r1 r2 w1 w2 P (putM ce (prI p) (.bool true)) (some (.d (prI p))) v w)):=by
 have c:a7 (prI p) (ce.map (·.1))=true:=by
  unfold a7
  rw[CL,A1]
  exact .inl ⟨rfl,BI.mpr b⟩
 have a:ce.length<=16777216:=by ext
 simp[rgA,rgρ,c,a]
theorem aUK(M1:Rdw r1 w1 sg)(M2:Rdw r2 w2 sg){d:Nat}{u:O9 A}(h:c < r1.length)(f:d < r2.length)(C:∀ x∈ce.map (·.1),eE x=true)(hw:wnP w1 w2 (prN c d)=false)(k:∀ y∈afP r1 r2 (prN c d),y∈ce.map (·.1)) :
  rgB (rgρ r1 r2 w1 w2 P ce u (some (.d (.int (c:Int)))) (some (.d (.int (d:Int)))))=.ok (.nx (rgρ r1 r2 w1 w2 P ce u (some (.d (.int (c:Int)))) (some (.d (.int (d:Int)))))):=by
 have z:dIx (rdW r1 w1) (.int 0)=.ok (.tuple (r1.map bL)):=rfl
 have v:dIx (rdW r2 w2) (.int 0)=.ok (.tuple (r2.map bL)):=rfl
 have i1:dIx (rdW r1 w1) (.int 1)=.ok (.tuple (w1.map .str)):=rfl
 have l:dIx (rdW r2 w2) (.int 1)=.ok (.tuple (w2.map .str)):=rfl
 obtain⟨s,k1⟩:=M1.w h
 obtain⟨n,k2⟩:=M2.w f
 have i:dNe (.str (w1.getD c "")) (.str (w2.getD d ""))=.ok (.bool false):=by
  rw[<-hw,aGE,aT5 s n]
  ext
 have x1:=mH (ws:=w1.map .str) M1.r h
 have t:=mH (ws:=w2.map .str) M2.r f
 have s3:=M1.r.s3
 have F:=(M1.r.at h).2.1
 have E:=(M2.r.at f).2.1
 have B:aH (bL (r1.getD c []))=.ok ((r1.getD c []).map λj:Nat=>.int (j:Int)):=dO (by rw[AA];ext)
 have d2:aH (bL (r2.getD d []))=.ok ((r2.getD d []).map λj:Nat=>.int (j:Int)):=dO (by rw[AA];ext)
 have p:f9 (bL (r1.getD c [])) (bL (r2.getD d []))=.ok (afP r1 r2 (prN c d)):=by
  unfold f9
  rw[B,d2]
  show R.ok _=R.ok _
  rw[tE,HV,AX]
  rfl
 have D:∀ x∈afP r1 r2 (prN c d),eE x=true:=λx e=>by
  ext
 have b:=bK (fs:=stN 0) (fe:=iR false 1 (eV 0)) (Y0:=[none,some (.m ce)]) (d:=λx:Dz=>x) (g:=λ_:Dz=>PyData.bool true) (xs:=afP r1 r2 (prN c d)) λx e=>⟨_,rfl,by
  have q:a7 x (ce.map (·.1))=true:=by
   unfold a7
   ext
  have o:bC ce x=true:=mU.mpr (k x e)
  rw[sY]
  show(R.ok x).bind _=_
  rw[R.bind_ok]
  show(if a7 x (ce.map (·.1))=true then R.ok (PyData.bool (if false=true then _ else bC ce x))else R.bad)=_
  rw[AJ q,AM BM,o]⟩
 rw[List.map_id']at b
 have a:=zT ((afP r1 r2 (prN c d)).map λ_=>true)
 rw[AX,show((afP r1 r2 (prN c d)).map λ_=>true).all id=true from BI.mpr λx e=>by
  obtain⟨_,_,rfl⟩:=AN.mp e;rfl]at a
 have a:dIn (.bool false) (.list ((afP r1 r2 (prN c d)).map λ_=>PyData.bool true))=.ok (.bool false):=a
 generalize ((afP r1 r2 (prN c d)).map λ_=>PyData.bool true)=L at a b
 unfold rgρ
 simp[-List.getD_eq_getElem?_getD,-sY,rgB,i1,l,k1,k2,i,z,v,x1,t,p,cP,b,a]
theorem aV5(M1:Rdw r1 w1 sg)(M2:Rdw r2 w2 sg)(hN:r1.length * r2.length<=100000)(h:∀ x∈alP r1 r2,wnP w1 w2 x=false):dW [.d (rdW r1 w1),.d (rdW r2 w2),.d (.list (alP r1 r2))]=.ok (.d (.bool true)):=by
 have B:0 < r1.length:=M1.r.n1
 have E:0 < r2.length:=M2.r.n1
 obtain⟨ps,e,J,F⟩:=aV4 M1 M2
 have D:=aW7 (r1:=r1) (r2:=r2)
 have t:(alP r1 r2).length<=100000:=by rw[e,AA];ext
 have s:aH (.list (alP r1 r2))=.ok (alP r1 r2):=bY (by ext)
 have g:dNin (.tuple [.int 0,.int 0]) (.list (alP r1 r2))=.ok (.bool false):=by
  have:=aMH (0,0) ps
  rw[<-e,AY D]at this
  exact this
 obtain⟨I,q,ce,u,e1,j,C,k⟩:=dP (fs:=stN 4) (fb:=rgA) (d:=prI) (xs:=ps) (Y:=rgρ r1 r2 w1 w2 (alP r1 r2) [] none none none)
  (λi Y=>∃ ce u,Y=rgρ r1 r2 w1 w2 (alP r1 r2) ce u none none/\(∀ x∈ce.map (λp:Dz×Dz=>p.1),eE x=true)/\ce.length<=i/\∀ x∈(ps.take i).map prI,x∈ce.map (λp:Dz×Dz=>p.1)) ⟨[],none,rfl,λx h=>(by cases h),AQ _,λx h=>(by cases h)⟩ (λi p Y hi b=>by
  obtain⟨ce,u,m,j,C,k⟩:=b
  subst m
  have A:=(AD.mp hi).1
  obtain⟨k1,k2⟩:=nY ce (prI p) (.bool true)
  refine⟨_,_,rfl,.inl (aUJ j (by ext)),_,_,rfl,λx a=>?_,by ext,λx a=>?_⟩
  .rcases (k1 x).mp a with z|z
   · exact j x z
   · rw [z]; rfl
  .rw[B9,hi,A8,A7]at a
   refine(k1 x).mpr ?_
   rcases a with z|z
   · exact .inl (k x z)
   · exact .inr (AK.mp z))
 subst e1
 rw[EF,<-e]at k
 obtain⟨I,o,n,l,e2⟩:=dP (fs:=stT [(stN 5),(stN 6)]) (fb:=rgB) (d:=prI) (xs:=ps) (Y:=rgρ r1 r2 w1 w2 (alP r1 r2) ce u none none)
  (λi Y=>∃ n l,Y=rgρ r1 r2 w1 w2 (alP r1 r2) ce u n l) ⟨none,none,rfl⟩ (λi p Y hi b=>by
  obtain⟨n,l,m⟩:=b
  subst m
  have f:=AG hi
  obtain⟨c,d,rfl,G,w⟩:=F p f
  have a:prN c d∈alP r1 r2:=by rw[e];exact AN.mpr ⟨_,f,rfl⟩
  exact⟨_,_,rfl,.inl (aUK M1 M2 G w j (h _ a) λy H=>k y (rP (tF M1.r M2.r B E _) a H)),_,_,rfl⟩)
 subst e2
 rw[<-e]at q o
 have v:jD "list" "list"=true:=by decide
 unfold rgρ at q o
 unfold dW
 rw[jJ]
 generalize alP r1 r2=P at *
 simp[v,g,s,q,o]
end
def prT(π:Int->Int):Tn->Tn
 | .n i=>.n (π i)
 | .w x=>.w x
structure Prj(rs rs2:List Rw)(π:Int->Int):Prop where
 zero:π 0=0
 row:∀ k:Nat,k < rs2.length->prT π (rowAt rs2 k).l=(rowAt rs (π k)).l/\prT π (rowAt rs2 k).r=(rowAt rs (π k)).r/\(rowAt rs2 k).c.map (λc=>(π c.1,c.2))=(rowAt rs (π k)).c
section
variable{rs rs2:L9 Rw}{π:Int->Int}{sg:Nat}
theorem Prj.cell(J:Prj rs rs2 π)(z:L9 Nat)(h0:0<=s.2)(h1:s.2 < rs2.length):aR rs z (s.1,π s.2)=(prT π (aR rs2 z s).1,(aR rs2 z s).2):=by
 obtain⟨k,d⟩:∃ k:Nat,s.2=k:=⟨s.2.toNat,by ext⟩
 obtain⟨a,b,c⟩:=J.row k (by ext)
 unfold aR
 simp only[d]
 split
 .rw[a]
 .split
  .rw[b]
  .have g:∀ i,(rowAt rs (π k)).c.getD i (0,0)=(π ((rowAt rs2 k).c.getD i (0,0)).1,((rowAt rs2 k).c.getD i (0,0)).2):=λi=>by
    rw[<-c,AL,AC,AL]
    cases(rowAt rs2 k).c[i]? with
    | none=>show((0:Int),(0:Int))=(π 0,0);rw[J.zero]
    | some x=>rfl
   rw[g];rfl
theorem aQ3(M:Mach rs2 sg)(z:L9 Nat)(h0:0<=s.2)(h1:s.2 < rs2.length){q:Int}(e:(aR rs2 z s).1=.n q):0<=q/\q < rs2.length:=by
 have hr:=(M.row _ (AG (cC h0 h1))).1
 unfold aR at e
 split at e
 .have:=hr.1;rw[show(rowAt rs2 s.2).l=.n q from e]at this;exact this
 .split at e
  .have:=hr.2.1;rw[show(rowAt rs2 s.2).r=.n q from e]at this;exact this
  .injection e with e
   subst e
   rw[AL]
   cases h:(rowAt rs2 s.2).c[z.getD (s.1.toNat - 1) 97 - 97]? with
   | none=>exact⟨C5 _,by have:=M.len;show(0:Int) < _;ext⟩
   | some c=>have:=hr.2.2 c (AG h);exact⟨this.1,this.2.1⟩
theorem Prj.word(J:Prj rs rs2 π)(M:Mach rs2 sg)(z:L9 Nat):bF rs2 z=bF rs z:=by
 have st:∀ s:Int×Int,0<=s.2->s.2 < rs2.length->(∀ o,b8 rs2 z s=some (.inr o)->b8 rs z (s.1,π s.2)=some (.inr o))/\∀ s',b8 rs2 z s=some (.inl s')->b8 rs z (s.1,π s.2)=some (.inl (s'.1,π s'.2))/\0<=s'.2/\s'.2 < rs2.length:=λs d h1=>by
  have e:=J.cell z d h1
  unfold b8
  rw[e]
  cases q:(aR rs2 z s).1 with
  | w x=>exact⟨λo h=>h,λs' h=>(by cases h)⟩
  | n i=>
   have:=aQ3 M z d h1 q
   exact⟨λo h=>(by cases h),λs' h=>(by cases h;exact⟨rfl,this⟩)⟩
 have g:=M.len
 have one:∀ (n:Nat) (s:Int×Int) (o:Str),0<=s.2->s.2 < rs2.length->Ex (b8 rs2 z) n s o->Ex (b8 rs z) n (s.1,π s.2) o:=λn s o d h1 h=>by
  induction h with
  | out h=>exact .out ((st _ d h1).1 _ h)
  | go h t ih=>
   obtain⟨a,b,c⟩:=(st _ d h1).2 _ h
   exact .go a (ih b c)
 have f:∀ (n:Nat) (s:Int×Int) (o:Str),0<=s.2->s.2 < rs2.length->Ex (b8 rs z) n (s.1,π s.2) o->Ex (b8 rs2 z) n s o:=λn=>by
  induction n with
  | zero=>
   intro s o d h1 h
   rcases walk_step (rs:=rs2) (z:=z) (s:=s)with ⟨x,_,_,e⟩|⟨s',_,e⟩
   .cases h with
    | out h=>rw[(st s d h1).1 _ e]at h;cases h;exact .out e
   .cases h with
    | out h=>rw[((st s d h1).2 _ e).1]at h;cases h
  | succ n ih=>
   intro s o d h1 h
   rcases walk_step (rs:=rs2) (z:=z) (s:=s)with ⟨x,_,_,e⟩|⟨s',_,e⟩
   .cases h with
    | go h t=>rw[(st s d h1).1 _ e]at h;cases h
   .obtain ⟨a,b,c⟩:=(st s d h1).2 _ e
    cases h with
    | go h t=>rw[a]at h;cases h;exact .go e (ih s' o b c t)
 unfold bF
 congr 1
 refine aCX λo=>⟨λ⟨n,h⟩=>⟨n,?_⟩,λ⟨n,h⟩=>⟨n,f n (0,0) o (C5 _) (by show(0:Int) < _;ext) (by show Ex _ n (0,π 0) o;rw[J.zero];exact h)⟩⟩
 have:=one n (0,0) o (C5 _) (by show(0:Int) < _;ext) h
 rw[show((0:Int),π (0:Int))=(0,0)by rw[J.zero]]at this
 exact this
end
section
variable{a b:L9 Rw}{sg N1 N2:Nat}
theorem o7(M:Mach a sg):eP [.d (aE a)]=.ok (.d (.int (sg:Int))):=by
 cases a with
 | nil=>exact absurd M.len (by simp)
 | cons r t=>rw[aD9,(M.row r AU).2]
theorem way_or(M:Mach a sg):(∃ N,Wy a sg N/\EndW a sg 200 N)\/(c6 [.d (aE a)]=.ex ⟨"TooMany",[]⟩/\dB [.d (aE a),.d (.int (sg:Int)),.d (.int 200)]=.ok (.d .none)):=by
 obtain⟨N,b,E⟩:=aEV a sg 200
 by_cases h:(bfW a sg N).length<=200
 .exact .inl ⟨N,⟨M,E.full h,b⟩,E⟩
 .refine .inr ⟨?_,?_⟩
  .rw[aJR M E b,AJ (by ext)]
  .have:=aJS M E (by decide) (by decide) b
   rw[AJ (by ext)]at this
   exact this
theorem aUL(M1:Mach a sg)(M2:Mach b sg)(h:c6 [.d (aE a)]=.ex ⟨"TooMany",[]⟩):bQ [.d (aE a),.d (aE b)]=.ok (.d (.tuple [.str "many",.none])):=by
 have s1:=o7 M1
 have e:=o7 M2
 have c:dNe (.int (sg:Int)) (.int (sg:Int))=.ok (.bool false):=rM (bZ _)
 have:fG [.d (aE a),.d (aE b)]=.ex ⟨"TooMany",[]⟩:=by
  unfold fG l8
  simp_all
 unfold bQ iM
 simp[vC,this]
theorem aUM(W:Wy a sg N1)(E:EndW a sg 200 N1)(M2:Mach b sg)(h:c6 [.d (aE b)]=.ex ⟨"TooMany",[]⟩):bQ [.d (aE a),.d (aE b)]=.ok (.d (.tuple [.str "many",.none])):=by
 have s1:=o7 W.m
 have f:=o7 M2
 have c:dNe (.int (sg:Int)) (.int (sg:Int))=.ok (.bool false):=rM (bZ _)
 have e:=uW W E
 have:fG [.d (aE a),.d (aE b)]=.ex ⟨"TooMany",[]⟩:=by
  unfold fG l8
  simp_all
 unfold bQ iM
 simp[vC,this]
theorem aEY(c:Wy a sg N1)(f:EndW a sg 200 N1)(e:Wy b sg N2)(i:EndW b sg 200 N2){d:Dz}(h:m4 [.d (rdW (bD a sg N1) (bV a sg N1)),.d (rdW (bD b sg N2) (bV b sg N2))]=.ok (.d d)):bQ [.d (aE a),.d (aE b)]=.ok (.d d):=by
 have s1:=o7 c.m
 have j:=o7 e.m
 have g:dNe (.int (sg:Int)) (.int (sg:Int))=.ok (.bool false):=rM (bZ _)
 have l:=uW c f
 have k:=uW e i
 have:fG [.d (aE a),.d (aE b)]=.ok (.d d):=by
  unfold fG l8
  simp_all
 unfold bQ iM
 simp[vC,this,putO]
theorem F_cmp(c:Wy a sg N1)(p:EndW a sg 200 N1)(f:Wy b sg N2)(o:EndW b sg 200 N2) :
  (bQ [.d (aE a),.d (aE b)]=.ok (.d (.tuple [.str "alike",.list (alP (bD a sg N1) (bD b sg N2))]))/\(∀ x∈alP (bD a sg N1) (bD b sg N2),wnP (bV a sg N1) (bV b sg N2) x=false)/\EqX (bD a sg N1) (bD b sg N2) (bV a sg N1) (bV b sg N2) sg 0 0) \/
  ∃ z,bQ [.d (aE a),.d (aE b)]=.ok (.d (.tuple [.str "unlike",stD z]))/\aQ sg z/\bF a z≠bF b z/\(∀ y,aQ sg y->bF a y≠bF b y->z=y\/sl z y)/\¬ EqX (bD a sg N1) (bD b sg N2) (bV a sg N1) (bV b sg N2) sg 0 0:=by
 have i:=c.rdw
 have R2:=f.rdw
 have k:=c.rows_len
 have l:=f.rows_len
 have m:=k▸c.pos
 have p2:=l▸f.pos
 have B:(bD a sg N1).length * (bD b sg N2).length<=100000:=by
  rw[k,l]
  exact AV (FU c.n f.n) (by decide)
 have s:(bD a sg N1).length+(bD b sg N2).length<=1000:=by
  rw[k,l]
  exact AV (Nat.add_le_add c.n f.n) (by decide)
 have r:=aJV i R2 (a:=0) (b:=0) m p2
 rcases F_held9 i R2 B with ⟨e1,h,e⟩|⟨z,e1,e⟩
 .refine .inl ⟨aEY c p f o e,h,λw g=>?_⟩
  rcases r with ⟨_,q⟩|⟨z,q,_⟩
  .exact Decidable.not_not.mp (q w g)
  .rw[e1]at q;cases q
 .rcases r with ⟨q,_⟩|⟨C,q,s1,j,f1⟩
  .rw[e1]at q;cases q
  .rw[e1]at q
   cases q
   have t:z.length<=1000:=by
    obtain⟨w,A,u,v⟩:=aUI i R2 s m p2 s1 j
    have g:w.length<=1000:=AV (Nat.le_of_succ_le u) s
    rcases f1 w A v with e|q|q
    · exact e ▸ g
    · exact AV (B7 q) g
    · exact q.1 ▸ g
   have S:aQ sg z:=⟨t,s1⟩
   refine .inr ⟨z,aEY c p f o e,S,λh=>j ?_,λy Sy h=>f1 y Sy.2 λq=>h ?_,λh=>j (h z s1)⟩
   .rw[c.says S,f.says S,h]
   .rw[c.says Sy,f.says Sy]at q;exact q
theorem aMI(d:Wy a sg N1)(c:Wy b sg N2)(h:EqX (bD a sg N1) (bD b sg N2) (bV a sg N1) (bV b sg N2) sg 0 0)(S:aQ sg z):bF a z=bF b z:=by
 rw[<-d.says S,<-c.says S]
 exact h z S.2
theorem aNN{r:L9 (L9 Nat)}{w:L9 Str}(M:Rdw r w sg):Cp (rdW r w):=by
 refine⟨mG λx a=>?_,Sh.shaped (n:=3) (fE λx a=>?_) (by decide)⟩
 .rcases AW.mp a with rfl|a
  .exact mG λx a=>by
    obtain⟨j,_,rfl⟩:=AN.mp a
    exact mG λx a=>by obtain⟨_,_,rfl⟩:=AN.mp a;rfl
  .rw[AK.mp a]
   exact mG λx a=>by obtain⟨_,_,rfl⟩:=AN.mp a;rfl
 .rcases AW.mp a with rfl|a
  .exact fE λx a=>by
    obtain⟨j,_,rfl⟩:=AN.mp a
    exact fE λx a=>by obtain⟨_,_,rfl⟩:=AN.mp a;exact jG _ _
  .rw[AK.mp a]
   exact fE λx a=>by
    obtain⟨u,b,rfl⟩:=AN.mp a
    exact qP _ (by rcases M.ww u b with rfl|rfl|rfl<;>decide +kernel)
theorem aUN{r1 r2:L9 (L9 Nat)}{w1 w2:L9 Str}:rdW r1 w1=rdW r2 w2↔r1=r2/\w1=w2:=by
 constructor
 .intro h
  unfold rdW rdD at h
  injection h with h
  injection h with h1 h2
  injection h2 with h2 _
  injection h1 with h1
  injection h2 with h2
  refine⟨(F9 λx y e=>?_).mp h1,(F9 λx y e=>?_).mp h2⟩
  .unfold bL at e
   injection e with e
   exact(F9 λi j q=>by injection q with q;ext).mp e
  .grind
 .grind
theorem aCO(i:Wy a sg N1)(m:EndW a sg 200 N1)(j:Wy b sg N2)(l:EndW b sg 200 N2):∃ d1 d2,eQ [.d (aE a)]=.ok (.d d1)/\eQ [.d (aE b)]=.ok (.d d2)/\Cp d1/\Cp d2/\(d1=d2↔EqX (bD a sg N1) (bD b sg N2) (bV a sg N1) (bV b sg N2) sg 0 0):=by
 have c:=i.rdw
 have R2:=j.rdw
 obtain⟨L1,e1,e⟩:=aJN c
 obtain⟨k,e2,f⟩:=aJN R2
 obtain⟨n1,g⟩:=aJO c.r e
 obtain⟨n2,h⟩:=aJO R2.r f
 have f1:=aNJ c e e1 g
 have f2:=aNJ R2 f e2 h
 have o:=uW i m
 have n:=uW j l
 refine⟨_,_,?_,?_,aNN (aUB c e g),aNN (aUB R2 f h),aUN.trans (aJQ c R2 e f g h)⟩
 .unfold eQ pS
  simp_all
 .unfold eQ pS
  simp_all
end
def rY(n m:Nat):L9 Nat:=0::(((range (n - 1)).map (· + 1)).drop m++((range (n - 1)).map (· + 1)).take m)
theorem aMJ{m:Nat}(h:1<=n):(rY n m).length=n:=by
 unfold rY
 ext
theorem aMK{m:Nat}(h:1<=n):q∈rY n m↔q < n:=by
 unfold rY
 rw[AW,A7]
 constructor
 .grind
 .intro b
  by_cases c:q=0
  .grind
  .right
   have a:q∈(range (n - 1)).map (· + 1):=AN.mpr ⟨q - 1,BF.mpr (by ext),by ext⟩
   rw[<-List.take_append_drop m ((range (n - 1)).map (· + 1)),A7]at a
   ext
theorem j9{k a:Dz}:b7 (putM ce k v) a=if a=k then some v else b7 ce a:=by
 cases h:bC ce k with
 | false=>exact jV h
 | true=>
  unfold putM
  rw[AJ h]
  unfold bC at h
  unfold b7 at *
  induction ce with
  | nil=>cases h
  | cons p t ih=>
   rw[AZ,C3,C3]
   by_cases e:p.1=k
   .rw[AJ e]
    by_cases c:a=k
    .grind
    .rw[AM c,show decide (p.1=a)=false from A5 λz=>c (z.symm.trans e)]
     simp only
     by_cases d:(Option.map (λx=>x.snd) (List.find? (λp=>decide (p.fst=k)) t)).isSome=true
     .grind
     .have:∀ q∈t,¬ q.1=k:=λq b z=>by
       ext
      rw[show t.map (λp=>if p.1=k then(p.1,v)else p)=t from by
       rw[BA (g:=id) λq b=>by rw[AM (this q b)];rfl,map_id]]
   .grind
def iD(q:Nat):Dz:=.int (q:Int)
theorem aGM{ys:L9 Dz}(h:xs.length+ys.length<=16777216):kW (.list xs) (.list ys)=.ok (xs++ys):=AJ (by rw[cO];exact h)
theorem aV6(h:∀ x∈ce.map (·.1),jQ x=true)(i:Int):a7 (.int i) (ce.map (·.1))=true:=by
 unfold a7
 rw[CL,A1,A1]
 exact .inr ⟨rfl,BI.mpr h⟩
def vE(r:Rw):Rw:=⟨r.l,r.c.map (λc=>(c.1,1)),r.r⟩
section
variable{rs:L9 Rw}{sg:Nat}
theorem aQ4(M:Mach rs sg):fO [.d (aE rs)]=.ok (.d (aE (rs.map vE))):=by
 have hi:=wU M
 have e:=M.sg3
 have a:=bK (fs:=stT [(stN 0),(stN 1),(stN 2)]) (fe:=(bG (aA (eV 0) (aA (e1 dTup (eL (bP [none] (e1 aH (rV 1)) (stN 0) cQ (bG (aA (e2 dIx (rV 0) (eC (.int 0))) (aA (eC (.int 1)) aC)))))) (aA (eV 2) aC))))) (Y0:=[none,none,none]) (d:=a6) (g:=λr=>a6 (vE r)) (xs:=rs) λr hr=>⟨[some (.d r.l.d),some (.d (.tuple (r.c.map cellD))),some (.d r.r.d)],by simp[a6],by
  have f:=(M.row r hr).2
  have h1:aH (.tuple (r.c.map cellD))=.ok (r.c.map cellD):=dO (by rw[AA];ext)
  have h2:=bK (fs:=stN 0) (fe:=(bG (aA (e2 dIx (rV 0) (eC (.int 0))) (aA (eC (.int 1)) aC)))) (Y0:=[none]) (d:=cellD) (g:=λc=>cellD (c.1,1)) (xs:=r.c) λc _=>⟨[some (.d (cellD c))],rfl,by
   have:dIx (cellD c) (.int 0)=.ok (.int c.1):=rfl
   simp[this];rfl⟩
  simp[h1,h2,cP,a6,vE,AX,Function.comp_def]⟩
 have b:aE (rs.map vE)=.tuple (rs.map λr=>a6 (vE r)):=by unfold aE;rw[AX];rfl
 rw[b]
 unfold fO lS
 simp[hi,cP,a]
theorem aQ5(M:Mach rs sg):Mach (rs.map vE) sg:=by
 have d:(rs.map vE).length=rs.length:=AA ..
 refine⟨by rw[d];exact M.len,by rw[d];exact M.len2,M.sg1,M.sg3,λr hr=>?_⟩
 obtain⟨q,h,rfl⟩:=AN.mp hr
 obtain⟨⟨i,f,g⟩,e⟩:=M.row q h
 rw[d]
 refine⟨⟨i,f,λc k=>?_⟩,by show(q.c.map _).length=_;rw[AA];exact e⟩
 obtain⟨j,h',rfl⟩:=AN.mp k
 obtain⟨a,b,_⟩:=g j h'
 exact⟨a,b,.inl rfl⟩
end
def eiI(n:Nat)(b i:Int):Int:=i+n * (b % 2)
def eiT(n:Nat)(b:Int):Tn->Tn
 | .n i=>.n (eiI n b i)
 | .w x=>.w x
theorem aNO{n:Nat}(e:n<=1000)(b i:Int):cD [.d (.int i),.d (.int n),.d (.int b)]=.ok (.d (.int (eiI n b i))):=by
 have f:=CB b (show(2:Int)≠0 by decide)
 have h1:=BY b (show(0:Int) < 2 by decide)
 have d2:dMod (.int b) (.int 2)=.ok (.int (b % 2)):=bX (by decide)
 have c:dMul (.int (n:Int)) (.int (b % 2))=.ok (.int ((n:Int) * (b % 2))):=m5 (by ext) (by ext)
 have a:iE "str" (.int i)=.ok (.bool false):=rfl
 unfold cD jE
 simp[a,d2,c,eiI]
theorem aNP{n:Nat}(c:n<=1000)(b:Int)(t:Tn):cD [.d t.d,.d (.int n),.d (.int b)]=.ok (.d (eiT n b t).d):=by
 cases t with
 | n i=>exact aNO c b i
 | w x=>
  have a:iE "str" (.str x)=.ok (.bool true):=rfl
  unfold cD jE
  simp[a,Tn.d,eiT]
theorem rZ{b i:Int}(h0:0<=i)(h1:i < n):0<=eiI n b i/\eiI n b i < (2 * n:Nat)/\(eiI n b i).toNat % n=i.toNat:=by
 unfold eiI
 rcases Int.emod_two_eq b with e|e
 .rw[e,Int.mul_zero,Int.add_zero]
  exact⟨h0,by ext,DT (by ext)⟩
 .rw[e,Int.mul_one]
  refine⟨by ext,by ext,?_⟩
  rw[show(i+(n:Int)).toNat=i.toNat+n by ext,Nat.add_mod_right]
  exact DT (by ext)
theorem aCP{b:Int}{t:Tn}(h:t.good n):(eiT n b t).good (2 * n:Nat):=by
 cases t with
 | n i=>exact⟨(rZ h.1 h.2).1,(rZ h.1 h.2).2.1⟩
 | w x=>exact h
def plI(ce:L9 (Dz×Dz))(i:Int):Int:=match b7 ce (.int i)with
 | some (.int k)=>k
 | _=>0
def plT(ce:L9 (Dz×Dz)):Tn->Tn
 | .n i=>.n (plI ce i)
 | .w x=>.w x
def jW(ce:L9 (Dz×Dz))(r:Rw):Rw:=⟨plT ce r.l,r.c.map (λc=>(plI ce c.1,c.2)),plT ce r.r⟩
def kN(r:Rw):Dz:=.tuple [r.l.d,.list (r.c.map cellD),r.r.d]
structure Nmb(ce:List (Dz×Dz))(O:List Nat):Prop where
 kv:∀ x∈ce.map (·.1),jQ x=true
 by_:b7 ce (.str "by")=some (.str "by")
 out:b7 ce (.str "out")=some (.str "out")
 at_:∀ q∈O,∃ k:Nat,O[k]? = some q/\b7 ce (.int (q:Int))=some (.int (k:Int))
section
variable{ce:L9 (Dz×Dz)}{O:L9 Nat}{n:Nat}
theorem Nmb.num(B:Nmb ce O)(c:∀ q,q < n->q∈O){i:Int}(h0:0<=i)(h1:i < n):b7 ce (.int i)=some (.int (plI ce i))/\0<=plI ce i/\plI ce i < O.length/\O.getD (plI ce i).toNat 0=i.toNat:=by
 obtain⟨k,a,b⟩:=B.at_ i.toNat (c _ (by ext))
 rw[FQ h0]at b
 have e:plI ce i=k:=by unfold plI;rw[b]
 have:=(AD.mp a).1
 rw[e]
 exact⟨b,by ext,by ext,by rw[C9,AL,a];rfl⟩
theorem Nmb.tn(B:Nmb ce O)(c:∀ q,q < n->q∈O){t:Tn}(h:t.good n):b7 ce t.d=some (plT ce t).d/\a7 t.d (ce.map (·.1))=true:=by
 have a:∀ x:Dz,jQ x=true->a7 x (ce.map (·.1))=true:=λx b=>by
  unfold a7
  rw[CL,A1,A1]
  exact .inr ⟨b,BI.mpr B.kv⟩
 cases t with
 | n i=>exact⟨(B.num c h.1 h.2).1,a _ rfl⟩
 | w x=>
  rcases h with rfl|rfl
  · exact⟨B.by_, a _ (by decide +kernel)⟩
  · exact⟨B.out, a _ (by decide +kernel)⟩
theorem Nmb.good(B:Nmb ce O)(c:∀ q,q < n->q∈O)(d:O.length=n){t:Tn}(h:t.good n):(plT ce t).good n:=by
 cases t with
 | n i=>obtain⟨_,a,b,_⟩:=B.num c h.1 h.2;exact⟨a,by ext⟩
 | w x=>exact h
def nbρ(ap:L9 Rw)(O:L9 Nat)(ce:L9 (Dz×Dz))(u3 u4 u5 u6 u7 u8:O9 A):Sg:=[some (.d (.list (ap.map kN))),some (.d (.list (O.map iD))),some (.m ce),u3,u4,u5,u6,u7,u8]
theorem aUO{ap:L9 Rw}(s:sg<=3)(B:Nmb ce O)(b:∀ q,q < n->q∈O){r:Rw}(g:r.good n)(w:r.c.length=sg)(u:X.length<=1000000){u3 u4:O9 A} :
  nbB (nbρ ap O ce u3 u4 (some (.l X)) (some (.d r.l.d)) (some (.d (.list (r.c.map cellD)))) (some (.d r.r.d)))=.ok (.nx (nbρ ap O ce u3 u4 (some (.l (X++[a6 (jW ce r)]))) (some (.d r.l.d)) (some (.d (.list (r.c.map cellD)))) (some (.d r.r.d)))):=by
 obtain⟨o,k⟩:=B.tn b g.1
 obtain⟨p,j⟩:=B.tn b g.2.1
 have h1:aH (.list (r.c.map cellD))=.ok (r.c.map cellD):=bY (by rw[AA];ext)
 have h2:=bK (fs:=stT [(stN 0),(stN 1)]) (fe:=(bG (aA (gN 2 (eV 0)) (aA (eV 1) aC)))) (Y0:=[none,none,some (.m ce)]) (d:=cellD) (g:=λc=>cellD (plI ce c.1,c.2)) (xs:=r.c) λc i=>⟨[some (.d (.int c.1)),some (.d (.int c.2)),some (.m ce)],by simp[cellD],by
  obtain⟨h,f⟩:=B.tn b (t:=.n c.1) ⟨(g.2.2 c i).1,(g.2.2 c i).2.1⟩
  have h:b7 ce (.int c.1)=some (.int (plI ce c.1)):=h
  have f:a7 (.int c.1) (ce.map (·.1))=true:=f
  simp[h,f,cellD]⟩
 have a:X.length < 16777216:=by ext
 have e:a6 (jW ce r)=.tuple [(plT ce r.l).d,.tuple (r.c.map λc=>cellD (plI ce c.1,c.2)),(plT ce r.r).d]:=by
  unfold a6 jW
  simp_all
 rw[e]
 unfold nbρ
 generalize (r.c.map λc=>cellD (plI ce c.1,c.2))=Yq at *
 generalize r.c.map cellD=Zq at *
 generalize r.l.d=v at *
 generalize r.r.d=d2 at *
 simp[nbB,o,k,p,j,h1,h2,cP,a]
theorem aV7{ap:L9 Rw}(N:sg<=3)(n2:n<=1000)(hl:O.length=n)(Z:∀ q,q < n->q∈O)(hr:∀ r∈ap,r.good n/\r.c.length=sg)(T:ap.length<=1000) :
  ∃ ce,Nmb ce O/\dG [.d (.list (ap.map kN)),.d (.list (O.map iD))]=.ok (.d (aE (ap.map (jW ce)))):=by
 have H:aH (.list (O.map iD))=.ok (O.map iD):=bY (by rw[AA];ext)
 have G:iK (.list (O.map iD))=.ok ((O.zipIdx).map λp=>PyData.tuple [.int (p.2:Int),.int (p.1:Int)]):=by
  rw[pZ H,List.zipIdx_map,AX]
  rfl
 have F:aH (.list (ap.map kN))=.ok (ap.map kN):=bY (by rw[AA];ext)
 obtain⟨k0,a⟩:∃ k0,k0=putM (putM [] (.str "by") (.str "by")) (.str "out") (.str "out"):=⟨_,rfl⟩
 have b:=nY [] (.str "by") (.str "by")
 have s:=nY (putM [] (.str "by") (.str "by")) (.str "out") (.str "out")
 have g:¬ PyData.str "by"=PyData.str "out":=by intro h;injection h with h;exact absurd h (by decide +kernel)
 have P:dX [] [(.str "by",.str "by"),(.str "out",.str "out")]=.ok k0:=by
  have c1:a7 (.str "by") (([]:L9 (Dz×Dz)).map (·.1))=true:=rfl
  have V:a7 (.str "out") ((putM [] (.str "by") (.str "by")).map (·.1))=true:=by
   unfold a7
   rw[CL,A1,A1]
   refine .inr ⟨rfl,BI.mpr λx m=>?_⟩
   rcases(b.1 x).mp m with h|h
   .cases h
   .rw[h];rfl
  unfold Fl.dX
  rw[AJ ⟨c1,by decide⟩]
  unfold Fl.dX
  rw[AJ ⟨V,by have:=b.2;simp at this ⊢;ext⟩,a]
  unfold Fl.dX
  rfl
 have t:nN 2 (lZ (eC (.str "by")) (eC (.str "by")) (lZ (eC (.str "out")) (eC (.str "out")) uG)) [some (.d (.list (ap.map kN))),some (.d (.list (O.map iD))),none,none,none,none,none,none,none]=.ok (.nx (nbρ ap O k0 none none none none none none)):=by
  simp[nbρ,P]
 obtain⟨Y',M,ce,u,v,rfl,K,B⟩:=dP (fs:=stT [(stN 3),(stN 4)]) (fb:=iZ 2 (eV 4) (eV 3)) (d:=λp:Nat×Nat=>PyData.tuple [.int (p.2:Int),.int (p.1:Int)]) (xs:=O.zipIdx) (Y:=nbρ ap O k0 none none none none none none)
  (λi Y=>∃ ce u v,Y=nbρ ap O ce u v none none none none/\ce.length<=i+2/\(∀ x∈ce.map (λp:Dz×Dz=>p.1),jQ x=true)/\b7 ce (.str "by")=some (.str "by")/\b7 ce (.str "out")=some (.str "out")/\∀ q∈O.take i,∃ k:Nat,O[k]? = some q/\b7 ce (.int (q:Int))=some (.int (k:Int)))
  ⟨k0,none,none,rfl,by have:=b.2;have:=s.2;rw[a];simp at *;ext,λx m=>by
   rw[a]at m
   rcases(s.1 x).mp m with h|h
   .rcases (b.1 x).mp h with h|h
    · cases h
    · rw [h]; rfl
   .rw[h];rfl,by rw[a,j9,AM g,j9,AJ rfl],by rw[a,j9,AJ rfl],λq h=>(by cases h)⟩
  (λi p Y hi ⟨ce,u,v,e,K,kv,kb,W,S⟩=>by
  subst e
  obtain⟨q,j⟩:=p
  rw[DS]at hi
  obtain⟨w,f,e⟩:=HF.mp hi
  injection e with e1 e2
  subst e1
  have e2:i=j:=by ext
  subst e2
  have A:i < O.length:=(AD.mp f).1
  obtain⟨k1,k2⟩:=nY ce (.int (w:Int)) (.int (i:Int))
  refine⟨nbρ ap O ce (some (.d (.int (i:Int)))) (some (.d (.int (w:Int)))) none none none none,nbρ ap O (putM ce (.int (w:Int)) (.int (i:Int))) (some (.d (.int (i:Int)))) (some (.d (.int (w:Int)))) none none none none,rfl,.inl ?_,_,_,_,rfl,by ext,λx m=>?_,?_,?_,λy o=>?_⟩
  .have Q:=aV6 kv (w:Int)
   simp[nbρ,Q,AV K (show i+2<=16777216 by ext)]
  .rcases (k1 x).mp m with z|z
   .exact kv x z
   .rw[z];rfl
  .rw[j9,AM (by intro h;cases h)];exact kb
  .rw[j9,AM (by intro h;cases h)];exact W
  .rw[j9]
   split
   .rename_i L
    injection L with L
    exact⟨i,by rw[f];congr 1;ext,rfl⟩
   .rename_i g
    rw[B9,f,A7]at o
    rcases o with o|o
    · exact S y o
    · exact absurd (by rw [AK.mp o]) g)
 rw[CO,EF]at B
 have B:Nmb ce O:=⟨B.1,B.2.1,B.2.2.1,B.2.2.2⟩
 refine⟨ce,B,?_⟩
 obtain⟨Y',E,C,D,I,rfl⟩:=dP (fs:=stT [(stN 6),(stN 7),(stN 8)]) (fb:=nbB) (d:=kN) (xs:=ap) (Y:=nbρ ap O ce u v (some (.l [])) none none none)
  (λi Y=>∃ C D I,Y=nbρ ap O ce u v (some (.l ((ap.take i).map λr=>a6 (jW ce r)))) C D I) ⟨none,none,none,rfl⟩
  (λi r Y hi ⟨C,D,I,e⟩=>by
  subst e
  have A:=(AD.mp hi).1
  have J:=hr r (AG hi)
  have:=aUO (ap:=ap) (O:=O) N B Z J.1 J.2 (X:=(ap.take i).map λr=>a6 (jW ce r)) (by rw[AA,BC];ext) (u3:=u) (u4:=v)
  refine⟨_,_,rfl,.inl this,some (.d r.l.d),some (.d (.list (r.c.map cellD))),some (.d r.r.d),?_⟩
  rw[B9,hi,A8];rfl)
 rw[EF]at E
 unfold nbρ at M E t
 unfold dG
 rw[kO]
 have U:aE (ap.map (jW ce))=.tuple (ap.map λr=>a6 (jW ce r)):=by unfold aE;rw[AX];rfl
 rw[U]
 generalize ap.map (λr=>a6 (jW ce r))=Yq at *
 generalize (O.zipIdx.map λp=>PyData.tuple [.int (p.2:Int),.int (p.1:Int)])=OZ at *
 generalize ap.map kN=RL at *
 generalize O.map iD=OO at *
 simp only[jH,aW,AZ,BQ,BG,BR,Nat.reduceAdd,Nat.reduceSub,replicate,CD,B6,t,R.bind_ok]
 simp[G,M,F,E]
end
section
variable{rs:L9 Rw}{sg:Nat}
def r0(n:Nat)(c:Int)(q:Nat)(r:Rw):Rw:=⟨eiT n (c / 3+q) r.l,r.c.zipIdx.map (λp=>(eiI n (c / 7+q+p.2) p.1.1,p.1.2)),eiT n (c / 5+q) r.r⟩
theorem aJY{c:Int}{q:Nat}{r:Rw}(g:r.good n):(r0 n c q r).good (2 * n:Nat)/\(r0 n c q r).c.length=r.c.length:=by
 refine⟨⟨aCP g.1,aCP g.2.1,λx e=>?_⟩,by show(List.map _ _).length=_;rw[AA,CO]⟩
 obtain⟨p,h,rfl⟩:=AN.mp e
 have:=CI (f:=Prod.fst) h
 rw[List.zipIdx_map_fst]at this
 obtain⟨a,b,d⟩:=g.2.2 _ this
 exact⟨(rZ a b).1,(rZ a b).2.1,d⟩
def rmρ(rs:L9 Rw)(c m:Int)(O:L9 Dz)(u5 u6 u7 u8 u9 u10:O9 A):Sg:=[some (.d (aE rs)),some (.d (.int c)),some (.d (.int (rs.length:Int))),some (.d (.list O)),some (.d (.int m)),u5,u6,u7,u8,u9,u10]
theorem aUP(M:Mach rs sg){c m:Int}{O:L9 Dz}(x:X.length<=1000000){u7 u8 u9 u10:O9 A} :
  ∃ v7 v8 v9 v10,rmB (rmρ rs c m O (some (.l X)) (some (.d (iD q))) u7 u8 u9 u10)=.ok (.nx (rmρ rs c m O (some (.l (X++[kN (r0 rs.length c q (rowAt rs ((q % rs.length:Nat):Int)))]))) (some (.d (iD q))) v7 v8 v9 v10)):=by
 have n1:0 < rs.length:=M.len
 have n2:=M.len2
 have u:=M.sg3
 have B:q % rs.length < rs.length:=Nat.mod_lt _ n1
 have h:dMod (.int (q:Int)) (.int (rs.length:Int))=.ok (.int ((q % rs.length:Nat):Int)):=by rw[bX (by ext)];rfl
 have s:=nC (rs:=rs) (q:=((q % rs.length:Nat):Int)) (by ext) (by ext)
 have hr:=M.row _ (AG (cC (rs:=rs) (q:=((q % rs.length:Nat):Int)) (by ext) (by ext)))
 generalize rowAt rs ((q % rs.length:Nat):Int)=r at *
 have e:∀ Y:Sg,(stT [(stN 7),(stN 8),(stN 9)]) (a6 r) Y=some (((Y.set 7 (some (.d r.l.d))).set 8 (some (.d (.tuple (r.c.map cellD))))).set 9 (some (.d r.r.d))):=λY=>rfl
 have e1:=aNP (n:=rs.length) n2 (c / 3+(q:Int)) r.l
 have e2:=aNP (n:=rs.length) n2 (c / 5+(q:Int)) r.r
 have t:dDiv (.int c) (.int 3)=.ok (.int (c / 3)):=dY (by decide) (by decide)
 have o:dDiv (.int c) (.int 5)=.ok (.int (c / 5)):=dY (by decide) (by decide)
 have k:dDiv (.int c) (.int 7)=.ok (.int (c / 7)):=dY (by decide) (by decide)
 have f:aH (.tuple (r.c.map cellD))=.ok (r.c.map cellD):=dO (by rw[AA];ext)
 have b:iK (.tuple (r.c.map cellD))=.ok (r.c.zipIdx.map λp=>PyData.tuple [.int (p.2:Int),cellD p.1]):=by
  rw[pZ f,List.zipIdx_map,AX];rfl
 have i:=bK (fs:=stT [(stN 0),(stT [(stN 1),(stN 2)])]) (fe:=rmC) (Y0:=[none,none,none,some (.d (.int (rs.length:Int))),some (.d (.int c)),some (.d (.int (q:Int)))]) (d:=λp:(Int×Int)×Nat=>PyData.tuple [.int (p.2:Int),cellD p.1]) (g:=λp=>cellD (eiI rs.length (c / 7+q+p.2) p.1.1,p.1.2)) (xs:=r.c.zipIdx) λp _=>⟨[some (.d (.int (p.2:Int))),some (.d (.int p.1.1)),some (.d (.int p.1.2)),some (.d (.int (rs.length:Int))),some (.d (.int c)),some (.d (.int (q:Int)))],rfl,by
  have:=aNO (n:=rs.length) n2 (c / 7+q+p.2) p.1.1
  simp[rmC,k,this,cellD]⟩
 have a:X.length < 16777216:=by ext
 have j:kN (r0 rs.length c q r)=.tuple [(eiT rs.length (c / 3+q) r.l).d,.list (r.c.zipIdx.map λp=>cellD (eiI rs.length (c / 7+q+p.2) p.1.1,p.1.2)),(eiT rs.length (c / 5+q) r.r).d]:=by
  unfold kN r0
  simp_all
 rw[j]
 refine⟨some (.d (eiT rs.length (c / 3+q) r.l).d),some (.d (.tuple (r.c.map cellD))),some (.d (eiT rs.length (c / 5+q) r.r).d),some (.d (.list (r.c.zipIdx.map λp=>cellD (eiI rs.length (c / 7+q+p.2) p.1.1,p.1.2)))),?_⟩
 unfold rmρ iD
 generalize (r.c.zipIdx.map λp=>cellD (eiI rs.length (c / 7+q+p.2) p.1.1,p.1.2))=Yq at *
 generalize (r.c.zipIdx.map λp=>PyData.tuple [.int (p.2:Int),cellD p.1])=Zq at *
 generalize r.c.map cellD=w at *
 generalize (eiT rs.length (c / 3+q) r.l).d=C at *
 generalize (eiT rs.length (c / 5+q) r.r).d=D at *
 generalize r.l.d=v at *
 generalize r.r.d=y at *
 generalize a6 r=z at *
 simp[-Int.natCast_emod,rmB,h,s,e,t,o,e1,e2,b,cP,i,fz,a]
def mdR(rs:L9 Rw)(c:Int)(q:Nat):Rw:=r0 rs.length c q (rowAt rs ((q % rs.length:Nat):Int))
theorem qA(c:Int)(h:0 < k):∃ m:Nat,m < k/\c % (k:Int)=m:=by
 have a:=CB c (show(k:Int)≠0 by ext)
 have h1:=BY c (show 0 < (k:Int)by ext)
 exact⟨(c % k).toNat,by ext,(FQ a).symm⟩
theorem lr2(n1:1<=n)(a:n<=1000):aBU (.int 1) (.int (n:Int))=.ok (((range (n - 1)).map (· + 1)).map iD):=by
 show(if (0:Int)<=1/\(1:Int)<=n/\(n:Int)<=1000000 then R.ok _ else R.bad)=_
 rw[AJ (by ext),show((n:Int) - 1).toNat=n - 1 by ext,AX]
 congr 1
 refine BA λi _=>?_
 show PyData.int _=PyData.int _
 congr 1
 show(1:Int)+(i:Int)=((i+1:Nat):Int)
 ext
theorem aW8(h:0 < k)(a:k<=400)(e:2 * k=n):1<=n/\0 < n - 1/\n<=1000:=by ext
theorem aW9(a:k<=400)(e:2 * k=n):dMul (.int 2) (.int (k:Int))=.ok (.int (n:Int)):=by rw[m5 (by ext) (by ext)];congr 2;ext
theorem aV8(M:Mach rs sg)(hn:rs.length<=400)(c:Int):∃ rs2 π,fP [.d (aE rs),.d (.int c)]=.ok (.d (aE rs2))/\Mach rs2 sg/\Prj rs rs2 π/\rs2.length=2 * rs.length:=by
 have n1:0 < rs.length:=M.len
 obtain⟨n,G⟩:∃ n,2 * rs.length=n:=⟨_,rfl⟩
 obtain⟨u,E,j⟩:=aW8 n1 hn G
 have J:=lr2 u j
 have z:=aW9 hn G
 have C:dLen (aE rs)=.ok (.int (rs.length:Int)):=by unfold aE;rw[aB0,AA]
 have ac:dLen (.list (((range (n - 1)).map (· + 1)).map iD))=.ok (.int ((n - 1:Nat):Int)):=by rw[c7];simp
 obtain⟨m,I,v⟩:∃ m:Nat,dMod (.int c) (.int ((n - 1:Nat):Int))=.ok (.int (m:Int))/\m<=n - 1:=by
  obtain⟨m,A,I⟩:=qA c E
  exact⟨m,by rw[bX (Int.ofNat_lt.mpr E),I],B7 A⟩
 have U:jC (((range (n - 1)).map (· + 1)).map iD) (some (m:Int)) none=(((range (n - 1)).map (· + 1)).drop m).map iD:=by
  unfold jC
  rw[HT.xL,HT.t9,AA,AA,A4,FD v,CF (by simp),List.map_drop]
 have P:jC (((range (n - 1)).map (· + 1)).map iD) none (some (m:Int))=(((range (n - 1)).map (· + 1)).take m).map iD:=by
  unfold jC
  rw[HT.xL,HT.t9,AA,AA,A4,FD v,HH,HU,List.map_take]
 have U:dSl (.list (((range (n - 1)).map (· + 1)).map iD)) (some (m:Int)) none=.ok (.list ((((range (n - 1)).map (· + 1)).drop m).map iD)):=by
  show R.ok (PyData.list (jC _ _ _))=_
  rw[U]
 have P:dSl (.list (((range (n - 1)).map (· + 1)).map iD)) none (some (m:Int))=.ok (.list ((((range (n - 1)).map (· + 1)).take m).map iD)):=by
  show R.ok (PyData.list (jC _ _ _))=_
  rw[P]
 have c1:kW (.list [.int 0]) (.list ((((range (n - 1)).map (· + 1)).drop m).map iD))=.ok (.int 0::(((range (n - 1)).map (· + 1)).drop m).map iD):=aGM (by simp;ext)
 have c2:kW (.list (.int 0::(((range (n - 1)).map (· + 1)).drop m).map iD)) (.list ((((range (n - 1)).map (· + 1)).take m).map iD))=.ok ((rY n m).map iD):=by
  rw[aGM (by simp;ext)]
  unfold rY
  rw[AZ,A8];rfl
 have s:=aMJ (m:=m) u
 have om:=λq=>aMK (m:=m) u (q:=q)
 have o0:(rY n m).getD 0 0=0:=rfl
 generalize rY n m=O at *
 have S:aH (.list (O.map iD))=.ok (O.map iD):=bY (by rw[AA,s];exact AV j (by decide))
 obtain⟨Y',N,W,u7,u8,u9,u10,rfl⟩:=dP (fs:=stN 6) (fb:=rmB) (d:=iD) (xs:=O) (Y:=rmρ rs c (m:Int) (O.map iD) (some (.l [])) none none none none none)
  (λi Y=>∃ W u7 u8 u9 u10,Y=rmρ rs c (m:Int) (O.map iD) (some (.l ((O.take i).map λq=>kN (mdR rs c q)))) W u7 u8 u9 u10) ⟨none,none,none,none,none,rfl⟩
  (λi q Y hi T=>by
  obtain⟨W,u7,u8,u9,u10,e⟩:=T
  subst e
  have ad:=(AD.mp hi).1
  obtain⟨v7,v8,v9,Q,e⟩:=aUP M (c:=c) (m:=(m:Int)) (O:=O.map iD) (X:=(O.take i).map λq=>kN (mdR rs c q)) (by rw[AA,BC];exact AV (Nat.min_le_right _ _) (s▸AV j (by decide))) (q:=q) (u7:=u7) (u8:=u8) (u9:=u9) (u10:=u10)
  refine⟨_,_,rfl,.inl e,some (.d (iD q)),v7,v8,v9,Q,?_⟩
  rw[B9,hi,A8];rfl)
 rw[EF]at N
 have gd:∀ q,q∈O->(rowAt rs ((q % rs.length:Nat):Int)).good rs.length/\(rowAt rs ((q % rs.length:Nat):Int)).c.length=sg:=λq _=>by
  have L:q % rs.length < rs.length:=Nat.mod_lt _ n1
  exact M.row _ (AG (cC (rs:=rs) (q:=((q % rs.length:Nat):Int)) (Int.natCast_nonneg _) (Int.ofNat_lt.mpr L)))
 have hg:∀ r∈O.map (mdR rs c),r.good n/\r.c.length=sg:=λr hr=>by
  obtain⟨q,L,rfl⟩:=AN.mp hr
  obtain⟨a,b⟩:=aJY (c:=c) (q:=q) (gd q L).1
  unfold mdR
  ext
 have D:∀ q,q < n->q∈O:=λq h=>(om q).mpr h
 obtain⟨ce,B,H⟩:=aV7 (O:=O) (n:=n) (ap:=O.map (mdR rs c)) M.sg3 j s D hg (by rw[AA,s];exact j)
 refine⟨(O.map (mdR rs c)).map (jW ce),λi=>((O.getD i.toNat 0 % rs.length:Nat):Int),?_,?_,?_,by rw[AA,AA,s,G]⟩
 .rw[AX]at H
  have H:dG [.d (.list (O.map λq=>kN (mdR rs c q))),.d (.list (O.map iD))]=_:=H
  unfold fP
  rw[lT]
  unfold rmρ at N
  generalize aE ((O.map (mdR rs c)).map (jW ce))=MM at *
  generalize (O.map λq=>kN (mdR rs c q))=RL at *
  generalize ((range (n - 1)).map (· + 1)).map iD=RR at *
  generalize (((range (n - 1)).map (· + 1)).drop m).map iD=RD at *
  generalize (((range (n - 1)).map (· + 1)).take m).map iD=RT at *
  generalize O.map iD=OO at *
  simp only[jH,AZ,BQ,BG,BR,Nat.reduceAdd,Nat.reduceSub,replicate,CD,B6]
  simp[C,z,J,ac,I,U,P,c1,c2,fz,S,N,H]
 .have A:((O.map (mdR rs c)).map (jW ce)).length=n:=by rw[AA,AA,s]
  refine⟨by rw[A];exact u,by rw[A];exact j,M.sg1,M.sg3,λr hr=>?_⟩
  obtain⟨r',V,rfl⟩:=AN.mp hr
  obtain⟨g,gl⟩:=hg r' V
  rw[A]
  refine⟨⟨B.good D s g.1,B.good D s g.2.1,λx hx=>?_⟩,by show(List.map _ _).length=_;rw[AA];exact gl⟩
  obtain⟨y,hy,rfl⟩:=AN.mp hx
  obtain⟨a,b,d⟩:=g.2.2 y hy
  obtain⟨_,a',Z,_⟩:=B.num D a b
  exact⟨a',by rw[<-s];exact Z,d⟩
 .have back:∀ (b i:Int),0<=i->i < rs.length->((O.getD (plI ce (eiI rs.length b i)).toNat 0 % rs.length:Nat):Int)=i:=λb i h0 h1=>by
   obtain⟨a,Z,d⟩:=rZ (b:=b) h0 h1
   obtain⟨_,_,_,e⟩:=B.num D a (by rw[<-G];exact Z)
   ext
  have o:∀ (b:Int) (t:Tn),t.good rs.length->prT (λi=>((O.getD i.toNat 0 % rs.length:Nat):Int)) (plT ce (eiT rs.length b t))=t:=λb t g=>by
   cases t with
   | n i=>show Tn.n (((O.getD (plI ce (eiI rs.length b i)).toNat 0 % rs.length:Nat):Int))=_;rw[back b i g.1 g.2]
   | w x=>rfl
  refine⟨by show((O.getD 0 0 % rs.length:Nat):Int)=0;rw[o0,Nat.zero_mod];rfl,λk F=>?_⟩
  rw[AA,AA]at F
  have e:rowAt ((O.map (mdR rs c)).map (jW ce)) (k:Int)=jW ce (r0 rs.length c (O.getD k 0) (rowAt rs ((O.getD k 0 % rs.length:Nat):Int))):=by
   unfold rowAt
   rw[C9,AL,AC,AC,AL,AI F];rfl
  have K:=gd (O.getD k 0) (by rw[AL,AI F];exact E5 F)
  rw[e]
  show prT _ _=(rowAt rs ((O.getD k 0 % rs.length:Nat):Int)).l/\prT _ _=(rowAt rs ((O.getD k 0 % rs.length:Nat):Int)).r/\(jW ce (r0 rs.length c (O.getD k 0) (rowAt rs ((O.getD k 0 % rs.length:Nat):Int)))).c.map _=(rowAt rs ((O.getD k 0 % rs.length:Nat):Int)).c
  generalize rowAt rs ((O.getD k 0 % rs.length:Nat):Int)=r at *
  refine⟨o _ _ K.1.1,o _ _ K.1.2.1,?_⟩
  show((r.c.zipIdx.map _).map _).map _=r.c
  rw[AX,AX]
  conv=>rhs;rw[<-List.zipIdx_map_fst 0 r.c]
  refine BA λp hp=>?_
  have:=CI (f:=Prod.fst) hp
  rw[List.zipIdx_map_fst]at this
  obtain⟨a,b,_⟩:=K.1.2.2 _ this
  show(((O.getD (plI ce (eiI rs.length _ p.1.1)).toNat 0 % rs.length:Nat):Int),p.1.2)=p.1
  rw[back _ _ a b]
end
def sl4(sg:Nat):Nat->L9 (L9 Nat)->Nat->O9 (L9 (L9 Nat))
 | 0,_,_=>none
 | f+1,F,i=>match F[i]? with
  | some z=>if z.length < 4 then sl4 sg f (F++(range sg).map λk=>z++[97+k]) (i+1)else some F
  | none=>some F
def iW(sg:Nat)(F:L9 (L9 Nat))(i:Nat)(u:O9 A):Sg:=[some (.d (.int (sg:Int))),some (.d (.int 4)),some (.l (F.map stD)),some (.d (.int (i:Int))),u]
theorem aCQ(s1:1<=sg)(m:sg<=3):∀ (f:Nat) (F:L9 (L9 Nat)) (i:Nat) (u:O9 A) (G:L9 (L9 Nat)),sl4 sg f F i=some G->F.length+3 * f<=1000->(∀ z∈F,z.length<=1000)->
  aB (aX lsT lsB) (sFz 2 (aM (vV 2))) (iW sg F i u)=.ok (.rt (.d (.list (G.map stD))))
 | 0,_,_,_,_,h,_,_=>by cases h
 | f+1,F,i,u,G,h,hl,hF=>by
  have hsl:dSl (.str "abc") none (some (sg:Int))=.ok (.str (sgT sg)):=aF9 (by decide)
  have hi:aH (.str (sgT sg))=.ok ((range sg).map λk:Nat=>.str ⟨#[97+k]⟩):=by
   rw[aB3 (by have:=aEK s1 m;ext),aEX s1 m,AX];rfl
  rw[sl4]at h
  cases q:F[i]? with
  | none=>
   rw[q]at h
   cases h
   have C:=GN.mp q
   have g:lsT (iW sg F i u)=.ok false:=by
    have:¬ (i:Int) < (F.length:Int):=by ext
    simp[lsT,iW,c7,this]
   rw[aW,cL g]
   simp[iW]
  | some z=>
   rw[q]at h
   have r:i < F.length:=(AD.mp q).1
   have I:=hF z (AG q)
   have v:dIx (.list (F.map stD)) (.int (i:Int))=.ok (stD z):=iL (cY (by rw[AC,q];rfl))
   have w:=yQ (z:=z) (by ext)
   simp only at h
   split at h
   .rename_i s
    have g:lsT (iW sg F i u)=.ok true:=by
     have t:(i:Int) < (F.length:Int):=by ext
     have n:(z.length:Int) < 4:=by ext
     simp[lsT,iW,c7,t,v,w,n]
    obtain⟨L,E,j,B⟩:=dP (fs:=stN 4) (fb:=lsF) (d:=λk:Nat=>PyData.str ⟨#[97+k]⟩) (xs:=range sg) (Y:=iW sg F i u)
     (λk Y=>∃ j,Y=iW sg (F++(range k).map λk=>z++[97+k]) i j) ⟨u,by simp⟩ (λk x Y D ⟨j,e⟩=>by
     subst e
     obtain⟨h1,h2⟩:=AD.mp D
     rw[A4]at h1
     rw[FY]at h2
     subst h2
     have p:dIx (.list ((F++(range k).map λk=>z++[97+k]).map stD)) (.int (i:Int))=.ok (stD z):=iL (cY (by rw[AC,BV r,q];rfl))
     have b:=aQN (z:=z) (c:=97+k) (by ext)
     have o:(F++(range k).map λk=>z++[97+k]).length < 16777216:=by rw[A2,AA,A4];ext
     refine⟨iW sg (F++(range k).map λk=>z++[97+k]) i (some (.d (.str ⟨#[97+k]⟩))),iW sg (F++(range (k+1)).map λk=>z++[97+k]) i (some (.d (.str ⟨#[97+k]⟩))),rfl,.inl ?_,_,rfl⟩
     have e2:(F++(range (k+1)).map λk=>z++[97+k])=(F++(range k).map λk=>z++[97+k])++[z++[97+k]]:=by
      rw[List.range_succ,A8,EW];rfl
     rw[e2]
     generalize (F++(range k).map λk=>z++[97+k])=J at *
     simp only[lsF,iW,sX,kJ,jL,A9,BE,R.bind_ok,p,b,AA,o,CU,A8,AZ,BQ,BJ,BS])
    rw[A4]at B
    subst B
    have H:lsB (iW sg F i u)=.ok (.nx (iW sg (F++(range sg).map λk=>z++[97+k]) (i+1) j)):=by
     have a:gL (stN 4) lsF ((range sg).map λk:Nat=>PyData.str ⟨#[97+k]⟩) [some (.d (.int (sg:Int))),some (.d (.int 4)),some (.l (F.map stD)),some (.d (.int (i:Int))),u]=_:=E
     unfold iW at a ⊢
     simp only[lsB,aW,oS,lH,aIZ,lG,aI0,aI1,jL,A9,R.bind_ok,hsl,hi,a]
     simp
    rw[aW,eS g H,<-aW]
    refine aCQ s1 m f _ _ j G h (by rw[A2,AA,A4];ext) λy K=>?_
    ext
   .rename_i s
    cases h
    have g:lsT (iW sg F i u)=.ok false:=by
     have t:(i:Int) < (F.length:Int):=by ext
     have n:¬ (z.length:Int) < 4:=by ext
     simp[lsT,iW,c7,t,v,w,n]
    rw[aW,cL g]
    simp[iW]
theorem aUQ(s1:1<=sg)(b:sg<=3){G:L9 (L9 Nat)}(h:sl4 sg 60 [[]] 0=some G):jN [.d (.int (sg:Int)),.d (.int 4)]=.ok (.d (.list (G.map stD))):=by
 have a:=aCQ s1 b 60 [[]] 0 none G h (by decide) (λz c=>by rw[AK.mp c];exact BP _)
 have a:aB (aX lsT lsB) (sFz 2 (aM (vV 2))) [some (.d (.int (sg:Int))),some (.d (.int 4)),some (.l [.str ""]),some (.d (.int 0)),none]=.ok (.rt (.d (.list (G.map stD)))):=a
 unfold jN
 rw[qF]
 simp_all
def eR(sg:Nat):L9 (L9 Nat):=(sl4 sg 60 [[]] 0).getD []
theorem aEZ(s1:1<=sg)(b:sg<=3):sl4 sg 60 [[]] 0=some (eR sg)/\(∀ z∈eR sg,Sgs sg z/\z.length<=4)/\(eR sg).length<=400:=by
 refine⟨?_,?_,?_⟩
 .rcases (by omega:sg=1\/sg=2\/sg=3)with rfl|rfl|rfl<;>decide +kernel
 .intro z a
  have:((eR sg).all λz=>(z.all λc=>bA sg c) && decide (z.length<=4))=true:=by
   rcases(by omega:sg=1\/sg=2\/sg=3)with rfl|rfl|rfl<;>decide +kernel
  have:=BI.mp this z a
  rw[A1]at this
  exact⟨BI.mp this.1,BH this.2⟩
 .rcases (by omega:sg=1\/sg=2\/sg=3)with rfl|rfl|rfl<;>decide +kernel
theorem aCR(i:Nat)(f g:Sg->R Dz)(Y:Sg):aBB i f g Y=(g Y).bind λx=>match Y[i]? with
 | some (some (.l xs))=>(f Y).bind λk=>match k with
  | .int k=>match ixN xs.length k with
   | some j=>.ok (.nx (Y.set i (some (.l (xs.set j x)))))
   | none=>.bad
  | _=>.bad
 | _=>.bad:=id rfl
section
variable{rs:L9 Rw}{sg:Nat}
theorem aV9(M:Mach rs sg)(c:Int):∃ rs2,eM [.d (aE rs),.d (.int c)]=.ok (.d (aE rs2))/\Mach rs2 sg/\rs2.length=rs.length:=by
 have n1:0 < rs.length:=M.len
 have n2:=M.len2
 have E:dLen (.list (rs.map a6))=.ok (.int (rs.length:Int)):=by rw[c7,AA]
 obtain⟨q,I,z⟩:∃ q:Nat,q < rs.length/\dMod (.int c) (.int (rs.length:Int))=.ok (.int (q:Int)):=by
  have D:=CB c (show(rs.length:Int)≠0 by ext)
  have h1:=BY c (show 0 < (rs.length:Int)by ext)
  exact⟨(c % (rs.length:Int)).toNat,by ext,by rw[bX (by ext),FQ D]⟩
 have a:=cC (rs:=rs) (q:=(q:Int)) (by ext) (by ext)
 rw[C9]at a
 have A:dIx (.list (rs.map a6)) (.int (q:Int))=.ok (a6 (rowAt rs q)):=iL (cY (by rw[AC,a];rfl))
 obtain⟨g,B⟩:=M.row _ (AG a)
 have F:∀ u:Rw,u.good rs.length->u.c.length=sg->Mach (rs.set q u) sg:=λu O x=>by
  refine⟨by rw[CK];exact M.len,by rw[CK];exact n2,M.sg1,M.sg3,λr hr=>?_⟩
  rw[CK]
  rcases List.mem_or_eq_of_mem_set hr with h|rfl
  · exact M.row r h
  · exact⟨O, x⟩
 have p:dDiv (.int c) (.int 64)=.ok (.int (c / 64)):=dY (by decide) (by decide)
 have j:dDiv (.int c) (.int 128)=.ok (.int (c / 128)):=dY (by decide) (by decide)
 have C:dMod (.int (c / 64)) (.int 2)=.ok (.int (c / 64 % 2)):=bX (by decide)
 have G:dMod (.int (c / 128)) (.int 3)=.ok (.int (c / 128 % 3)):=bX (by decide)
 have f:∀ i:Nat,i < rs.length->∃ t:Tn,t.good rs.length/\dIx (.list [.str "by",.str "out",.int (i:Int)]) (.int (c / 128 % 3))=.ok t.d:=λi hi=>by
  have D:=CB (c / 128) (show(3:Int)≠0 by decide)
  have h1:=BY (c / 128) (show(0:Int) < 3 by decide)
  rcases(by omega:c / 128 % 3=0\/c / 128 % 3=1\/c / 128 % 3=2)with e|e|e
  · rw [e]; exact⟨.w "by", .inl rfl, rfl⟩
  · rw [e]; exact⟨.w "out", .inr rfl, rfl⟩
  · rw [e]; exact⟨.n i, ⟨by ext, by ext⟩, rfl⟩
 obtain⟨o,N,H⟩:=f q I
 obtain⟨k,K,p2⟩:=f 0 n1
 have p2:dIx (.list [.str "by",.str "out",.int 0]) (.int (c / 128 % 3))=.ok k.d:=p2
 generalize rowAt rs q=r at *
 have s:∀ Y:Sg,(stT [(stN 4),(stN 5),(stN 6)]) (a6 r) Y=some (((Y.set 4 (some (.d r.l.d))).set 5 (some (.d (.tuple (r.c.map cellD))))).set 6 (some (.d r.r.d))):=λY=>rfl
 have m:ixN (rs.map a6).length (q:Int)=some q:=by rw[AA];unfold ixN;rw[AJ (by ext),AJ (by ext),C9]
 have s1:(rs.map a6).set q (a6 ⟨o,r.c,r.r⟩)=(rs.set q ⟨o,r.c,r.r⟩).map a6:=List.map_set.symm
 have Q:(rs.map a6).set q (a6 ⟨r.l,r.c,k⟩)=(rs.set q ⟨r.l,r.c,k⟩).map a6:=List.map_set.symm
 have y:dLst (aE rs)=.ok (rs.map a6):=rfl
 have b:dEq (.int (c / 64 % 2)) (.int 0)=.ok (.bool (decide (c / 64 % 2=0))):=by rw[m6 (bZ _) (bZ _),wP]
 by_cases h:c / 64 % 2=0
 .refine ⟨rs.set q ⟨o,r.c,r.r⟩,?_,F _ ⟨N,g.2.1,g.2.2⟩ B,CK ..⟩
  rw[AY h]at b
  have:aE (rs.set q ⟨o,r.c,r.r⟩)=.tuple ((rs.map a6).set q (.tuple [o.d,.tuple (r.c.map cellD),r.r.d])):=by unfold aE;rw[<-s1];rfl
  rw[this]
  unfold eM jF
  generalize rs.map a6=P at *
  generalize r.c.map cellD=L at *
  generalize a6 r=J at *
  generalize r.l.d=L1 at *
  generalize r.r.d=v at *
  simp[y,E,z,A,s,p,j,C,G,b,H,aCR,m]
 .refine ⟨rs.set q ⟨r.l,r.c,k⟩,?_,F _ ⟨g.1,K,g.2.2⟩ B,CK ..⟩
  rw[A5 h]at b
  have:aE (rs.set q ⟨r.l,r.c,k⟩)=.tuple ((rs.map a6).set q (.tuple [r.l.d,.tuple (r.c.map cellD),k.d])):=by unfold aE;rw[<-Q];rfl
  rw[this]
  unfold eM jF
  generalize rs.map a6=P at *
  generalize r.c.map cellD=L at *
  generalize a6 r=J at *
  generalize r.l.d=L1 at *
  generalize r.r.d=v at *
  simp[y,E,z,A,s,p,j,C,G,b,p2,aCR,m]
end
section
variable{a b:L9 Rw}{sg:Nat}
theorem aML(b:sg<=3)(S:Sgs sg z):PyData.strOk ⟨z.toArray⟩=true:=by
 unfold PyData.strOk
 rw[List.all_toArray,BI]
 intro c a
 have:=xB (S c a)
 ext
theorem aE0(M:Mach a sg):∃ d,dB [.d (aE a),.d (.int (sg:Int)),.d (.int 200)]=.ok (.d d)/\Sh 3 d:=by
 obtain⟨N,f,E⟩:=aEV a sg 200
 have h:=aJS M E (by decide) (by decide) f
 by_cases q:200 < (bfW a sg N).length
 .rw[AJ q]at h
  exact⟨_,h,rfl,BP _⟩
 .rw[AM q]at h
  have ok:=(jI M N (by ext)).ok
  refine⟨_,h,fE λx b=>?_⟩
  rcases AW.mp b with rfl|b
  .exact sh_lst λx b=>by
    obtain⟨z,c,rfl⟩:=AN.mp b
    exact qP _ (aML M.sg3 (ok z c).1.2)
  .rcases AW.mp b with rfl|b
   .exact fE λx b=>by
     unfold a8 at b
     obtain⟨z,_,rfl⟩:=AN.mp b
     exact fE λx b=>by
      obtain⟨_,_,rfl⟩:=AN.mp b
      exact jG _ _
   .rw[AK.mp b]
    exact fE λx b=>by
     obtain⟨z,c,rfl⟩:=AN.mp b
     exact qP _ (by rcases wordW_is M (ok z c).1 with e|e|e<;>rw[e]<;>decide +kernel)
theorem aQ6{x y:Dz}(hx:Sh 3 x)(c:Sh 3 y)(h:x=.none\/y=.none):dIn .none (.list [x,y])=.ok (.bool true):=by
 have b:shaped (.list [x,y])=true:=Sh.shaped (n:=4) (sh_lst λz a=>by
  rcases AW.mp a with rfl|a
  .exact hx
  .rw[AK.mp a];exact c) (by decide)
 unfold dIn
 have:inD .none (.list [x,y])=some true:=by
  show(if shaped .none=true/\shaped (.list [x,y])=true then some ([x,y].any λz=>PyData.eqv z .none)else none)=_
  rw[AJ ⟨rfl,b⟩]
  rcases h with rfl|rfl
  .rfl
  .show some (PyData.eqv x .none || (PyData.eqv .none .none || false))=_
   rw[show PyData.eqv .none .none=true from rfl,Bool.true_or,HR]
 rw[this]
end
section
variable{a b:L9 Rw}{sg N1 N2:Nat}
theorem aCS{fs:Dz->Sg->O9 Sg}{ft:Sg->R Bool}{fe:Sg->R Dz}{Y0:Sg}{d:α->Dz}{g:α->Dz}{p:α->Bool}:∀ {xs:L9 α},(∀ x∈xs,∃ Y1,fs (d x) Y0=some Y1/\ft Y1=.ok (p x)/\fe Y1=.ok (g x))->compL fs ft fe Y0 (xs.map d)=.ok ((xs.filter p).map g)
 | [],_=>rfl
 | x::t,h=>by
  obtain⟨Y1,h1,h2,h3⟩:=h x AU
  rw[AZ]
  unfold compL
  rw[h1,aCS λy b=>h y (AS _ b),nL,R.bind_ok,h2,R.noEx_ok,R.bind_ok]
  cases a:p x with
  | true=>rw[AJ rfl,h3,List.filter_cons,AJ a];rfl
  | false=>rw[AM BM,List.filter_cons,AM (by rw[a];exact BM)]
theorem okd{x y:Dz}(h:(R.ok (A.d x):R A)=.ok (.d y)):x=y:=by injection h with h;injection h
theorem yR(M:Mach a sg)(S:aQ sg z):Cp (.str (bF a z)):=⟨rfl,Sh.shaped (n:=0) (qP 0 (by rcases wordW_is M S with e|e|e<;>rw[e]<;>decide +kernel)) (by decide)⟩
theorem aQ7{x y:Dz}{c:Bool}(h:dIn x y=.ok (.bool c)):dNin x y=.ok (.bool (!c)):=by
 unfold dIn at h
 unfold dNin
 cases q:inD x y with
 | none=>rw[q]at h;cases h
 | some d=>rw[q]at h;cases h;rfl
theorem aCT(n:Nat):dIn (.bool false) (.list (replicate n (.bool true)))=.ok (.bool false):=by
 have:=zT (replicate n true)
 rw[List.map_replicate,show(replicate n true).all id=true from BI.mpr λx a=>by rw[(List.mem_replicate.mp a).2];rfl]at this
 exact this
def yS:Sg->R Dz:=e2 dEq (eA (aI 2 bN (aA (vV 1) (aA (vV 0) aC)))) (eA (aI 2 bN (aA (vV 2) (aA (vV 0) aC))))
theorem aE1(M1:Mach a sg)(M2:Mach b sg)(h:∀ z∈zs,aQ sg z.cps.toList/\bF a z.cps.toList=bF b z.cps.toList):compL (stN 0) cQ yS [none,some (.d (aE a)),some (.d (aE b))] (zs.map .str)=.ok (replicate zs.length (.bool true)):=by
 have f:=bK (fs:=stN 0) (fe:=yS) (Y0:=[none,some (.d (aE a)),some (.d (aE b))]) (d:=PyData.str) (g:=λ_=>.bool true) (xs:=zs) λz i=>⟨[some (.d (.str z)),some (.d (aE a)),some (.d (aE b))],rfl,by
  obtain⟨S,e⟩:=h z i
  have j:=rJ M1 S
  have c:=rJ M2 S
  rw[<-e]at c
  have:=aTZ (yR M1 S).sh
  simp[yS,j,c,this]⟩
 rw[List.map_const']at f
 exact f
theorem aQ8(c:Wy a sg N1)(k:EndW a sg 200 N1)(f:Wy b sg N2)(j:EndW b sg 200 N2)(v:∀ x∈alP (bD a sg N1) (bD b sg N2),wnP (bV a sg N1) (bV b sg N2) x=false)(l:EqX (bD a sg N1) (bD b sg N2) (bV a sg N1) (bV b sg N2) sg 0 0)(C:zs.length<=1000)(hz:∀ z∈zs,aQ sg z.cps.toList) :
  gX [.d (aE a),.d (aE b),.d (.tuple [.str "alike",.list (alP (bD a sg N1) (bD b sg N2))]),.d (.list (zs.map .str))]=.ok (.d (.bool true)):=by
 have n1:=c.n
 have n2:=f.n
 have r:(bD a sg N1).length * (bD b sg N2).length<=100000:=by
  rw[c.rows_len,f.rows_len]
  exact AV (FU n1 n2) (by decide)
 have p:=aV5 c.rdw f.rdw r v
 have A:=uW c k
 have o:=uW f j
 have s:=aE1 c.m f.m (zs:=zs) λz h=>⟨hz z h,aMI c f l (hz z h)⟩
 have hi:aH (.list (zs.map .str))=.ok (zs.map .str):=bY (by rw[AA];ext)
 have w:=aQ7 (aCT zs.length)
 obtain⟨E,d2,f1,f2,u,t,e⟩:=aCO c k f j
 have q:=aJF u t
 rw[AY (e.mpr l)]at q
 unfold yS at s
 generalize alP (bD a sg N1) (bD b sg N2)=g at *
 have y:dLen (.tuple [.str "alike",.list g])=.ok (.int 2):=rfl
 have i1:dIx (.tuple [.str "alike",.list g]) (.int 1)=.ok (.list g):=rfl
 have i:dNe (.int 2) (.int 2)=.ok (.bool false):=rM (bZ _)
 generalize PyData.tuple [.str "alike",.list g]=F at *
 generalize zs.map PyData.str=D at *
 generalize replicate zs.length (PyData.bool true)=TT at *
 generalize rdW (bD a sg N1) (bV a sg N1)=B at *
 generalize rdW (bD b sg N2) (bV b sg N2)=R2 at *
 unfold gX nG
 simp[y,i1,i,A,o,p,hi,cP,s,w,f1,f2,q]
end
def lwρ(ns:L9 Int)(v:Int)(sg n:Nat)(a b:L9 Rw)(sp:Bool)(u7 u8 u9 u10:O9 A):Sg:=[some (.d (cR ns)),some (.d (.int v)),some (.d (.int (sg:Int))),some (.d (.int (n:Int))),some (.d (aE a)),some (.d (aE b)),some (.d (.bool sp)),u7,u8,u9,u10]
section
variable{a b:L9 Rw}{sg:Nat}
def ltP(y x:L9 Nat):Bool:=HT.lt2 (x.length:Int) (y.length:Int) ⟨x.toArray⟩ ⟨y.toArray⟩
theorem aQ9(Ma:Mach a sg)(Mb:Mach b sg){v:Int}{sp:Bool}(same:sp=false->∀ z,aQ sg z->bF a z=bF b z){z:Str}(S:aQ sg z.cps.toList)(hz:z.cps.toList.length<=40) :
  (aB w12 (aB w13 (aB w14 (aB w15 (aB w16 (aB w17 w18)))))) (lwρ ns v sg n a b sp (some (.d (.str z))) (some (.d (.list ((eR sg).map stD)))) none none)=.ok (.rt (.d (.bool true))):=by
 obtain⟨_,L,Y⟩:=aEZ Ma.sg1 Ma.sg3
 have D:∀ x y:Dz,dIx (.tuple [x,y]) (.int 0)=.ok x:=λ_ _=>rfl
 have i1:∀ x y:Dz,dIx (.tuple [x,y]) (.int 1)=.ok y:=λ_ _=>rfl
 have W:dEq (.str "many") (.str "many")=.ok (.bool true):=by kernel_rfl
 have am:dEq (.str "alike") (.str "many")=.ok (.bool false):=by kernel_rfl
 have um:dEq (.str "unlike") (.str "many")=.ok (.bool false):=by kernel_rfl
 have aa:dEq (.str "alike") (.str "alike")=.ok (.bool true):=by kernel_rfl
 have ua:dEq (.str "unlike") (.str "alike")=.ok (.bool false):=by kernel_rfl
 have T:dNe (.str "unlike") (.str "unlike")=.ok (.bool false):=by kernel_rfl
 have j:bQ [.d (aE a),.d (aE b)]=.ok (.d (.tuple [.str "many",.none]))->(dB [.d (aE a),.d (.int (sg:Int)),.d (.int 200)]=.ok (.d .none)\/dB [.d (aE b),.d (.int (sg:Int)),.d (.int 200)]=.ok (.d .none))->
   (aB w12 (aB w13 (aB w14 (aB w15 (aB w16 (aB w17 w18)))))) (lwρ ns v sg n a b sp (some (.d (.str z))) (some (.d (.list ((eR sg).map stD)))) none none)=.ok (.rt (.d (.bool true))):=λh U=>by
  obtain⟨x,x1,x2⟩:=aE0 Ma
  obtain⟨y,t,B⟩:=aE0 Mb
  have:=aQ6 x2 B (U.imp (λe=>okd (x1.symm.trans e)) λe=>okd (t.symm.trans e))
  unfold lwρ w12 w13
  simp[h,D,W,x1,t,this]
 rcases way_or Ma with ⟨N1,u,w⟩|⟨h1,h2⟩
 .rcases way_or Mb with ⟨N2,C,M⟩|⟨h1,h2⟩
  .rcases F_cmp u w C M with ⟨h,hP,J⟩|⟨y,h,Sy,o,r,J⟩
   .
    let G:L9 Str:=((eR sg).take 40).map (λy=>⟨y.toArray⟩)++(range (z.cps.toList.length+1)).map (λk=>⟨(z.cps.toList.take k).toArray⟩)
    have hG:=aQ8 u w C M hP J (zs:=G) (by rw[A2,AA,BC,AA,A4];ext) (λy hy=>by
     rcases A7.mp hy with q|q
     .obtain ⟨x,m,rfl⟩:=AN.mp q
      have:=L x (FG m)
      show aQ sg x.toArray.toList
      rw[show x.toArray.toList=x by simp]
      exact⟨by ext,this.1⟩
     .obtain ⟨k,_,rfl⟩:=AN.mp q
      show aQ sg (z.cps.toList.take k).toArray.toList
      rw[show(z.cps.toList.take k).toArray.toList=z.cps.toList.take k by simp]
      exact⟨by rw[BC];ext,λc hc=>S.2 c (FG hc)⟩)
    have E:dSl (.list ((eR sg).map stD)) none (some 40)=.ok (.list (((eR sg).take 40).map stD)):=by
     show R.ok (PyData.list (jC _ none (some ((40:Nat):Int))))=_
     unfold jC
     rw[HT.xL,HT.t9,HH,HU,List.map_take]
     congr 2
     rw[AA]
     by_cases q:40<=(eR sg).length
     .rw[FD q]
     .rw[Nat.min_eq_right (by ext),CF (by rw[AA];exact AQ _),CF (by rw[AA];ext)]
    have zl:dLen (.str z)=.ok (.int (z.cps.toList.length:Int)):=by rw[rF (by rw[gC];ext),gC]
    have rg:kF 0 ((z.cps.toList.length:Int)+1)=.ok ((range (z.cps.toList.length+1)).map λi:Nat=>.int (i:Int)):=aGA (n:=z.cps.toList.length+1) (by ext)
    have P:=bK (fs:=stN 0) (fe:=eSl dSl (rV 1) oNo (oSo (rV 0))) (Y0:=[none,some (.d (.str z))]) (d:=λi:Nat=>PyData.int (i:Int)) (g:=λk=>stD (z.cps.toList.take k)) (xs:=range (z.cps.toList.length+1)) λk N=>⟨[some (.d (.int (k:Int))),some (.d (.str z))],rfl,by
     have N:=BF.mp N
     have:dSl (.str z) none (some (k:Int))=.ok (stD (z.cps.toList.take k)):=by
      rw[aF9 (by rw[gC];ext),aF7 (by ext)];rfl
     simp[this]⟩
    have K:kW (.list (((eR sg).take 40).map stD)) (.list ((range (z.cps.toList.length+1)).map λk=>stD (z.cps.toList.take k)))=.ok (G.map .str):=by
     rw[aGM (by rw[AA,BC,AA,A4];ext)]
     simp only[G,A8,AX]
     rfl
    generalize G.map PyData.str=GG at *
    generalize (range (z.cps.toList.length+1)).map (λk=>stD (z.cps.toList.take k))=G1 at *
    generalize ((eR sg).take 40).map stD=G2 at *
    generalize (eR sg).map stD=Q at *
    generalize (range (z.cps.toList.length+1)).map (λi:Nat=>PyData.int (i:Int))=G4 at *
    unfold lwρ w12 w13 w14
    generalize z.cps.toList.length=O at *
    simp[h,D,am,aa,E,zl,rg,cP,P,K,hG]
   .
    have I:sp=true:=by
     cases sp with
     | true=>rfl
     | false=>exact absurd (same rfl y Sy) o
    subst I
    obtain⟨d1,d2,f1,f2,c1,c2,e⟩:=aCO u w C M
    have q:=wY c1 c2
    rw[A5 λh=>J (e.mp h)]at q
    have t:bN [.d (aE a),.d (stD y)]=.ok (.d (.str (bF a y))):=rJ (z:=⟨y.toArray⟩) Ma (by show aQ sg y.toArray.toList;simpa using Sy) |>.trans (by show R.ok (A.d (.str (bF a y.toArray.toList)))=_;simp)
    have B:bN [.d (aE b),.d (stD y)]=.ok (.d (.str (bF b y))):=rJ (z:=⟨y.toArray⟩) Mb (by show aQ sg y.toArray.toList;simpa using Sy) |>.trans (by show R.ok (A.d (.str (bF b y.toArray.toList)))=_;simp)
    have ey:dEq (.str (bF a y)) (.str (bF b y))=.ok (.bool false):=by
     rw[aJF (yR Ma Sy) (yR Mb Sy),A5 (λh=>o (by injection h))]
    have gi:aH (.list ((eR sg).map stD))=.ok ((eR sg).map stD):=bY (by rw[AA];ext)
    have Z:=yQ (z:=y) (by have:=Sy.1;ext)
    have X:=aCS (fs:=stN 0) (ft:=(e1 asB (e2 rB (bG (aA (e1 dLen (rV 0)) (aA (eV 0) aC))) (bG (aA (e1 dLen (e2 dIx (rV 1) (eC (.int 1)))) (aA (e2 dIx (rV 1) (eC (.int 1))) aC)))))) (fe:=eV 0) (Y0:=[none,some (.d (.tuple [.str "unlike",stD y]))]) (d:=stD) (g:=stD) (p:=ltP y) (xs:=eR sg) λx m=>⟨[some (.d (stD x)),some (.d (.tuple [.str "unlike",stD y]))],rfl,by
     have xl:=yQ (z:=x) (by have:=(L x m).2;ext)
     have lt:rB (.tuple [.int (x.length:Int),stD x]) (.tuple [.int (y.length:Int),stD y])=.ok (.bool (ltP y x)):=rfl
     simp[xl,Z,i1,lt],by simp⟩
    have l:=aE1 Ma Mb (zs:=((eR sg).filter (ltP y)).map λx=>⟨x.toArray⟩) λs H=>by
     obtain⟨x,m,rfl⟩:=AN.mp H
     obtain⟨F,f⟩:=G7.mp m
     have V:=L x F
     have Sx:aQ sg x:=⟨by ext,V.1⟩
     show aQ sg x.toArray.toList/\bF a x.toArray.toList=bF b x.toArray.toList
     rw[show x.toArray.toList=x by simp]
     refine⟨Sx,Decidable.byContradiction λhd=>?_⟩
     rcases r x Sx hd with rfl|H
     .rw[show ltP y y=false by unfold ltP HT.lt2;rw[AJ rfl,AJ rfl]]at f
      cases f
     .unfold ltP at f;rw[aT6 H]at f;cases f
    rw[AX]at l
    have fl:((eR sg).filter (ltP y)).length<=400:=AV (List.length_filter_le ..) Y
    have fi:aH (.list (((eR sg).filter (ltP y)).map stD))=.ok (((eR sg).filter (ltP y)).map stD):=bY (by rw[AA];ext)
    have l:compL (stN 0) cQ yS [none,some (.d (aE a)),some (.d (aE b))] (((eR sg).filter (ltP y)).map stD)=_:=l
    generalize ((eR sg).filter (ltP y)).map stD=FL at *
    generalize length _=O at l
    have nf:=aCT O
    generalize (eR sg).map stD=Q at *
    generalize stD y=YY at *
    unfold yS at l
    unfold lwρ w12 w13 w14 w15 w16 w17 w18
    simp[h,D,i1,um,ua,T,t,B,ey,gi,cP,X,fi,l,nf,f1,f2,q]
  .exact j (aUM u w Mb h1) (.inr h2)
 .exact j (aUL Ma Mb h1) (.inl h2)
end
theorem aUR{u w f:Sg->R Fw}{Y a:Sg}(h:aB u w Y=.ok (.nx a)):aB u (aB w f) Y=f a:=by
 rw[aW]at h ⊢
 cases q:u Y with
 | ok x=>cases x with
  | nx Y1=>rw[q,R.bind_ok]at h;rw[R.bind_ok];show aB w f Y1=_;rw[aW,show w Y1=.ok (.nx a)from h,R.bind_ok]
  | _=>rw[q]at h;cases h
 | _=>rw[q]at h;cases h
theorem aXA(x:Int):∃ m:Nat,m<=40/\uE 0 (uF 40 x)=(m:Int):=by
 refine⟨(uE 0 (uF 40 x)).toNat,?_,?_⟩<;>(unfold uE uF;split<;>split<;>ext)
theorem nn3(n:Nat):(0:Int)<=3+n:=by ext
theorem aWA(o:Nat):dEq (.int (o:Int)) (.int 1)=.ok (.bool (decide (o=1))):=by
 rw[m6 (bZ _) (bZ _),wP]
 congr 2
 ext
theorem aMM:∀ ns:L9 Int,ns.length<=63->aNK [.d (.list (ns.map .int))]=.ok (.d (.bool true)):=by
 intro ns P
 have c:∀ (x k:Int),0 < k->dMod (.int x) (.int k)=.ok (.int (x % k)):=λx k h=>bX (by ext)
 obtain⟨v,c0⟩:=oW ns 0
 obtain⟨X,c1⟩:=oW ns 1
 obtain⟨N,T⟩:=oW ns 2
 have s:∀ (x k:Int),0 < k->k < 1000->dDiv (.int x) (.int k)=.ok (.int (x / k)):=λx k h h'=>dY (by ext) (by ext)
 obtain⟨j,hj,A⟩:=qA (v / 2) (k:=3) (by decide)
 have A:v / 2 % 3=(j:Int):=A
 have r1:w1 [some (.d (cR ns)),none,none,none,none,none,none,none,none,none,none]=.ok (.nx [some (.d (cR ns)),some (.d (.int v)),none,none,none,none,none,none,none,none,none]):=by
  unfold w1;simp[c0]
 obtain⟨sg,p⟩:∃ sg:Nat,sg=1+j:=⟨_,rfl⟩
 have s1:1<=sg:=p▸B8 1 j
 have r:sg<=3:=by rw[p,EA];exact hj
 have r2:w2 [some (.d (cR ns)),some (.d (.int v)),none,none,none,none,none,none,none,none,none]=.ok (.nx [some (.d (cR ns)),some (.d (.int v)),some (.d (.int (sg:Int))),none,none,none,none,none,none,none,none]):=by
  have e:(1:Int)+(j:Int)=(sg:Int):=by rw[p];rfl
  unfold w2;simp[s,c,A,e]
 obtain⟨o,ho,q⟩:=qA v (k:=2) (by decide)
 have q:v % 2=(o:Int):=q
 have g:=aWA o
 obtain⟨n,n1,M,E⟩:∃ n:Nat,1<=n/\n<=8/\aB w3 w4 [some (.d (cR ns)),some (.d (.int v)),some (.d (.int (sg:Int))),none,none,none,none,none,none,none,none]=.ok (.nx [some (.d (cR ns)),some (.d (.int v)),some (.d (.int (sg:Int))),some (.d (.int (n:Int))),none,none,none,none,none,none,none]):=by
  by_cases h:o=1
  .obtain ⟨i,hi,G⟩:=qA (v / 6) (k:=8) (by decide)
   have G:v / 6 % 8=(i:Int):=G
   rw[AY h]at g
   have e:(1:Int)+(i:Int)=((1+i:Nat):Int):=rfl
   refine⟨1+i,B8 1 i,by rw[EA];exact hi,?_⟩
   unfold w3 w4;simp[c,s,q,g,G]
  .rw[A5 h]at g
   refine⟨2,by decide,by decide,?_⟩
   unfold w3 w4;simp[c,q,g]
 obtain⟨rs,f5,D,L⟩:=aTL (ns:=ns) (at':=3) (n:=n) (sg:=sg) (by decide) n1 (AV M (by decide)) s1 r
 have Z:w5 [some (.d (cR ns)),some (.d (.int v)),some (.d (.int (sg:Int))),some (.d (.int (n:Int))),none,none,none,none,none,none,none]=.ok (.nx [some (.d (cR ns)),some (.d (.int v)),some (.d (.int (sg:Int))),some (.d (.int (n:Int))),some (.d (aE rs)),none,none,none,none,none,none]):=by
  unfold w5;simp[f5]
 obtain⟨a,Ma,U,r6⟩:∃ a,Mach a sg/\a.length=n/\w6 [some (.d (cR ns)),some (.d (.int v)),some (.d (.int (sg:Int))),some (.d (.int (n:Int))),some (.d (aE rs)),none,none,none,none,none,none]=.ok (.nx [some (.d (cR ns)),some (.d (.int v)),some (.d (.int (sg:Int))),some (.d (.int (n:Int))),some (.d (aE a)),none,none,none,none,none,none]):=by
  by_cases h:o=1
  .have f:=aQ4 D
   rw[AY h]at g
   refine⟨_,aQ5 D,by rw[AA];exact L,?_⟩
   unfold w6;simp[c,q,g,f]
  .rw[A5 h]at g
   refine⟨rs,D,L,?_⟩
   unfold w6;simp[c,q,g]
 obtain⟨F,π,W,Mb0,J,lb⟩:=aV8 Ma (U▸AV M (by decide)) (X % 2147483647)
 have K:∀ x:Int,dMod (.int x) (.int 2147483647)=.ok (.int (x % 2147483647)):=λx=>c x _ (by decide)
 have O:w7 [some (.d (cR ns)),some (.d (.int v)),some (.d (.int (sg:Int))),some (.d (.int (n:Int))),some (.d (aE a)),none,none,none,none,none,none]=.ok (.nx [some (.d (cR ns)),some (.d (.int v)),some (.d (.int (sg:Int))),some (.d (.int (n:Int))),some (.d (aE a)),some (.d (aE F)),none,none,none,none,none]):=by
  unfold w7;simp[c1,K,W]
 obtain⟨sp,es⟩:∃ sp:Bool,dEq (.int (v / 48 % 3)) (.int 1)=.ok (.bool sp):=⟨_,m6 (bZ _) (bZ _)⟩
 obtain⟨b,Mb,same,y⟩:∃ b,Mach b sg/\(sp=false->∀ z,aQ sg z->bF a z=bF b z)/\aB w8 w9 [some (.d (cR ns)),some (.d (.int v)),some (.d (.int (sg:Int))),some (.d (.int (n:Int))),some (.d (aE a)),some (.d (aE F)),none,none,none,none,none]=.ok (.nx (lwρ ns v sg n a b sp none none none none)):=by
  cases sp with
  | false=>exact⟨F,Mb0,λ_ z _=>(J.word Mb0 z).symm,by unfold w8 w9 lwρ;simp[s,c,es]⟩
  | true=>
   obtain⟨b,f,Mb,_⟩:=aV9 Mb0 (N % 2147483647)
   exact⟨b,Mb,λh=>(by cases h),by unfold w8 w9 lwρ;simp[s,c,es,T,K,f]⟩
 obtain⟨m,I,Q⟩:=aXA ((ns.length:Int) - 3 - (n:Int))
 obtain⟨z,C,S,V⟩:=aP0 (ns:=ns) (at':=3+(n:Int)) (m:=m) (sg:=sg) (nn3 n) (AV I (by decide)) s1 r
 have t:w10 (lwρ ns v sg n a b sp none none none none)=.ok (.nx (lwρ ns v sg n a b sp (some (.d (.str z))) none none none)):=by
  have x1:∀ i j:Int,d2 uE (.int i) (.int j)=.ok (.int (uE i j)):=λ_ _=>rfl
  have x2:∀ i j:Int,d2 uF (.int i) (.int j)=.ok (.int (uF i j)):=λ_ _=>rfl
  have sl:=j7 ns
  unfold w10 lwρ;simp[sl,x1,x2,Q,C]
 have u:=aUQ s1 r (aEZ s1 r).1
 have B:w11 (lwρ ns v sg n a b sp (some (.d (.str z))) none none none)=.ok (.nx (lwρ ns v sg n a b sp (some (.d (.str z))) (some (.d (.list ((eR sg).map stD)))) none none)):=by
  unfold w11 lwρ;simp[u]
 have tl:=aQ9 Ma Mb (ns:=ns) (v:=v) (n:=n) same S (V▸I)
 have sq:∀ (w f:Sg->R Fw) (Y H:Sg),w Y=.ok (.nx H)->aB w f Y=f H:=λw f Y H h=>by rw[aW,h,R.bind_ok]
 have l:xE [some (.d (cR ns)),none,none,none,none,none,none,none,none,none,none]=.ok (.rt (.d (.bool true))):=by
  rw[xE,sq _ _ _ _ r1,sq _ _ _ _ r2,aUR E,sq _ _ _ _ Z,sq _ _ _ _ r6,sq _ _ _ _ O,aUR y,sq _ _ _ _ t,sq _ _ _ _ B,tl]
 have l:xE [some (.d (.list (ns.map .int))),none,none,none,none,none,none,none,none,none,none]=.ok (.rt (.d (.bool true))):=l
 unfold aNK
 simp[l]
end Mc
namespace L2
end L2
namespace Fl
section
variable{X:Cx}{c:Ct}{E:XK}{e o:E2}{es:L9 E2}{pos apos:Pos}
theorem qS{V W:Type}{g:Str}:∀ {fvs:L9 (Str×V)} {fs:L9 (Str×W)},fvs.map (·.1)=fs.map (·.1)->fs.lookup g=none->fvs.lookup g=none
 | [],[],_,_=>rfl
 | [],_::_,h,_=>by simp at h
 | _::_,[],h,_=>by simp at h
 | (a,v)::fvs,(b,x)::fs,h,e=>by
  rw[AZ,AZ]at h
  injection h with h1 h2
  simp only at h1
  subst h1
  rw[CS]at e ⊢
  cases q:(g == a)with
  | true=>rw[q]at e;cases e
  | false=>rw[q]at e;exact qS h2 e
end
end Fl
namespace Mc
open Fl
section
variable{P:P9}{w:W9}{K:Frag}{mg:Str->O9 V9}{base:H9}{TH:Hp}
set_option maxHeartbeats 0 in
theorem aRA(T:Txt w K mg)(D:AllD K mg (("signs_of",6,["machine"])::("cells_of",7,["machine","number"])::("reached",9,["begin","after","done"])::("never",10,["found","at"])::("strip_to",11,["rows","number"])::("is_word",15,["part"])::("without_signs",16,["machine"])::("gone_on",17,["backs","cells","room"])::("longer",18,["begun","cells"])::("word_behind",19,["machine","begun"])::("signs_by",21,["reader"])::("after_pair",23,["one","other","pair"])::("same_word",24,["one","other","pair"])::("firsts",27,["keys"])::("behind_signs",28,["likes","row"])::("finer",29,["rows","likes"])::("alike_rooms",30,["reader"])::("least_of",32,["machine"])::("held",34,["one","other"])::("compared",35,["one","other"])::("_law_cell",37,["_law_script","_law_k"])::("_law_end",38,["_law_number","_law_rooms"])::("_law_digit_row",39,["_law_number","_law_rooms","_law_signs"])::("_law_mixed_row",40,["_law_number","_law_rooms","_law_signs"])::("_law_machine",41,["_law_script","_law_at","_law_rooms","_law_signs"])::("_law_strip",42,["_law_script","_law_at","_law_size","_law_signs"])::("_law_step",43,["_law_machine_here","_law_strip_here","_law_stand"])::("_law_stands",44,["_law_machine_here","_law_strip_here"])::("_law_says",45,["_law_machine_here","_law_strip_here"])::("_law_strips",46,["_law_signs","_law_longest"])::("_law_beyond",47,["_law_machine_here","_law_strip_here","_law_place","_law_room"])::("_law_beginning",48,["_law_machine_here","_law_strip_here"])::("_law_ways",49,["_law_machine_here","_law_signs","_law_most"])::("_law_held",50,["_law_one","_law_two"])::("_law_onward",51,["_law_machine_here"])::("_law_either",52,["_law_end_here","_law_many","_law_bit"])::("_law_numbered",54,["_law_rows","_law_order"])::("_law_spoilt",55,["_law_machine_here","_law_cell_here"])::("_law_pairs_right",56,["_law_one","_law_two","_law_pairs"])::("_law_alike",57,["_law_one","_law_two","_law_found","_law_strips_here"])::("_law_remade",53,["_law_machine_here","_law_cell_here"])::[]))(Erp_TooMany:∃ W C,ErrP K mg "TooMany" W C)(Erp_NotLike:∃ W C,ErrP K mg "NotLike" W C)(N:DefAtT K mg base TH qsT "first_to" (top 12) ["begin","after","wanted"])(Q:DefAtT K mg base TH qsT "one_way" (top 20) ["machine"])(O:DefAtT K mg base TH qsT "parted" (top 25) ["one","other","begin"])(M:DefAtT K mg base TH qsT "least" (top 31) ["reader"]){R:Az}{J:FuncData}(S:Fun K "law" "law" (top 58) R J):FnOk P w K mg base (CXe P w) 19 R J ["_law_script"] (v5 K TH):=by
 obtain⟨Wp_TooMany,Cp_TooMany,erp_TooMany⟩:=Erp_TooMany
 obtain⟨Wp_NotLike,Cp_NotLike,erp_NotLike⟩:=Erp_NotLike
 refine stA eP 0 ["machine"] D (λu D=>?_)
 refine stA i4 0 ["machine","number"] D (λt D=>?_)
 refine stA dD 12 ["begin","after","done","found","numbers","rows","row","thing"] D (λa D=>?_) (hb:=λf l A outer s H F E hr nd=>by delta zL rhT rhB rhF;exact(Fl.aL (by symm) (Fl.aL (by symm) (Fl.aL (by symm) (Fl.aL (Fl.mJ (L2.mJ (kS ⟨rfl,rfl⟩) (PW.pt (Fl.vF (by symm) (Fl.sA (Fl.qI (Fl.qH (aPG (m:=12) rfl rfl rfl (hr.mono (by decide)) (uH (pv 2) (lV λ_ _ _ h=>h) (aBL (by symm) (aBL (by symm) aPF))))))))) (Fl.aL (by symm) (Fl.aL (Fl.iO (aDL 7) (L2.iO (kS ⟨rfl,rfl⟩) rfl (aSV rfl (aIH (m:=12) rfl rfl rfl (hr.mono (by decide)) (uH (pv 1) (lV λ_ _ _ h=>h) (by symm)))) (by symm) (by symm))) (by symm))))) (by symm))))))
 refine stA j5 0 ["found","at"] D (λz D=>?_)
 refine stA kI 0 ["rows","number","came","at","row","sign","there","signs"] D (λr D=>?_) (hb:=λf l A outer s H F E hr nd=>by delta wI stO stF stQ stW;exact(Fl.aL (by symm) (Fl.aL (Fl.iO (by symm) (L2.iO (kS ⟨rfl,rfl⟩) rfl (by symm) (by symm) (Fl.fW (Fl.iO (by symm) (L2.iO (kS ⟨rfl,rfl⟩) rfl (by symm) (by symm) (Fl.fW (aD1 rfl rfl (L2.kP (aIF G6 DE FW (aIR hr.units) (pv 2) (aZ (by symm) (aZ (by symm) bR))))))))))) (Fl.aL (by symm) (Fl.aL (by symm) (Fl.aL (aTG (L2.kP (aR4 G0 PySem.F.slot_list_reverse PySem.F.type_list_reverse aFB (pv 7)))) (Fl.fW (Fl.kA (sJ (aDP rfl (z7 E3 HL HM aDC (by symm) (aZ (by symm) bR)) (by intro Y x h;cases h;exact⟨_,rfl⟩)))))))))))
 have q:=@aC3 P w K mg base TH T N a r
 refine stA gI 0 ["part"] D (λ_ D=>?_)
 refine stA fF 0 ["machine","lefts"] D (λb D=>?_)
 refine stA j4 1 ["backs","cells","room","been","cell"] D (λ_ D=>?_) (hb:=by delta zM oT oB;symm)
 refine stA gO 2 ["begun","cells","first","backs"] D (λy D=>?_)
 refine stA dE 1 ["machine","begun","room","been","turn"] D (λg D=>?_) (hb:=by delta qB wT wB;symm)
 have B:=aGL (P:=P) (w:=w) (base:=base) (TH:=TH) T Q u t y a b g erp_TooMany
 refine stA kH 0 ["reader"] D (λ_ D=>?_)
 refine stA gA 0 ["one","other","pair"] D (λk D=>?_) (hb:=λf l A outer s H F E hr nd=>by exact(Fl.fW (Fl.kA (sJ (aHQ (aLP rfl (L2.aLO rfl rfl T.b_list rfl T.b_zip (aZ (by symm) (aZ (by symm) bR)))))))))
 refine stA iA 0 ["one","other","pair"] D (λo D=>?_)
 have I:=@aJU P w K mg base TH T O k o q
 refine stA jR 0 ["keys","first","room","key"] D (λ_ D=>?_) (hb:=λf l A outer s H F E hr nd=>by exact(Fl.aL (by symm) (Fl.aL (Fl.iO (by symm) (L2.iO (kS ⟨rfl,rfl⟩) rfl (by symm) (by symm) (Fl.fW (aD1 rfl rfl (L2.kP (aIF G6 DE FW (aIR hr.units) (pv 1) (aZ (by symm) (aZ (by symm) bR)))))))) (by symm))))
 refine stA cB 0 ["likes","row"] D (λd D=>?_)
 refine stA oO 1 ["rows","likes"] D (λ_ D=>?_)
 refine stA eG 2 ["reader","likes","again"] D (λe D=>?_) (hb:=by delta qD arT arB;symm)
 have L:=@aMG P w K mg base TH T M e d a z
 refine stA eQ 14 ["machine"] D (λ_ D=>?_)
 refine stA m4 15 ["one","other","search"] D (λ_ D=>?_)
 refine stA fG 16 ["one","other"] D (λp D=>?_)
 refine stA bW 0 ["_law_script","_law_k","_law_cell_here","_law_mixed"] D (λ_ D=>?_)
 refine stA gP 0 ["_law_number","_law_rooms"] D (λ_ D=>?_)
 refine stA gQ 0 ["_law_number","_law_rooms","_law_signs","_law_left","_law_cells","_law_k","_law_ends"] D (λ_ D=>?_)
 refine stA gR 1 ["_law_number","_law_rooms","_law_signs","_law_pieces","_law_k","_law_cells"] D (λ_ D=>?_) (hb:=by delta nA mxB mxE;symm)
 refine stA i6 2 ["_law_script","_law_at","_law_rooms","_law_signs","_law_rows","_law_room","_law_row"] D (λ_ D=>?_) (hb:=by delta oV mcB mcT mcU;symm)
 refine stA gB 1 ["_law_script","_law_at","_law_size","_law_signs","_law_number","_law_strip_here","_law_k"] D (λn D=>?_) (hb:=λf l A outer s H F E hr nd=>by exact(Fl.aL (by symm) (Fl.fW (Fl.kA (sJ (aDP rfl (z7 E3 HL HM aDC (by symm) (aZ (by symm) bR)) (by intro Y x h;cases h;exact⟨_,rfl⟩)))))))
 refine stA iB 0 ["_law_machine_here","_law_strip_here","_law_stand","_law_place","_law_room","_law_left","_law_cells","_law_right","_law_there","_law_step_here"] D (λ_ D=>?_) (hb:=λf l A outer s H F E hr nd=>by exact(Fl.aL (by symm) (Fl.aL (by symm) (Fl.aL (by symm) (Fl.aL (aIB (by symm) (vH (aM1 (aM2 rfl) aBA (by symm) (aFP (aK7 (z7 E3 PySem.F.slot_str_index PySem.F.type_str_index aKK (by symm) (aZ (by symm) bR)) (by intro Y x h;cases h;exact⟨_,rfl⟩)))) (by symm))) (by symm))))))
 refine stA jM 1 ["_law_machine_here","_law_strip_here","_law_stands_here","_law_met","_law_after"] D (λ_ D=>?_) (hb:=by delta qE uP uQ;symm)
 refine stA bN 2 ["_law_machine_here","_law_strip_here","_law_place","_law_room"] D (λ_ D=>?_)
 refine stA jN 0 ["_law_signs","_law_longest","_law_found","_law_at","_law_sign"] D (λ_ D=>?_) (hb:=by delta qF lsT lsB lsF;symm)
 refine stA fD 1 ["_law_machine_here","_law_strip_here","_law_place","_law_room","_law_met"] D (λ_ D=>?_) (hb:=by delta qG byT byB;symm)
 refine stA cM 2 ["_law_machine_here","_law_strip_here","_law_backs"] D (λ_ D=>?_)
 refine stA dB 3 ["_law_machine_here","_law_signs","_law_most","_law_strips_here","_law_known","_law_rows","_law_row","_law_sign","_law_strip_here","_law_begun"] D (λ_ D=>?_)
 refine stA bQ 17 ["_law_one","_law_two","_law_found"] D (λ_ D=>?_) (hb:=λf l A outer s H F E hr nd=>by exact(Fl.aL (by symm) (Fl.aL (aLC (j:=2) rfl rfl ⟨rfl,rfl⟩ nd rfl (Or.inl rfl) rfl erp_TooMany.m erp_TooMany.c.any (zW erp_TooMany) (λU Z V=>aS6 p (hr.mono (by decide)) rfl (by symm)) (λe1=>(by symm))) (by symm))))
 refine stA fO 0 ["_law_machine_here"] D (λ_ D=>?_)
 refine stA cD 0 ["_law_end_here","_law_many","_law_bit"] D (λ_ D=>?_)
 refine stA dG 0 ["_law_rows","_law_order","_law_place","_law_k","_law_room","_law_made","_law_left","_law_moves","_law_right"] D (λ_ D=>?_) (hb:=by delta kO nbB;symm)
 refine stA eM 0 ["_law_machine_here","_law_cell_here","_law_rows","_law_at","_law_left","_law_cells","_law_right"] D (λ_ D=>?_) (hb:=λf l A outer s H F E hr nd=>by exact(Fl.aL (xX (L2.eX (i:=2) nd rfl (Or.inl rfl) (aOS rfl (lL aAH rfl T.b_list D3 (aZ (by symm) bR))))) (by symm)))
 refine stA dW 0 ["_law_one","_law_two","_law_pairs","_law_known","_law_pair","_law_here","_law_there"] D (λ_ D=>?_) (hb:=λf l A outer s H F E hr nd=>by delta jJ rgA rgB;exact(Fl.aL (Fl.zZ (PW.pt (Fl.zY (Fl.qI (Fl.qH (aH6 (mL (aBF rfl (aK4 _)) rfl T.b_isinstance FV (aZ (by symm) (aZ (aC5 (v:=.ty "list") rfl T.b_list D3 rfl) bR)))))) (by symm))) (by symm) Fl.sB) (by symm)))
 refine stA gX 15 ["_law_one","_law_two","_law_found","_law_strips_here","_law_same"] D (λ_ D=>?_) (hb:=λf l A outer s H F E hr nd=>by exact(Fl.aL (by symm) (Fl.aL (by symm) (Fl.fW (Fl.kA (sJ (aSN (by symm) (aSM (by symm)))))))))
 refine stA fP 1 ["_law_machine_here","_law_cell_here","_law_many","_law_order","_law_cut","_law_rows","_law_room","_law_left","_law_cells","_law_right","_law_moves"] D (λ_ D=>?_) (hb:=by delta lT rmB rmC;symm)
 exact aSZ (aQ1 (fb:=xE) ["_law_script","_law_cell_here","_law_signs","_law_rooms","_law_one","_law_two","_law_spoilt_here","_law_strip_here","_law_strips_here","_law_found","_law_ahead"] S (by symm) (λ_ l A outer s H F E hr nd=>by delta xE w1 w2 w3 w4 w5 w6 w7 w8 w9 w10 w11 w12 w13 w14 w15 w16 w17 w18;exact(Fl.aL (by symm) (Fl.aL (by symm) (Fl.aL (by symm) (Fl.aL (by symm) (Fl.aL (by symm) (Fl.aL (by symm) (Fl.aL (by symm) (Fl.aL (by symm) (Fl.aL (by symm) (Fl.aL (Fl.eX (L2.eX (i:=7) nd rfl (Or.inr rfl) (aM4 rfl rfl rfl (aMT n (hr.mono (by decide)) rfl (lV λ_ _ _ h=>h) (pM (by symm) (pM (by symm) (pM (sJ (aIC (G:=uE) (mL (aGW rfl) rfl T.b_max boot_max (aZ (by symm) (aZ (aFP (aIC (G:=uF) (mL (aGX rfl) rfl T.b_min boot_min (aZ (by symm) (aZ (by symm) bR))))) bR))))) (by symm)))))))) (by symm))))))))))))) aMM
end
section
variable{w:W9}{K:Frag}{h:H9}{mg:Str->O9 V9}
theorem aUS(X:K.In h)(G:h.Ns mainGlobals mg)(z_enumerate:nsIn K mainGlobals "enumerate"=some none)(z_int:nsIn K mainGlobals "int"=some none)(z_isinstance:nsIn K mainGlobals "isinstance"=some none)(z_len:nsIn K mainGlobals "len"=some none)(z_list:nsIn K mainGlobals "list"=some none)(z_max:nsIn K mainGlobals "max"=some none)(z_min:nsIn K mainGlobals "min"=some none)(z_range:nsIn K mainGlobals "range"=some none)(z_str:nsIn K mainGlobals "str"=some none)(z_tuple:nsIn K mainGlobals "tuple"=some none)(z_zip:nsIn K mainGlobals "zip"=some none)(s_MOST_BEGINNINGS:nsIn K mainGlobals "MOST_BEGINNINGS"=some (some (.int 200 a)))(s_SIGNS:nsIn K mainGlobals "SIGNS"=some (some (.str "abc" b))):Txt w K mg:=⟨B3 X G z_enumerate,B3 X G z_int,B3 X G z_isinstance,B3 X G z_len,B3 X G z_list,B3 X G z_max,B3 X G z_min,B3 X G z_range,B3 X G z_str,B3 X G z_tuple,B3 X G z_zip,⟨a,E4 X G s_MOST_BEGINNINGS⟩,⟨b,E4 X G s_SIGNS⟩⟩
theorem aJZ(X:K.In h)(G:h.Ns mainGlobals mg){C c:Az}{j a:L9 V9}{g p:Str}{i:Bool}{b:O9 Bool}{f:O9 Az}{c0 o l n r:O9 V9}{k:V9}{q:O9 Az}{cd:ClassData}{d:Array (O9 V9)}
  (m:nsIn K mainGlobals x=some (some (.ref C)))
  (e1:K.lookup C=some (excClassObj g p C c j (.ref W::SX.jO) true e a i b f c0 o l n r "ValueError.__new__"))
  (e2:findIn K (.ref C) "__setattr__"=some (some (.builtin "object.__setattr__"))) (e3:findIn K (.ref C) "__getattribute__"=some (some (.builtin "BaseException.__getattribute__"))) (e4:findIn K (.ref C) "__getattr__"=some none) (e5:findIn K (.ref C) "__class__"=some (some (.builtin "object.__class__")))
  (e6:specialIn K (.builtin "object.__class__") "__get__"=some (some (.builtin "getset_descriptor.__get__"))) (e7:takesIn K (.builtin "object.__class__")=some true) (e8:keepIn K (.ref C)=true)
  (n1:nsOkIn K c=true) (n2:nsIn K c "__init__"=some none) (w1:K.lookup W=some ⟨k,q,.cls cd,d⟩) (w2:nsOkIn K cd.ns=true) (w3:nsIn K cd.ns "__init__"=some none):∃ W C,ErrP K mg x W C:=
 ⟨W,C,aN6 e1 e2 e3 e4 e5 e6 e7 e8,E4 X G m,⟨_,_,c,_,_,_,_,_,_,_,_,_,_,_,e1,n1,n2⟩,⟨_,_,cd,_,w1,w2,w3⟩⟩
theorem rec_in{q:P9}(h:((recsOf q).any λd=>d.name == x)=true):∃ d∈recsOf q,d.name=x:=by
 obtain⟨d,a,e⟩:=GW.mp h
 exact⟨d,a,G9 e⟩
theorem aUT{i:Az}{j:V9}{m:O9 Az}{kV b:V9}(X:K.In h)(G:h.Ns mainGlobals mg)(d:mg "law"=some (.ref i))(a:nsIn K mainGlobals "law"=some (some (.ref f)))(l:K.lookup f=some ⟨j,od,.func (fnOf "law" "law" (fZ (top 58)) (bE (top 58)) (aJ (top 58)) .none kV doc pm m b ct),g⟩)
  (c:codeIn K b "law"=true) (k:keepIn K (.ref f)=true):∃ fd,Fun K "law" "law" (top 58) i fd/\∀ (s:S9) (u:V9),BindsTo s fd ⟨[u],[]⟩ [("_law_script",u)]:=by
 have e:=d.symm.trans (E4 X G a)
 cases e
 exact⟨_,aG6 (st:=top 58) l c k,λs u=>.of_eq rfl⟩
end
end Mc
open PySem.W
set_option hygiene false
local macro_rules|`(tactic|trivial)=>`(tactic|(dsimp only[L2.KOf];refine' Mc.mM d G ?a ?l ?c ?k ?b;(case a=>k_is);(case l=>k_is);(case c=>k_is);(case k=>k_is);first|(case b=>exact λ_ _ _ _ _ _=>Mc.bn1 λ_=>rfl)|(case b=>exact λ_ _ _ _ _ _=>Mc.bn3 λ_ _ _=>rfl)))
set_option hygiene true
set_option maxRecDepth 100000 in
set_option maxHeartbeats 0 in
theorem PySem.Challenge.cw_striproam_k28_whole_one_least_form_holds : PySem.Challenge.rw_striproam_k28_whole_one_least_form.Holds := by
 w_on;o_law;k_head;(case hw=>w_witness2)
 k_fill
 refine Fl.aO5 (l:=PySem.Challenge.rw_striproam_k28_whole_one_least_form) (k:=19) (x:="_law_script") (qs:=Mc.qsT) (xs:=["first_to","one_way","parted","least"]) ?hx ?hNT rfl rfl ⟨rfl,by decide,by decide⟩ (λw h Yq=>PySem.W.km_in_of Yq) ?F
 case hx=>
  intro x hx
  simp only[AW,DD,FT]at hx
  rcases hx with rfl|rfl|rfl|rfl<;>exact Mc.rec_in (by decide +kernel)
 case hNT=>
  intro w
  kernel_rfl
 case F=>
  intro w mg q h d G f
  have n:L2.DefAt (L2.KOf d) mg "first_to" (Mc.top 12) ["begin","after","wanted"]:=by trivial
  have i:L2.DefAt (L2.KOf d) mg "one_way" (Mc.top 20) ["machine"]:=by trivial
  have g:L2.DefAt (L2.KOf d) mg "parted" (Mc.top 25) ["one","other","begin"]:=by trivial
  have j:L2.DefAt (L2.KOf d) mg "least" (Mc.top 31) ["reader"]:=by trivial
  have T:Mc.Txt w (L2.KOf d) mg:=by
   dsimp only[L2.KOf]
   refine' Mc.aUS d G ?z_enumerate ?z_int ?z_isinstance ?z_len ?z_list ?z_max ?z_min ?z_range ?z_str ?z_tuple ?z_zip ?s_MOST_BEGINNINGS ?s_SIGNS
   (case z_enumerate=>k_is);(case z_int=>k_is);(case z_isinstance=>k_is);(case z_len=>k_is);(case z_list=>k_is);(case z_max=>k_is);(case z_min=>k_is);(case z_range=>k_is);(case z_str=>k_is);(case z_tuple=>k_is);(case z_zip=>k_is);(case s_MOST_BEGINNINGS=>k_is);(case s_SIGNS=>k_is)
  have Ep_TooMany:∃ W C,L2.ErrP (L2.KOf d) mg "TooMany" W C:=by
   dsimp only[L2.KOf]
   refine' Mc.aJZ d G ?m ?e1 ?e2 ?e3 ?e4 ?e5 ?e6 ?e7 ?e8 ?n1 ?n2 ?w1 ?w2 ?w3
   (case m=>k_is)
   (case e1=>k_is)
   (case e2=>k_is);(case e3=>k_is);(case e4=>k_is);(case e5=>k_is);(case e6=>k_is);(case e7=>k_is);(case e8=>k_is)
   (case n2=>k_is);(case w1=>k_is);(case w3=>k_is)
   (case n1=>refine' L2.sM ?l ?h;(case l=>k_is);(case h=>rfl))
   (case w2=>refine' L2.sM ?l ?h;(case l=>k_is);(case h=>rfl))
  have Ep_NotLike:∃ W C,L2.ErrP (L2.KOf d) mg "NotLike" W C:=by
   dsimp only[L2.KOf]
   refine' Mc.aJZ d G ?m ?e1 ?e2 ?e3 ?e4 ?e5 ?e6 ?e7 ?e8 ?n1 ?n2 ?w1 ?w2 ?w3
   (case m=>k_is)
   (case e1=>k_is)
   (case e2=>k_is);(case e3=>k_is);(case e4=>k_is);(case e5=>k_is);(case e6=>k_is);(case e7=>k_is);(case e8=>k_is)
   (case n2=>k_is);(case w1=>k_is);(case w3=>k_is)
   (case n1=>refine' L2.sM ?l ?h;(case l=>k_is);(case h=>rfl))
   (case w2=>refine' L2.sM ?l ?h;(case l=>k_is);(case h=>rfl))
  have p:∃ fd,L2.Fun (L2.KOf d) "law" "law" (Mc.top 58) q fd/\∀ (s:S9) (u:V9),BindsTo s fd ⟨[u],[]⟩ [("_law_script",u)]:=by
   dsimp only[L2.KOf]
   refine' Mc.aUT d G f ?a4 ?l4 ?c4 ?k4
   (case a4=>k_is);(case l4=>k_is);(case c4=>k_is);(case k4=>k_is)
  obtain⟨fd,o,r⟩:=p
  exact⟨fd,r,λbase TH _ _ e=>Mc.aRA T (by repeat (first|exact .nil|refine .cons (by dsimp only[L2.KOf];refine' Mc.mM d G ?a ?l ?c ?k ?b;(case a=>k_is);(case l=>k_is);(case c=>k_is);(case k=>k_is);first|(case b=>exact λ_ _ _ _ _ _=>Mc.bn1 λ_=>rfl)|(case b=>exact λ_ _ _ _ _ _=>Mc.bn2 λ_ _=>rfl)|(case b=>exact λ_ _ _ _ _ _=>Mc.bn3 λ_ _ _=>rfl)|(case b=>exact λ_ _ _ _ _ _=>Mc.bn4 λ_ _ _ _=>rfl)) ?_)) Ep_TooMany Ep_NotLike (Fl.aFX n d e (by decide)) (Fl.aFX i d e (by decide)) (Fl.aFX g d e (by decide)) (Fl.aFX j d e (by decide)) o⟩
end
