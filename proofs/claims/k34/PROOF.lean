import PyProof.Rows.All
import Wide.All
import OpenK.AllK
import Wide.FinOn
import Lean
import PyProof.EqAt
import PyProof.EqKinds
import PyProof.TupleCall
import PyProof.ExcInit
import PyProof.InstStoreFacts
import PyProof.StrLawsFirst
import PyProof.StrLawsIn
import KE.KLam
import PyProof.ListMulRoad
import PyProof.Rows.ListMul
import PyProof.ZipIter
import PyProof.Draws
import PyProof.ListStr
import PyProof.DictWalks
import PyProof.DictTruth
import PyProof.ListRange
import PyProof.StrLaws
import PyProof.StrLawsIdx
import PyProof.AttrMissHeap
import PyProof.StrBlock2
import PyProof.P3In
import PyProof.SumWalkG
import PySem.Challenge.RW_striproam_k34_joined_refused
set_option linter.all false
set_option maxRecDepth 100000
set_option maxHeartbeats 4000000
set_option Elab.async false
set_option genSizeOf false
abbrev Dz:=PySem.PyData
abbrev V9:=PySem.Value
abbrev S9:=PySem.Shared
abbrev Az:=PySem.Addr
abbrev P9:=PySem.Program
abbrev W9:=PySem.World
abbrev H9:=PySem.Heap
abbrev E1:=PySem.Expr
abbrev U9:=PySem.Around
abbrev O9(α:Type):=Option α
def PySem.W.Fast.tw17052745874770740007:=()
def PySem.W.Fast.tw12440776462557161339:=()
def PySem.W.Fast.tw14591662695189609686:=()
def PySem.W.Fast.tw5112604318347854851:=()
def PySem.W.Fast.tw3101943497348042770:=()
def PySem.W.Fast.tw1120598081076801655:=()
def PySem.W.Fast.tw1861243577327177878:=()
def PySem.W.Fast.tw12682145036929965226:=()
def PySem.W.Fast.tw4255487732712477685:=()
def PySem.W.Fast.tw7970518925717574879:=()
def PySem.W.Fast.tw999191482733614136:=()
def PySem.W.Fast.tw13913167851379185837:=()
def PySem.W.Fast.tw3320052427668681084:=()
def PySem.W.Fast.tw152271979803305967:=()
def PySem.W.Fast.tw53835166504123366:=()
def PySem.W.Fast.tw6310962080301427817:=()
def PySem.W.Fast.tw15877673709226307933:=()
def PySem.W.Fast.tw12567938344953258421:=()
def PySem.W.Fast.tw2813768037265878300:=()
def PySem.W.Fast.tw12478045857824609396:=()
def PySem.W.Fast.tw13491092113547699561:=()
def PySem.W.Fast.tw6804313061313179258:=()
def PySem.W.Fast.tw18007989107337492925:=()
def PySem.W.Fast.tw12013858570296281224:=()
def PySem.W.Fast.tw2274607654392162408:=()
def PySem.W.Fast.tw124241058655215962:=()
def PySem.W.Fast.tw8482130371640774832:=()
def PySem.W.Fast.tw17409539375012943694:=()
def PySem.W.Fast.tw13383591324340783795:=()
def PySem.W.Fast.tw18400737107688904897:=()
def PySem.W.Fast.tw6934131544066386162:=()
def PySem.W.Fast.tw16989732691338964110:=()
def PySem.W.Fast.tw10893698991361488147:=()
def PySem.W.Fast.tw13147825395200861793:=()
def PySem.W.Fast.tw3703761382826812748:=()
def PySem.W.Fast.tw9948357896112809529:=()
def PySem.W.Fast.tw17184088222498304232:=()
def PySem.W.Fast.tw1246930713117257821:=()
def PySem.W.Fast.tw15184965765793268861:=()
def PySem.W.Fast.tw7285219055014813527:=()
def PySem.W.Fast.tw2102613913703262656:=()
def PySem.W.Fast.tw10585153697182876996:=()
def PySem.W.Fast.tw16603184506887172791:=()
def PySem.W.Fast.tw9739640270082933872:=()
def PySem.W.Fast.tw6344435493046172506:=()
def AA:=@List.length_map
def AB:=@PySem.wpAny_bind
def AC:=@PySem.Heap.get?_push_of_some
def AD:=@if_pos
def AE:=@if_neg
def AG:=@List.getElem?_map
def AH:=@List.mem_of_getElem?
def AI:=@List.getD_eq_getElem?_getD
def AJ:=@decide_eq_true
def AK:=@List.getElem?_cons_succ
def AL:=@List.mem_cons_of_mem
def AM:=@PySem.wpAny_pure
def AN:=@List.getElem?_cons_zero
def AQ:=@Nat.le_refl
def AS:=@List.length_append
def AT:=@PySem.Heap.lt_size
def AU:=@List.getElem?_eq_some_iff
def AV:=@List.mem_cons_self
def AW:=@List.getElem?_eq_getElem
def AX:=@List.mem_map
def AY:=@PyProof.Rows.boot_tuple
def AZ:=@List.map_map
def A0:=@List.length_range
def A1:=@decide_eq_false
def A2:=@List.set_cons_zero
def A3:=@List.set_cons_succ
def A4:=@List.map_cons
def A5:=@List.length_cons
def A6:=@List.mem_cons
def A7:=@List.mem_range
def A8:=@List.mem_singleton
def A9:=@PySem.Heap.get?_push_size
def BA:=@Nat.lt_of_lt_of_le
def BB:=@PySem.boot_len
def BC:=@List.length_singleton
def BD:=@of_decide_eq_true
def BE:=@Bool.and_eq_true
def BF:=@List.length_nil
def BG:=@PySem.mem_of_lookup
def BH:=@List.map_congr_left
def BI:=@PySem.F.plainAttrs_list
def BJ:=@PyProof.Rows.boot_isinstance
def BK:=@List.size_toArray
def BL:=@List.map_append
def BM:=@List.getElem?_range
def BN:=@List.map_nil
def BO:=@PySem.wpAny_mono
def BP:=@Nat.ne_of_lt
def BQ:=@List.length_replicate
def BR:=@Nat.le_trans
def BS:=@Ne.symm
def BT:=@List.getElem?_set_ne
def BU:=@if_true
def BV:=@PySem.F.slot_list_append
def BW:=@PySem.F.type_list_append
def BX:=@List.mem_append
def BY:=@List.mem_append_right
def BZ:=@List.nil_append
def B0:=@List.replicate_succ
def B1:=@List.getElem?_append_right
def B2:=@Int.toNat_natCast
def B3:=@PySem.W.mg_none_of
def B4:=@PySem.Heap.size_push
def B5:=@Option.some.inj
def B6:=@PySem.W.kia_one
def B7:=@List.cons_append
def B8:=@PySem.wpAny_field
def B9:=@List.mem_append_left
def CA:=@Bool.false_eq_true
def CB:=@List.all_eq_true
def CC:=@List.getElem?_append_left
def CD:=@Classical.byContradiction
def CF:=@PySem.Heap.SameBut.update
def CG:=@Bool.false_ne_true
def CH:=@Nat.mod_lt
def CI:=@Nat.lt_irrefl
def CJ:=@PySem.Heap.get?_update_self
def CK:=@PyProof.Rows.boot_int
def CL:=@List.length_take
def CM:=@List.lookup_cons
def CN:=@Nat.zero_le
def CO:=@PySem.W.mg_of
def CP:=@List.not_mem_nil
def CQ:=@PySem.wpAny_Call_Name_kw
def CS:=@PySem.wpAny_seqItems
def CT:=@List.append_nil
def CU:=@Nat.zero_add
def CV:=@List.eq_of_mem_replicate
def CW:=@List.flatten_cons
def CY:=@Nat.mod_eq_of_lt
def CZ:=@List.getElem?_set_self
def C7:=@PyProof.Rows.callWith_type1
def C8:=@List.mem_filterMap
def C9:=@PySem.wpAny_setField_rec
def DA:=@List.mem_replicate
def DB:=@PySem.wpAny_passesOwn
def DC:=@List.length_set
def DD:=@PySem.wpAny_holding
def DE:=@PySem.wpAny_standAt
def DF:=@congrArg
def DG:=@PySem.F.slot_tuple_iterator_next
def DH:=@List.nodup_append
def DI:=@PySem.eqIsQuiet_byValue
def DJ:=@List.mem_of_getLast?
def DK:=@Nat.le_of_lt
def DL:=@Nat.ne_of_gt
def DM:=@List.length_eq_zero_iff
def DN:=@PySem.wpAny_callSpecial?_slot
def DO:=@PySem.W.callWith_K
def DP:=@List.nodup_cons
def DQ:=@PySem.call_meets
def DR:=@List.forIn_cons
def DS:=@PySem.Obj.data_mapFields
def DT:=@List.length_zipIdx
def DU:=@Int.emod_lt_of_pos
def DV:=@List.map_replicate
def DW:=@decide_eq_true_iff
def DX:=@PySem.Heap.get?_update_other
def DY:=@Int.le_refl
def DZ:=@List.append_assoc
def D0:=@Nat.lt_trichotomy
def D3:=@List.ext_getElem?
def D4:=@List.nodup_nil
def D5:=@PySem.F.slot_dict_setdefault
def D6:=@if_false
def D7:=@PySem.Obj.data_mapDictKeys
def D8:=@List.filterMap_cons
def D9:=@Array.length_toList
def EA:=@PySem.wpAny_execs_nil
def EB:=@List.of_mem_zip
def EC:=@Bool.or_eq_true
def ED:=@List.pairwise_iff_getElem
def EE:=@List.foldl_cons
def EF:=@Int.emod_nonneg
def EG:=@Nat.add_mul_mod_self_left
def EH:=@PySem.codeAny_mono
def EI:=@List.getElem?_take_of_lt
def EJ:=@Nat.lt_of_le_of_lt
def EK:=@PySem.wpAny_setField
def EL:=@List.getElem?_replicate
def EM:=@PySem.F.slot_list_index
def EN:=@PySem.F.slot_list_count
def EO:=@PySem.wpAny_truthy_bool
def EQ:=@PySem.wpAny_newObj_type
def ER:=@PySem.wpAny_loadPart_at
def ES:=@PySem.W.cellsFrom_some
def ET:=@Option.bind_some
def EU:=@PySem.F.slot_tuple_mul
def EV:=@PySem.wpAny_call_entry
def EW:=@or_false
def EX:=@PySem.codeAny_call_function
def EY:=@PySem.Obj.isFreed_of_fields
def EZ:=@PyProof.Rows.boot_min
def E2:=@beq_false_of_ne
def E3:=@List.mem_iff_getElem
def E4:=@Nat.le_of_eq
def E5:=@List.find?_cons
def E6:=@List.cons.injEq
def E7:=@PySem.F.slot_int_rmul
def E8:=@PySem.wpAny_rule
def E9:=@PySem.wpAny_updateSeq_pair
def FA:=@PySem.F.slot_zip_next
def FB:=@PySem.F.args_dict_setdefault_3
def FC:=@Option.map_some
def FD:=@List.getElem?_of_mem
def FE:=@Classical.not_forall
def FF:=@PySem.F.entry_dict_setdefault
def FG:=@beq_eq_false_iff_ne
def FH:=@PySem.wpAny_isSubtype_exc
def FI:=@List.mem_map_of_mem
def FJ:=@List.forIn_nil
def FK:=@PySem.F.args_tuple_iterator_next_1
def FM:=@List.getElem_range
def FN:=@PySem.F.entry_tuple_iterator_next
def FP:=@PySem.Calls.Name_function_global
def FQ:=@PySem.wpAny_newFunctionEnv_cells
def FR:=@PySem.wpAny_attempt
def FS:=@PySem.F.excAttr_ValueError
def FT:=@Array.getElem?_eq_some_iff
def FU:=@PySem.wpAny_onRaise
def FV:=@PySem.W.kitx_list
def FW:=@Option.isSome_map
def FX:=@List.take_add_one
def FY:=@PySem.wpAny_call
def FZ:=@PySem.typeIs_int
def F5:=@List.drop_eq_getElem_cons
def F6:=@PySem.wpAny_binaryOp_repeat_ref
def F7:=@List.getLast?_eq_none_iff
def F8:=@List.getLast?_eq_some_iff
def F9:=@Option.isSome_iff_exists
def GA:=@PySem.F.args_tuple_add_2
def GB:=@Nat.add_comm
def GC:=@PySem.wpAny_comprehension_free
def GD:=@List.getElem_mem
def GE:=@List.Pairwise.imp_of_mem
def GF:=@Nat.mul_comm
def GG:=@List.any_eq_true
def GH:=@Option.join_some
def GI:=@List.prefix_refl
def GJ:=@List.take_length
def GK:=@Option.bind_none
def GL:=@Nat.add_zero
def GM:=@PySem.F.entry_tuple_add
def GN:=@PySem.F.type_list_count
def GO:=@PySem.F.type_list_index
def GP:=@Nat.add_sub_cancel_left
def GQ:=@List.length_zip
def GR:=@PySem.sizeLine_eq
def GS:=@PySem.F.slot_tuple_add
def GT:=@PySem.wpAny_Call_method_late
def GU:=@PySem.Calls.callWith_builtin
def GV:=@List.take_of_length_le
def GW:=@Array.getElem?_toList
def GX:=@List.countP_le_length
def GY:=@PyProof.Rows.boot_str
theorem Mc.bn1{α:Type}{P:List α->Prop}(h:∀ a,P [a]):∀ us:List α,us.length=1->P us
 | [a],_=>h a
theorem Mc.bn2{α:Type}{P:List α->Prop}(h:∀ a b,P [a,b]):∀ us:List α,us.length=2->P us
 | [a,b],_=>h a b
theorem Mc.bn3{α:Type}{P:List α->Prop}(h:∀ a b c,P [a,b,c]):∀ us:List α,us.length=3->P us
 | [a,b,c],_=>h a b c
theorem Mc.bn4{α:Type}{P:List α->Prop}(h:∀ a b c d,P [a,b,c,d]):∀ us:List α,us.length=4->P us
 | [a,b,c,d],_=>h a b c d
theorem Mc.bn5{α:Type}{P:List α->Prop}(h:∀ a b c d e,P [a,b,c,d,e]):∀ us:List α,us.length=5->P us
 | [a,b,c,d,e],_=>h a b c d e
open PySem.W (Frag)
open PySem
noncomputable section
namespace L2
open PySem.Spec PyProof.Rows
abbrev Key:=Sum Int Str
noncomputable def uU:Key->V9->Bool
 | .inl k,v=>Value.isInt k v
 | .inr x,v=>Value.isStrOf x v
noncomputable def aV0(w:W9):Key->Int
 | .inl k=>hashInt k
 | .inr x=>hashStr w x
theorem keyIs_shape:∀ {k:Key} {v:V9},uU k v=true->(∃ i t,k=Sum.inl i/\v=Value.int i t)\/(∃ x t,k=Sum.inr x/\v=Value.str x t)
 | .inl i,v,h=>by
  obtain⟨t,e⟩:=Value.isInt_shape (k:=i) (v:=v) h
  exact .inl ⟨i,t,rfl,e⟩
 | .inr x,v,h=>by
  obtain⟨t,e⟩:=Value.isStrOf_shape (x:=x) (v:=v) h
  exact .inr ⟨x,t,rfl,e⟩
theorem aJJ(i:Int)(t:Tok):uU (.inl i) (.int i t)=true:=by simp[uU,Value.isInt]
theorem aJK(x:Str)(t:Tok):uU (.inr x) (.str x t)=true:=by simp[uU,Value.isStrOf]
theorem aRW(a b:Int):decide ((Sum.inl a:Key)=Sum.inl b)=(a == b):=by
 by_cases e:a=b
 .subst e;simp
 .have h:¬ (Sum.inl a:Key)=Sum.inl b:=λq=>e (Sum.inl.inj q)
  rw[A1 h]
  exact(FG.mpr e).symm
theorem aRX(a b:Str):decide ((Sum.inr a:Key)=Sum.inr b)=decide (a=b):=by
 by_cases e:a=b
 .subst e;simp
 .have h:¬ (Sum.inr a:Key)=Sum.inr b:=λq=>e (Sum.inr.inj q)
  rw[A1 h,A1 e]
theorem aRY(a:Int)(b:Str):decide ((Sum.inl a:Key)=Sum.inr b)=false:=A1 (λq=>nomatch q)
theorem aRZ(a:Str)(b:Int):decide ((Sum.inr a:Key)=Sum.inl b)=false:=A1 (λq=>nomatch q)
noncomputable def eZ(prog:P9)(w:W9):PySem.KeyKind prog w Key where
 is:=uU
 hash:=aV0 w
 inj:=λv a b ha hb=>by
  rcases keyIs_shape ha with ⟨i,t,rfl,rfl⟩|⟨x,t,rfl,rfl⟩
  .rcases keyIs_shape hb with ⟨j,u,rfl,e⟩|⟨y,u,rfl,e⟩
   · injection e with e1 _; rw [e1]
   · exact nomatch e
  .rcases keyIs_shape hb with ⟨j,u,rfl,e⟩|⟨y,u,rfl,e⟩
   · exact nomatch e
   · injection e with e1 _; rw [e1]
 byValue:=λk v h=>by
  rcases keyIs_shape h with ⟨i,t,rfl,rfl⟩|⟨x,t,rfl,rfl⟩<;>rfl
 pyHash:=λhv h=>by
  rcases keyIs_shape hv with ⟨i,t,rfl,rfl⟩|⟨x,t,rfl,rfl⟩
  .exact wpAny_pyHash_int h
  .exact wpAny_pyHash_str h
 eqBool:=λhu hv h=>by
  rcases keyIs_shape hu with ⟨i,t,rfl,rfl⟩|⟨x,t,rfl,rfl⟩
  .rcases keyIs_shape hv with ⟨j,u,rfl,rfl⟩|⟨y,u,rfl,rfl⟩
   · rw [aRW]at h; exact wpAny_eqBool_int h
   · rw [aRY]at h; exact SeqAt.EqAt.int_str i t y u _ _ _ _ h
  .rcases keyIs_shape hv with ⟨j,u,rfl,rfl⟩|⟨y,u,rfl,rfl⟩
   · rw [aRZ]at h; exact SeqAt.EqAt.str_int x t j u _ _ _ _ h
   · rw [aRX]at h; exact wpAny_eqBool_str h
 «strs»:=λk x t v h=>by
  rcases keyIs_shape h with ⟨i,u,rfl,e⟩|⟨y,u,rfl,e⟩
  .exact nomatch e
  .injection e with e1 _
   subst e1
   cases v<;>rfl
theorem aFT(prog:P9)(w:W9)(i:Int)(t:Tok):(eZ prog w).is (.inl i) (.int i t)=true:=aJJ i t
theorem aFU(prog:P9)(w:W9)(x:Str)(t:Tok):(eZ prog w).is (.inr x) (.str x t)=true:=aJK x t
inductive V where
 | non|bl (b:Bool)|int (i:Int)|str (x:Str)|byt (b:Array UInt8)|flt (b:UInt64)|ref (a:Az)|ty (n:String)
 deriving DecidableEq
def bO:V->V9->Prop
 | .non,u=>u=Value.none
 | .bl b,u=>u=Value.bool b
 | .int i,u=>∃ t,u=Value.int i t
 | .str x,u=>∃ t,u=Value.str x t
 | .byt b,u=>∃ t,u=Value.bytes b t
 | .flt b,u=>∃ t,u=Value.float b t
 | .ref a,u=>u=Value.ref a
 | .ty n,u=>u=Value.type n
abbrev cI:List V->List V9->Prop:=Paired bO
theorem cI.length{xs:List V}{us:List V9}(r:cI xs us):xs.length=us.length:=Paired.length r
theorem cI.get:∀ {xs:List V} {us:List V9} {i:Nat} {x:V},cI xs us->xs[i]? = some x->∃ u,us[i]? = some u/\bO x u
 | _,_,_,_,.nil,e=>by simp at e
 | _,_,0,_,.cons r _,e=>by simp at e;subst e;exact⟨_,rfl,r⟩
 | _,_,i+1,x,.cons _ t,e=>by
  obtain⟨u,h1,h2⟩:=cI.get (i:=i) (x:=x) t (by simpa using e)
  exact⟨u,by simpa using h1,h2⟩
theorem cI.append:∀ {xs ys:List V} {us ws:List V9},cI xs us->cI ys ws->cI (xs++ys) (us++ws)
 | _,_,_,_,.nil,s=>s
 | _,_,_,_,.cons r t,s=>.cons r (cI.append t s)
def pV:O9 V->O9 V9->Prop
 | some v,some u=>bO v u
 | none,none=>True
 | _,_=>False
def KV{κ:Type}:List (κ×V)->List (κ×V9)->Prop:=Paired λ(p:κ×V) (q:κ×V9)=>p.1=q.1/\bO p.2 q.2
noncomputable def kV:Key->V
 | .inl i=>.int i
 | .inr x=>.str x
inductive HO where
 | lst (xs:List V)
 | tup (xs:List V)
 | dK (a6:List (Key×V))|dT (a6:List (List Key×V))
 | set (S:Int->Bool) (n:Nat)
 | ins (C dx:Az) (fs:List (Str×V))
 | own (x:Az)
 | xd (fs:List (Str×V))
 | met (f x:Az)
 | rng (lo hi:Int)
 | frz (o:Obj) (u:HO)
 | tbl (qs:List (Pos×Str))
 | cod (q:Str)
 | ext (φ:Heap->Prop)
abbrev Hp:=Az->O9 HO
noncomputable def upd(H:Hp)(a:Az)(o:HO):Hp:=λb=>if b=a then some o else H b
theorem bL{H:Hp}{a:Az}{o:HO}:upd H a o a=some o:=by unfold upd;rw[AD rfl]
theorem aW{H:Hp}{a b:Az}{o:HO}(h:b≠a):upd H a o b=H b:=by unfold upd;rw[AE h]
theorem aF7{H:Hp}{a:Az}{o u:HO}:upd (upd H a o) a u=upd H a u:=by
 funext b;unfold upd;split<;>rfl
theorem bQ{H:Hp}{a b:Az}{o:HO}(h:H a=some o)(h':H b=none):a≠b:=by
 intro e;subst e;rw[h]at h';cases h'
def nI(h:H9)(a:Az)(its:Array V9):Prop:=∃ o,h.get? a=some o/\(o.cls=.type "tuple"/\o.dict=none)/\∃ n,o.data=.seq its n
theorem nI.t{h:H9}{a:Az}{b:Array V9}:nI h a b->IsTup h a b:=λ⟨o,e,c,n,d⟩=>⟨o,e,c.1,n,d⟩
theorem nI.new(h:H9)(a:Array V9):nI (h.push {cls:=.type "tuple",data:=.seq a}) h.objs.size a:=⟨_,A9 h rfl,⟨rfl,rfl⟩,_,rfl⟩
section
variable(P:P9)(w:W9)
def cR(H:Hp)(h:H9)(a:Az):HO->Prop
 | .lst xs=>xs.length<=sizeLine/\∃ (its:List V9) (n:Nat),cI xs its/\h.get? a=some {cls:=.type "list",data:=.seq its.toArray n}
 | .tup xs=>xs.length<=sizeLine/\∃ its:List V9,cI xs its/\nI h a its.toArray
 | .dK a6=>a6.length<=sizeLine/\(a == sysModules)=false/\∃ vs,KV a6 vs/\h.DictOf (eZ P w) a vs
 | .dT a6=>a6.length<=sizeLine/\(a == sysModules)=false/\∃ xs:List (List Key×Az×V9),
  Paired (λ(p:List Key×V) (q:List Key×Az×V9)=>p.1=q.1/\H q.2.1=some (.tup (p.1.map kV))/\bO p.2 q.2.2) a6 xs /\
  ∃ o es ep,h.get? a=some o/\o.ExactDict/\o.data=.dict es ep/\es.toList=xs.map (entryOfKey (tupleKind (eZ P w)))/\(xs.map (·.1)).Nodup
 | .set S n=>h.SetOf (intKind P w) a S n
 | .ins C dx fs=>H dx=some (.own a)/\fs.length<=1000/\dx≠a/\h.get? a=some (PySem.W.instObj C dx) /\
  ∃ mA,h.Ns1 dx mA/\(∀ f,pV (fs.lookup f) (mA f))/\PySem.Within mA (fs.map (·.1))
 | .own _=>∃ o,h.get? a=some o
 | .xd fs=>∃ mA,h.Ns1 a mA/\∀ f,pV (fs.lookup f) (mA f)
 | .rng lo hi=>∃ t u v,h.get? a=some {cls:=.type "range",data:=.fields #[.int lo t,.int hi u,.int 1 v]}
 | .frz o u=>h.get? a=some o/\cR H h a u
 | .tbl qs=>∃ ps:Array V9,h.get? a=some {cls:=.none,data:=.fields ps}/\TriplesOk ps.toList/\∀ p∈qs,codeAmong p.1 ps.toList=none\/∃ c,codeAmong p.1 ps.toList=some (.ref c)/\H c=some (.cod p.2)
 | .cod q=>h.CodeRec (.ref a) q
 | .met f x=>h.get? a=some (PySem.W.methodObj (.ref f) (.ref x))
 | .ext φ=>φ h/\(∃ o,h.get? a=some o)/\∀ h1 h2:H9,φ h1->(∀ o,h1.get? a=some o->h2.get? a=some o)->φ h2
def HOk(H:Hp)(h:H9):Prop:=∀ a o,H a=some o->cR P w H h a o
end
section
variable{P:P9}{w:W9}{H H':Hp}{h h':H9}{a:Az}{o:HO}
theorem cR.lt(x:cR P w H h a o):a < h.objs.size:=by
 cases o with
 | lst xs=>obtain⟨_,_,_,_,e⟩:=x;exact AT e
 | tup xs=>obtain⟨_,_,_,p⟩:=x;exact p.t.lt
 | dK a6=>obtain⟨_,_,_,_,o,_,_,e,_⟩:=x;exact AT e
 | dT a6=>obtain⟨_,_,_,_,o,_,_,e,_⟩:=x;exact AT e
 | set S n=>obtain⟨o,_,_,_,e,_⟩:=x;exact AT e
 | ins C dx fs=>obtain⟨_,_,_,e,_⟩:=x;exact AT e
 | own y=>obtain⟨_,e⟩:=x;exact AT e
 | xd fs=>obtain⟨_,⟨_,_,_,e,_⟩,_⟩:=x;exact AT e
 | rng lo hi=>obtain⟨_,_,_,e⟩:=x;exact AT e
 | frz ob u=>obtain⟨e,_⟩:=x;exact AT e
 | tbl qs=>obtain⟨ps,e,_⟩:=x;exact AT e
 | cod q=>obtain⟨c,o,vs,t,e,b,_⟩:=x;cases e;exact AT b
 | met f y=>exact AT (show h.get? a=some _ from x)
 | ext φ=>obtain⟨_,⟨_,e⟩,_⟩:=x;exact AT e
theorem Paired.mapP{α β:Type}{F G:α->β->Prop}:∀ {l₁:List α} {l₂:List β},Paired F l₁ l₂->(∀ a b,F a b->G a b)->Paired G l₁ l₂
 | _,_,.nil,_=>.nil
 | _,_,.cons r t,f=>.cons (f _ _ r) (Paired.mapP t f)
theorem cR.stay(x:cR P w H h a o)(k:∀ b u,(b=a\/H b=some (.own a))->h.get? b=some u->h'.get? b=some u)
  (l:∀ b,H b=some (.own a)->H' b=some (.own a)) (m:∀ b q,H b=some (.cod q)->H' b=some (.cod q)) (A:∀ b xs,H b=some (.tup xs)->H' b=some (.tup xs)):cR P w H' h' a o:=by
 induction o with
 | lst xs=>obtain⟨z,j,n,r,e⟩:=x;exact⟨z,j,n,r,k _ _ (.inl rfl) e⟩
 | tup xs=>obtain⟨z,j,r,g,e,c⟩:=x;exact⟨z,j,r,g,k _ _ (.inl rfl) e,c⟩
 | dK a6=>obtain⟨z,y,vs,r,g,es,i,e,c⟩:=x;exact⟨z,y,vs,r,g,es,i,k _ _ (.inl rfl) e,c⟩
 | dT a6=>
  obtain⟨z,y,xs,r,g,es,i,e,c⟩:=x
  exact⟨z,y,xs,Paired.mapP r λp q z=>⟨z.1,A _ _ z.2.1,z.2.2⟩,g,es,i,k _ _ (.inl rfl) e,c⟩
 | set S n=>obtain⟨g,es,i,t,e,c⟩:=x;exact⟨g,es,i,t,k _ _ (.inl rfl) e,c⟩
 | ins C dx fs=>
  obtain⟨d,z,s,e,mA,⟨od,es,i,e2,c⟩,r⟩:=x
  exact⟨l _ d,z,s,k _ _ (.inl rfl) e,mA,⟨od,es,i,k _ _ (.inr d) e2,c⟩,r⟩
 | own y=>obtain⟨g,e⟩:=x;exact⟨g,k _ _ (.inl rfl) e⟩
 | xd fs=>obtain⟨mA,⟨od,es,i,e,c⟩,r⟩:=x;exact⟨mA,⟨od,es,i,k _ _ (.inl rfl) e,c⟩,r⟩
 | rng lo hi=>obtain⟨t,u,v,e⟩:=x;exact⟨t,u,v,k _ _ (.inl rfl) e⟩
 | frz g u ih=>obtain⟨e,q⟩:=x;exact⟨k _ _ (.inl rfl) e,ih q⟩
 | tbl qs=>
  obtain⟨ps,e,t,r⟩:=x
  refine⟨ps,k _ _ (.inl rfl) e,t,λp B=>?_⟩
  rcases r p B with z|⟨c,z,D⟩
  · exact .inl z
  · exact .inr ⟨c, z, m _ _ D⟩
 | cod q=>
  obtain⟨c,o,vs,t,e,l,r⟩:=x
  cases e
  exact⟨_,o,vs,t,rfl,k _ _ (.inl rfl) l,r⟩
 | met f y=>
  have e:h.get? a=some (PySem.W.methodObj (.ref f) (.ref y)):=x
  show h'.get? a=some (PySem.W.methodObj (.ref f) (.ref y))
  exact k a _ (.inl rfl) e
 | ext φ=>obtain⟨p,⟨o,e⟩,st⟩:=x;exact⟨st _ _ p λo q=>k _ _ (.inl rfl) q,⟨o,k _ _ (.inl rfl) e⟩,st⟩
theorem HOk.lt(x:HOk P w H h)(e:H a=some o):a < h.objs.size:=(x a o e).lt
theorem HOk.fresh(x:HOk P w H h)(e:h.objs.size<=a):H a=none:=by
 cases q:H a with
 | none=>rfl
 | some u=>exact absurd (BA (x.lt q) e) (CI _)
theorem HOk.kept(x:HOk P w H h)(k:∀ b u,h.get? b=some u->h'.get? b=some u):HOk P w H h':=λa o e=>
 (x a o e).stay (λb u _ q=>k b u q) (λ_ q=>q) (λ_ _ q=>q) λ_ _ q=>q
theorem HOk.laid(x:HOk P w H h)(k:∀ b u,h.get? b=some u->h'.get? b=some u)(g:h.objs.size<=a)(new:cR P w (upd H a o) h' a o):HOk P w (upd H a o) h':=λb u e=>by
 have d:=x.fresh g
 by_cases f:b=a
 .subst f;rw[bL]at e;cases e;exact new
 .rw[aW f]at e
  exact(x b u e).stay (λc v _ q=>k c v q) (λc q=>by rw[aW (bQ q d)];exact q) (λc xs q=>by rw[aW (bQ q d)];exact q) λc xs q=>by rw[aW (bQ q d)];exact q
end
def Rd(H:Hp)(a:Az)(u:HO):Prop:=H a=some u\/∃ o,H a=some (.frz o u)
theorem Rd.ok{P:P9}{w:W9}{H:Hp}{h:H9}{a:Az}{u:HO}(r:Rd H a u)(x:HOk P w H h):cR P w H h a u:=by
 rcases r with r|⟨o,r⟩
 .exact x a u r
 .obtain ⟨_,q⟩:=x a _ r
  exact q
def Mut:O9 HO->Prop
 | some (.lst _)=>True
 | some (.dK _)=>True
 | some (.dT _)=>True
 | some (.set _ _)=>True
 | some (.ins _ _ _)=>True
 | some (.ext _)=>True
 | _=>False
section
variable{P:P9}{w:W9}{H:Hp}{h h':H9}{x e:Az}{o':HO}
theorem HOk.write(ok:HOk P w H h)(f:Mut (H x))(n:e=x\/H e=some (.own x))(k:∀ b u,b≠e->h.get? b=some u->h'.get? b=some u)(m:∃ u,h'.get? e=some u)
  (new:cR P w (upd H x o') h' x o'):HOk P w (upd H x o') h':=λb u q=>by
 have d:∀ c y,H c=some (.own y)->c≠x:=λc y r z=>by subst z;rw[r]at f;exact f
 have i:∀ c xs,H c=some (.tup xs)->c≠x:=λc xs r z=>by subst z;rw[r]at f;exact f
 have g:∀ c xs,H c=some (.cod xs)->c≠x:=λc xs r z=>by subst z;rw[r]at f;exact f
 by_cases l:b=x
 .subst l;rw[bL]at q;cases q;exact new
 .rw[aW l]at q
  by_cases a:b=e
  .have o:H b=some (.own x):=by
    rcases n with z|z
    · exact absurd (a.trans z) l
    · rw [a]; exact z
   rw[q]at o;cases o
   obtain⟨v,p⟩:=m
   exact⟨v,by rw[a];exact p⟩
  .refine (ok b u q).stay (λc v j r=>k c v ?_ r) (λc r=>by rw[aW (d c b r)];exact r) (λc xs r=>by rw[aW (g c xs r)];exact r) λc xs r=>by rw[aW (i c xs r)];exact r
   rcases j with rfl|j
   .exact a
   .rintro rfl
    rcases n with z|z
    · exact d c b j z
    · rw [j]at z; cases z; exact l rfl
end
structure Un(fs ex:List Az)(H H':Hp)(h h':Heap):Prop where
 keep:∀ b o,h.get? b=some o->H b=none->b∉fs->b∉ex->h'.get? b=some o
 slot:∀ b o,h.get? b=some o->H b=none->b∈fs->b∉ex->∃ sl,h'.get? b=some {o with slots:=sl}
 free:∀ b o,h.get? b=some o->H b=none->b∉ex->H' b=none
 there:∀ b o,h.get? b=some o->b∉ex->∃ o',h'.get? b=some o'
 tups:∀ b xs,H b=some (.tup xs)->H' b=some (.tup xs)
 frzs:∀ b o u,H b=some (.frz o u)->H' b=some (.frz o u)
 tbls:∀ b ps,H b=some (.tbl ps)->H' b=some (.tbl ps)
section
variable{fs fs' ex ex':List Az}{H H1 H2:Hp}{h h1 h2 h':H9}{a x e:Az}{o:HO}
theorem Un.any(u:Un fs ex H H1 h h1){b:Az}{a:Obj}(q:h.get? b=some a)(n:H b=none)(hx:b∉ex):∃ sl,h1.get? b=some {a with slots:=sl}:=by
 by_cases c:b∈fs
 · exact u.slot b a q n c hx
 · exact⟨a.slots, u.keep b a q n c hx⟩
theorem Un.trans(a:Un fs ex H H1 h h1)(b:Un fs ex H1 H2 h1 h2):Un fs ex H H2 h h2 where
 keep:=λc e q n f d=>b.keep c e (a.keep c e q n f d) (a.free c e q n d) f d
 slot:=λc e q n f d=>by
  obtain⟨sl,e1⟩:=a.slot c e q n f d
  obtain⟨g,e2⟩:=b.slot c _ e1 (a.free c e q n d) f d
  exact⟨g,e2⟩
 free:=λc e q n d=>by
  obtain⟨o',e1⟩:=a.there c e q d
  exact b.free c o' e1 (a.free c e q n d) d
 there:=λc e q d=>by
  obtain⟨o',e1⟩:=a.there c e q d
  exact b.there c o' e1 d
 tups:=λc xs q=>b.tups c xs (a.tups c xs q)
 frzs:=λc e xs q=>b.frzs c e xs (a.frzs c e xs q)
 tbls:=λc ps q=>b.tbls c ps (a.tbls c ps q)
theorem Un.kept(k:∀ b u,h.get? b=some u->h'.get? b=some u):Un fs ex H H h h':=
 ⟨λb a q _ _ _=>k b a q,λb a q _ _ _=>⟨a.slots,k b a q⟩,λ_ _ _ n _=>n,λb a q _=>⟨a,k b a q⟩,λ_ _ q=>q,λ_ _ _ q=>q,λ_ _ q=>q⟩
theorem Un.refl:Un fs ex H H h h:=Un.kept λ_ _ q=>q
theorem Un.laid(k:∀ b u,h.get? b=some u->h'.get? b=some u)(d:h.objs.size<=a)(c:H a=none):Un fs ex H (upd H a o) h h' where
 keep:=λb u q _ _ _=>k b u q
 slot:=λb u q _ _ _=>⟨u.slots,k b u q⟩
 free:=λb u q n _=>by rw[aW (BP (BA (AT q) d))];exact n
 there:=λb u q _=>⟨u,k b u q⟩
 tups:=λb xs q=>by rw[aW (bQ q c)];exact q
 frzs:=λb u xs q=>by rw[aW (bQ q c)];exact q
 tbls:=λb ps q=>by rw[aW (bQ q c)];exact q
theorem Un.write(c:Mut (H x))(j:e=x\/H e=some (.own x))(k:∀ b u,b≠e->h.get? b=some u->h'.get? b=some u)(f:∃ u,h'.get? e=some u):Un fs ex H (upd H x o) h h':=by
 have g:∀ b,H b=none->b≠x:=λb n z=>by subst z;rw[n]at c;exact c
 have i:∀ b,H b=none->b≠e:=λb n z=>by
  subst z
  rcases j with r|r
  · exact g b n r
  · rw [n]at r; cases r
 have d:∀ b u,H b=some u->¬ Mut (some u)->b≠x:=λb u q nm z=>by subst z;rw[q]at c;exact nm c
 refine⟨λb u q n _ _=>k b u (i b n) q,λb u q n _ _=>⟨u.slots,k b u (i b n) q⟩,λb u q n _=>by rw[aW (g b n)];exact n,λb u q _=>?_,
  λb xs q=>by rw[aW (d b _ q λz=>z)];exact q,λb u xs q=>by rw[aW (d b _ q λz=>z)];exact q,λb ps q=>by rw[aW (d b _ q λz=>z)];exact q⟩
 by_cases a:b=e
 .subst a;exact f
 .exact ⟨u,k b u a q⟩
end
noncomputable def trk(h:H9)(H:Hp):List Az:=(List.range h.objs.size).filter λa=>(H a).isSome
def pW(h:H9)(H:Hp):H9:=PySem.W.hideAll h (trk h H)
theorem aJL(h:H9)(H:Hp):(pW h H).objs.size=h.objs.size:=PySem.W.hideAll_size _ _
theorem aL8{h:H9}{H:Hp}{b:Az}{o:Obj}(e:h.get? b=some o)(n:H b=none):(pW h H).get? b=some o:=
 PySem.W.hideAll_get _ e λa=>by
  have q:(H b).isSome=true:=(List.mem_filter.mp a).2
  rw[n]at q;simp at q
theorem aO9{h:H9}{H:Hp}{b:Az}{o:Obj}(e:(pW h H).get? b=some o):h.get? b=some o/\H b=none:=by
 have a:h.get? b=some o:=PySem.W.of_hideAll (trk h H) e
 refine⟨a,?_⟩
 cases q:H b with
 | none=>rfl
 | some x=>
  have c:b∈trk h H:=List.mem_filter.mpr ⟨A7.mpr (AT a),by simp[q]⟩
  have z:(pW h H).get? b=none:=PySem.W.hideAll_none (trk h H) c
  rw[z]at e;cases e
structure Mod(K:Frag)(mg:Str->Option V9)(base:Heap):Prop where
 kin:K.In base
 glob:base.Ns mainGlobals mg
 blt:∃ mb,base.Ns builtinsNs mb/\∀ x:Str,x≠"__name__"->mb x=bootBuiltins x
 nolimit:base.NoLimit
structure Cx where
 prog:Program
 w:World
 K:Frag
 mg:Str->Option V9
 base:Heap
 A:Around
 N:List Str
 s₀:S9
 H₀:Hp
 env:Env
 outer:List Env
 stack:List Env
 ex:List Az
 fn:Str->Bool
 calm:Bool
 pn:List (Az×Obj)
 xe:V9->S9->Prop
noncomputable def frs(l:List Env):List Az:=l.filterMap (·.frame)
abbrev Cx.fs(X:Cx):List Az:=frs X.outer
def Vis(sc:Scope)(x:Str):Prop:=sc.names.lookup x=some .local\/sc.names.lookup x=some .cell\/sc.names.lookup x=some .free
def Loc(sc:Scope)(x:Str):Prop:=sc.names.lookup x=some .local\/sc.names.lookup x=some .cell
def aV1(env:Env)(h:H9)(m:Str->O9 V9)(x:Str)(u:V9):Prop:=
 (env.kindOf x=some .local/\m x=some u)\/((env.kindOf x=some .cell\/env.kindOf x=some .free)/\∃ c,env.cells.lookup x=some c/\h.IsCell c (some u))
structure Cx.Ok(X:Cx):Prop where
 mod:Mod X.K X.mg X.base
 kind:X.env.scope.kind=.function
 glob:X.env.globals=mainGlobals
 blt:X.env.builtins=builtinsNs
 above:X.s₀.heap.objs.size<=X.env.locals
 inj:∀ x y c,X.env.cells.lookup x=some c->X.env.cells.lookup y=some c->x=y
 has:∀ x,(X.env.kindOf x=some .cell\/X.env.kindOf x=some .free)->∃ c,X.env.cells.lookup x=some c
 cab:∀ x c,X.fn x=true->X.env.cells.lookup x=some c->X.s₀.heap.objs.size<=c
 hd:X.calm=true->X.A.handled=none
 frames:X.A.frames=some X.stack
 stk:X.stack=X.outer\/(X.stack=X.env::X.outer/\X.env.frame=some X.env.locals)
 exf:∀ b∈X.ex,b≠X.env.locals/\∀ x c,X.env.cells.lookup x=some c->c≠b
 bs:∀ b o,X.base.get? b=some o->X.s₀.heap.get? b=some o/\X.H₀ b=none
 bsz:X.base.objs.size<=X.s₀.heap.objs.size
 noex:∀ b o,X.base.get? b=some o->b∉X.ex
 exfs:∀ b∈X.ex,b∉X.fs
 funs:X.s₀.heap.FunFrames X.base X.outer
 frf:∀ b∈X.fs,X.H₀ b=none
structure Inv(X:Cx)(a5:List (Az×Obj))(σ:List (Option V))(H:Hp)(s:S9):Prop where
 ok:X.Ok
 os:s.os=X.s₀.os
 bare:AllBare s.gens
 base:Un X.fs X.ex X.H₀ H X.s₀.heap s.heap
 loc:∃ m,s.heap.Ns X.env.locals m/\∀ (i:Nat) (x:Str) (v:V),X.N[i]? = some x->σ[i]? = some (some v)->Vis X.env.scope x->∃ u,bO v u/\aV1 X.env s.heap m x u
 cell:∀ x c,X.env.cells.lookup x=some c->∃ v,s.heap.IsCell c v
 free:H X.env.locals=none
 freeC:∀ x c,X.env.cells.lookup x=some c->H c=none
 pin:∀ p∈X.pn++a5,s.heap.get? p.1=some p.2/\H p.1=none/\p.1≠X.env.locals/\p.1∉X.fs/\∀ v,p.2.data≠.cell v
 hok:HOk X.prog X.w H s.heap
 len:σ.length=X.N.length
section
variable{X:Cx}{a5:List (Az×Obj)}{σ:List (O9 V)}{H H':Hp}{s:S9}{h':H9}
theorem Cx.Ok.nofr(ok:X.Ok){b:Az}{o:Obj}(e:X.base.get? b=some o):b∉X.fs:=λa=>by
 have:=(ok.funs.mem a).1
 rw[e]at this;cases this
theorem Inv.bs(I:Inv X a5 σ H s):∀ b o,X.base.get? b=some o->s.heap.get? b=some o/\H b=none:=λb o e=>
 ⟨I.base.keep b o (I.ok.bs b o e).1 (I.ok.bs b o e).2 (I.ok.nofr e) (I.ok.noex b o e),I.base.free b o (I.ok.bs b o e).1 (I.ok.bs b o e).2 (I.ok.noex b o e)⟩
theorem Inv.bk(I:Inv X a5 σ H s):∀ b o,X.base.get? b=some o->s.heap.get? b=some o:=λb o e=>(I.bs b o e).1
theorem Inv.mod(I:Inv X a5 σ H s):Mod X.K X.mg X.base:=I.ok.mod
theorem Inv.kIn(I:Inv X a5 σ H s):X.K.In s.heap:=I.ok.mod.kin.keeps I.bk
theorem Inv.lt(I:Inv X a5 σ H s):X.env.locals < s.heap.objs.size:=let ⟨_,hn,_⟩:=I.loc;hn.lt
theorem Inv.sz(I:Inv X a5 σ H s):X.s₀.heap.objs.size<=s.heap.objs.size:=BR I.ok.above (DK I.lt)
theorem Inv.nofs(I:Inv X a5 σ H s){a:Az}(h:s.heap.objs.size<=a):a∉X.fs:=λc=>by
 obtain⟨_,o,b,_⟩:=I.ok.funs.mem c
 exact absurd (BA (AT b) (BR I.sz h)) (CI _)
theorem Inv.cne(I:Inv X a5 σ H s):∀ x c,X.env.cells.lookup x=some c->c≠X.env.locals:=λx c e z=>by
 obtain⟨v,o,d,f⟩:=I.cell x c e
 obtain⟨m,⟨o',es,g,a,b,_⟩,_⟩:=I.loc
 rw[z,a]at d;cases d;rw[b]at f;cases f
theorem Inv.funs(I:Inv X a5 σ H s):s.heap.FunFrames X.base X.outer:=by
 have all:∀ (l:List Env),(∀ b∈frs l,b∈X.fs)->X.s₀.heap.FunFrames X.base l->s.heap.FunFrames X.base l:=by
  intro l
  induction l with
  | nil=>intro _ _;trivial
  | cons env r ih=>
   intro f i
   obtain⟨m,⟨L,o,d,h,k,g⟩,j⟩:=i
   have a:L∈X.fs:=f L (by unfold frs;rw[D8,d];exact AV)
   obtain⟨sl,e⟩:=I.base.slot L o k (I.ok.frf L a) a λz=>I.ok.exfs L z a
   exact⟨m,⟨L,_,d,h,e,g⟩,ih (λb c=>f b (by unfold frs;rw[D8,d];exact AL _ c)) j⟩
 exact all X.outer (λ_ c=>c) I.ok.funs
theorem Inv.stack(I:Inv X a5 σ H s):s.heap.FunFrames X.base X.stack:=by
 rcases I.ok.stk with e|⟨e,b⟩
 .rw[e];exact I.funs
 .rw[e]
  obtain⟨m,a,_⟩:=I.loc
  refine .cons (by rw[I.ok.kind];decide) b a ?_ I.funs
  exact Heap.get?_none_of_le (BR I.ok.bsz I.ok.above)
theorem Inv.stkSub(I:Inv X a5 σ H s):∀ b∈frs X.stack,b∈X.env.locals::X.fs:=λb a=>by
 rcases I.ok.stk with e|⟨e,c⟩
 .rw[e]at a;exact AL _ a
 .rw[e]at a
  unfold frs at a
  rw[D8,c]at a
  exact a
theorem Inv.stkFree(I:Inv X a5 σ H s):∀ b∈frs X.stack,H b=none:=λb a=>by
 rcases A6.mp (I.stkSub b a)with e|a
 .rw[e];exact I.free
 .obtain ⟨_,o,c,_⟩:=I.ok.funs.mem a
  exact I.base.free b o c (I.ok.frf b a) λz=>I.ok.exfs b z a
theorem Inv.step{g':Array GenState}{t':Nat}{d':Drawn}{ch:List Az}(I:Inv X a5 σ H s)
  (h:∀ b∈ch,(b∈X.ex\/X.s₀.heap.objs.size<=b)/\b≠X.env.locals/\(∀ x c,X.env.cells.lookup x=some c->c≠b)/\∀ p∈X.pn++a5,p.1≠b)
  (keep:∀ b o,b≠X.env.locals->b∉X.fs->b∉ch->s.heap.get? b=some o->H b=none->h'.get? b=some o)
  (slot:∀ b o,b≠X.env.locals->b∈X.fs->b∉ch->s.heap.get? b=some o->H b=none->∃ sl,h'.get? b=some {o with slots:=sl}) (free:∀ b o,b∉ch->s.heap.get? b=some o->H b=none->H' b=none)
  (there:∀ b o,b∉ch->s.heap.get? b=some o->∃ o',h'.get? b=some o')
  (tups:∀ b xs,H b=some (.tup xs)->H' b=some (.tup xs)) (frzs:∀ b o u,H b=some (.frz o u)->H' b=some (.frz o u)) (tbls:∀ b ps,H b=some (.tbl ps)->H' b=some (.tbl ps))
  (ns:∀ m,s.heap.Ns X.env.locals m->h'.Ns X.env.locals m) (hok:HOk X.prog X.w H' h') (hg:AllBare g') :
  Inv X a5 σ H' {s with heap:=h',gens:=g',drawn:=d',toks:=t'}:=by
 have A:∀ b o,X.s₀.heap.get? b=some o->b≠X.env.locals:=λb o e=>BP (BA (AT e) I.ok.above)
 have j:∀ b o,X.s₀.heap.get? b=some o->b∉X.ex->b∉ch:=λb o e a t=>by
  rcases(h b t).1 with z|z
  .exact a z
  .exact absurd (BA (AT e) z) (CI _)
 have f:∀ x c,X.env.cells.lookup x=some c->∀ v,s.heap.IsCell c v->h'.IsCell c v:=λx c e v B=>by
  obtain⟨o,y,D⟩:=B
  have g:c∉ch:=λz=>(h c z).2.2.1 x c e rfl
  by_cases F:c∈X.fs
  .obtain ⟨sl,q⟩:=slot c o (I.cne x c e) F g y (I.freeC x c e)
   exact⟨_,q,D⟩
  .exact ⟨o,keep c o (I.cne x c e) F g y (I.freeC x c e),D⟩
 refine⟨I.ok,I.os,hg,⟨λb o e n t a=>?_,λb o e n t a=>?_,λb o e n a=>?_,λb o e a=>?_,λb xs e=>tups b xs (I.base.tups b xs e),λb o xs e=>frzs b o xs (I.base.frzs b o xs e),λb ps e=>?_⟩,?_,λx c e=>?_,?_,λx c e=>?_,λp J=>?_,hok,I.len⟩
 .exact keep b o (A b o e) t (j b o e a) (I.base.keep b o e n t a) (I.base.free b o e n a)
 .obtain ⟨sl,e1⟩:=I.base.slot b o e n t a
  obtain⟨C,e2⟩:=slot b _ (A b o e) t (j b o e a) e1 (I.base.free b o e n a)
  exact⟨C,e2⟩
 .obtain ⟨o',e1⟩:=I.base.there b o e a
  exact free b o' (j b o e a) e1 (I.base.free b o e n a)
 .obtain ⟨o',e1⟩:=I.base.there b o e a
  exact there b o' (j b o e a) e1
 .exact tbls b ps (I.base.tbls b ps e)
 .obtain ⟨m,K,M⟩:=I.loc
  refine⟨m,ns m K,λi x v e1 e2 L=>?_⟩
  obtain⟨u,r,l⟩:=M i x v e1 e2 L
  refine⟨u,r,?_⟩
  rcases l with l|⟨k,c,e,z⟩
  .exact .inl l
  .exact .inr ⟨k,c,e,f x c e _ z⟩
 .obtain ⟨v,z⟩:=I.cell x c e
  exact⟨v,f x c e v z⟩
 .obtain ⟨m,⟨o,_,_,y,_⟩,_⟩:=I.loc
  exact free _ o (λz=>(h _ z).2.1 rfl) y I.free
 .obtain ⟨v,o,y,D⟩:=I.cell x c e
  exact free c o (λz=>(h c z).2.2.1 x c e rfl) y (I.freeC x c e)
 .obtain ⟨e,n,G,E,d⟩:=I.pin p J
  have g:p.1∉ch:=λz=>(h p.1 z).2.2.2 p J rfl
  exact⟨keep p.1 p.2 G E g e n,free p.1 p.2 g e n,G,E,d⟩
theorem Inv.un{t':Nat}(I:Inv X a5 σ H s)(u:Un X.fs [] H H' s.heap h')(hok:HOk X.prog X.w H' h'):Inv X a5 σ H' {s with heap:=h',toks:=t'}:=by
 obtain⟨m,⟨o,es,k,g,r⟩,_⟩:=id I.loc
 obtain⟨sl,i⟩:=u.any g I.free (by simp)
 exact I.step (g':=s.gens) (d':=s.drawn) (ch:=[]) (λ_ z=>nomatch z) (λb o _ c _ e n=>u.keep b o e n c (by simp)) (λb o _ c _ e n=>u.slot b o e n c (by simp)) (λb o _ e n=>u.free b o e n (by simp)) (λb o _ e=>u.there b o e (by simp)) u.tups u.frzs u.tbls (λl h=>by
  obtain⟨o',f,d,a,j⟩:=h
  rw[g]at a;cases a
  exact⟨_,f,d,i,j⟩) hok I.bare
theorem Inv.call{g':Array GenState}{t':Nat}{d':Drawn}{ch:List Az}(I:Inv X a5 σ H s)(u:Un (frs X.stack) ch H H' s.heap h')(hok:HOk X.prog X.w H' h')(k:AllBare g')
  (f:∀ b∈ch,(b∈X.ex\/X.s₀.heap.objs.size<=b)/\b≠X.env.locals/\(∀ x c,X.env.cells.lookup x=some c->c≠b)/\∀ p∈X.pn++a5,p.1≠b) :
  Inv X a5 σ H' {s with heap:=h',gens:=g',drawn:=d',toks:=t'}:=by
 obtain⟨m,⟨o,es,v,j,r⟩,_⟩:=id I.loc
 obtain⟨sl,g⟩:=u.any j I.free λz=>(f _ z).2.1 rfl
 exact I.step (ch:=ch) f (λb o g t a e n=>u.keep b o e n (λz=>(A6.mp (I.stkSub b z)).elim g t) a) (λb o _ _ a e n=>u.any e n a) (λb o a e n=>u.free b o e n a) (λb o a e=>u.there b o e a) u.tups u.frzs u.tbls (λy l=>by
  obtain⟨o',i,h,d,q⟩:=l
  rw[j]at d;cases d
  exact⟨_,i,h,g,q⟩) hok k
theorem Inv.turned{t':Nat}{it:Az}(I:Inv X a5 σ H s)(k:∀ b o,b≠it->s.heap.get? b=some o->h'.get? b=some o)(g:H it=none)(f:it≠X.env.locals)
  (h1:it∈X.ex\/X.s₀.heap.objs.size<=it) (h2:∀ x c,X.env.cells.lookup x=some c->c≠it) (l:∀ p∈X.pn++a5,p.1≠it):Inv X a5 σ H {s with heap:=h',toks:=t'}:=by
 have d:∀ b u,H b=some u->b≠it:=λb u e z=>by rw[z,g]at e;cases e
 refine I.step (g':=s.gens) (d':=s.drawn) (ch:=[it]) (λb t=>?_) (λb o _ _ a e _=>k b o (λz=>a (by simp[z])) e) (λb o _ _ a e _=>⟨o.slots,k b o (λz=>a (by simp[z])) e⟩) (λ_ _ _ _ n=>n)
  (λb o a e=>⟨o,k b o (λz=>a (by simp[z])) e⟩) (λ_ _ e=>e) (λ_ _ _ e=>e) (λ_ _ e=>e) (λm j=>?_) (λb u e=>?_) I.bare
 .have e:b=it:=by simpa using t
  subst e
  exact⟨h1,f,h2,l⟩
 .obtain ⟨o,es,i,h,r⟩:=j
  exact⟨o,es,i,k _ o (BS f) h,r⟩
 .refine (I.hok b u e).stay (λc v a q=>k c v ?_ q) (λ_ q=>q) (λ_ _ q=>q) λ_ _ q=>q
  rcases a with z|z
  · rw [z]; exact d b u e
  · exact d c _ z
theorem Inv.tok(I:Inv X a5 σ H s)(t:Nat):Inv X a5 σ H {s with toks:=t}:=I.un (h':=s.heap) (t':=t) Un.refl I.hok
theorem Inv.kept{t':Nat}(I:Inv X a5 σ H s)(k:∀ b u,s.heap.get? b=some u->h'.get? b=some u):Inv X a5 σ H {s with heap:=h',toks:=t'}:=I.un (Un.kept k) (I.hok.kept k)
theorem Inv.laid{a:Az}{o:HO}{t':Nat}(I:Inv X a5 σ H s)(k:∀ b u,s.heap.get? b=some u->h'.get? b=some u)(c:s.heap.objs.size<=a)(new:cR X.prog X.w (upd H a o) h' a o) :
 Inv X a5 σ (upd H a o) {s with heap:=h',toks:=t'}:=I.un (Un.laid k c (I.hok.fresh c)) (I.hok.laid k c new)
theorem Inv.write{x e:Az}{o:HO}{t':Nat}(I:Inv X a5 σ H s)(d:Mut (H x))(c:e=x\/H e=some (.own x))(k:∀ b u,b≠e->s.heap.get? b=some u->h'.get? b=some u)(a:∃ u,h'.get? e=some u)
 (new:cR X.prog X.w (upd H x o) h' x o):Inv X a5 σ (upd H x o) {s with heap:=h',toks:=t'}:=I.un (Un.write d c k a) (I.hok.write d c k a new)
theorem Inv.pins_of{pins':List (Az×Obj)}(I:Inv X a5 σ H s)(h:∀ p∈pins',s.heap.get? p.1=some p.2/\H p.1=none/\p.1≠X.env.locals/\p.1∉X.fs/\∀ v,p.2.data≠.cell v):Inv X pins' σ H s:=
 ⟨I.ok,I.os,I.bare,I.base,I.loc,I.cell,I.free,I.freeC,λp a=>(BX.mp a).elim (λz=>I.pin p (B9 _ z)) (h p),I.hok,I.len⟩
theorem wP{N:List Str}(c:N.Nodup){i j:Nat}{x:Str}(a:N[i]? = some x)(b:N[j]? = some x):i=j:=by
 obtain⟨h1,e1⟩:=AU.mp a
 obtain⟨h2,e2⟩:=AU.mp b
 exact(List.getElem_inj c).mp (e1.trans e2.symm)
theorem aBR{M:Model}{A:U9}{E:V9->S9->Prop}{i:Nat}{x:Str}{v:V}{u:V9}{Q:Unit->S9->Prop}(I:Inv X a5 σ H s)(hN:X.N.Nodup)(hi:X.N[i]? = some x)(hx:Loc X.env.scope x)(r:bO v u)
  (h:∀ s',Inv X a5 (σ.set i (some v)) H s'->(∃ a,Heap.SameBut a s.heap s'.heap/\(a=X.env.locals\/X.env.cells.lookup x=some a))->Q () s') (hf:X.fn x=true\/X.env.scope.names.lookup x=some .local):wpAny M A (storeName X.env x u) Q E s:=by
 obtain⟨m,hn,hl⟩:=id I.loc
 have L:(X.env.scope.kind == .class || (X.env.scope.kind == .module && X.env.locals != X.env.globals))=false:=by rw[I.ok.kind];rfl
 have B:i < σ.length:=by rw[I.len];exact(AU.mp hi).1
 have cne:=I.cne
 have g:∀ {a:Az} {h':H9},(∃ o,s.heap.get? a=some o/\H a=none)->Heap.SameBut a s.heap h'->HOk X.prog X.w H h':=λ{a h'} ha f b ob e=>by
  obtain⟨_,_,t⟩:=ha
  refine(I.hok b ob e).stay (λc S l q=>(f.2 c ?_).trans q) (λ_ q=>q) (λ_ _ q=>q) λ_ _ q=>q
  rintro rfl
  rcases l with rfl|l
  .rw[t]at e;cases e
  .rw[t]at l;cases l
 rcases hx with C|C
 .refine wpAny_storeName_local C hn (λh' Y f=>?_) L
  obtain⟨oL,_,_,aa,_⟩:=id hn
  refine h _ ⟨I.ok,I.os,I.bare,⟨λb o e n F hx=>?_,λb o e n F hx=>?_,I.base.free,λb o e hx=>?_,I.base.tups,I.base.frzs,I.base.tbls⟩,⟨_,Y,λj y Z e1 e2 e3=>?_⟩,λy c e=>?_,I.free,I.freeC,λp hp=>?_,g ⟨oL,aa,I.free⟩ f,by simpa using I.len⟩ ⟨_,f,.inl rfl⟩
  .exact (f.2 b (BP (BA (AT e) I.ok.above))).trans (I.base.keep b o e n F hx)
  .obtain ⟨sl,e1⟩:=I.base.slot b o e n F hx
   exact⟨sl,(f.2 b (BP (BA (AT e) I.ok.above))).trans e1⟩
  .obtain ⟨o',e1⟩:=I.base.there b o e hx
   exact⟨o',(f.2 b (BP (BA (AT e) I.ok.above))).trans e1⟩
  .by_cases D:j=i
   .subst D
    rw[hi]at e1;cases e1
    rw[CZ B]at e2
    cases e2
    exact⟨u,r,.inl ⟨C,by simp⟩⟩
   .rw[BT (BS D)]at e2
    obtain⟨W,r',q⟩:=hl j y Z e1 e2 e3
    refine⟨W,r',?_⟩
    rcases q with ⟨k,e⟩|⟨k,c,e,z⟩
    .refine .inl ⟨k,?_⟩
     have:y≠x:=λe=>D (wP hN e1 (e▸hi))
     simp[this,e]
    .exact .inr ⟨k,c,e,z.sameBut f (cne y c e)⟩
  .obtain ⟨S,z⟩:=I.cell y c e
   exact⟨S,z.sameBut f (cne y c e)⟩
  .obtain ⟨e,n,R,U,d⟩:=I.pin p hp
   exact⟨(f.2 p.1 R).trans e,n,R,U,d⟩
 .have G:X.fn x=true:=by
   rcases hf with z|z
   .exact z
   .rw[z]at C;cases C
  obtain⟨c,l⟩:=I.ok.has x (.inl C)
  obtain⟨S,z⟩:=I.cell x c l
  refine wpAny_storeName_cell I.ok.kind C l z (λh' O f=>?_)
  obtain⟨oc,P,K⟩:=id z
  refine h {s with heap:=h'} ⟨I.ok,I.os,I.bare,⟨λb o e n F hx=>?_,λb o e n F hx=>?_,I.base.free,λb o e hx=>?_,I.base.tups,I.base.frzs,I.base.tbls⟩,⟨m,hn.sameBut f (BS (cne x c l)),λj y Z e1 e2 e3=>?_⟩,λy T e=>?_,I.free,I.freeC,λp hp=>?_,g ⟨oc,P,I.freeC x c l⟩ f,by simpa using I.len⟩ ⟨c,f,.inr l⟩
  .exact (f.2 b (BP (BA (AT e) (I.ok.cab x c G l)))).trans (I.base.keep b o e n F hx)
  .obtain ⟨sl,e1⟩:=I.base.slot b o e n F hx
   exact⟨sl,(f.2 b (BP (BA (AT e) (I.ok.cab x c G l)))).trans e1⟩
  .obtain ⟨o',e1⟩:=I.base.there b o e hx
   exact⟨o',(f.2 b (BP (BA (AT e) (I.ok.cab x c G l)))).trans e1⟩
  .by_cases D:j=i
   .subst D
    rw[hi]at e1;cases e1
    rw[CZ B]at e2
    cases e2
    exact⟨u,r,.inr ⟨.inl C,c,l,O⟩⟩
   .rw[BT (BS D)]at e2
    obtain⟨W,r',q⟩:=hl j y Z e1 e2 e3
    refine⟨W,r',?_⟩
    rcases q with q|⟨k,T,e,z'⟩
    .exact .inl q
    .refine .inr ⟨k,T,e,z'.sameBut f ?_⟩
     rintro rfl
     exact D (wP hN e1 (I.ok.inj _ _ _ e l▸hi))
  .by_cases J:T=c
   .subst J;exact⟨_,O⟩
   .obtain ⟨w2,z2⟩:=I.cell y T e
    exact⟨w2,z2.sameBut f J⟩
  .obtain ⟨e,n,R,U,d⟩:=I.pin p hp
   refine⟨(f.2 p.1 ?_).trans e,n,R,U,d⟩
   intro q
   rw[q,P]at e
   have q':oc=p.2:=B5 e
   exact d S (by rw[<-q'];exact K)
theorem rJ{M:Model}{A:U9}{E:V9->S9->Prop}{i:Nat}{x:Str}{v:V}{u:V9}{Q:Unit->S9->Prop}(I:Inv X a5 σ H s)(c:X.N.Nodup)(hi:X.N[i]? = some x)(hx:Loc X.env.scope x)(r:bO v u)
  (h:∀ s',Inv X a5 (σ.set i (some v)) H s'->Q () s') (b:X.fn x=true\/X.env.scope.names.lookup x=some .local):wpAny M A (storeName X.env x u) Q E s:=
 aBR I c hi hx r (λs' a _=>h s' a) b
theorem Inv.call'{s':S9}{ch:List Az}(I:Inv X a5 σ H s)(d:s'.os=s.os)(u:Un (frs X.stack) ch H H' s.heap s'.heap)(hok:HOk X.prog X.w H' s'.heap)(f:AllBare s'.gens)
  (a:∀ b∈ch,(b∈X.ex\/X.s₀.heap.objs.size<=b)/\b≠X.env.locals/\(∀ x c,X.env.cells.lookup x=some c->c≠b)/\∀ p∈X.pn++a5,p.1≠b):Inv X a5 σ H' s':=by
 obtain⟨h',g',d',t',o'⟩:=s'
 have e:o'=s.os:=d
 subst e
 exact I.call (g':=g') (t':=t') (d':=d') u hok f a
end
abbrev XK:=V9->O9 Az->Hp->Prop
abbrev St:=List (O9 V)
abbrev VK:=V->Hp->Prop
abbrev TE:=St->Hp->VK->Prop
abbrev TT:=St->Hp->(Bool->Hp->Prop)->Prop
abbrev TA:=St->Hp->(List V->Hp->Prop)->Prop
structure lG where
 nx:St->Hp->Prop
 rt:VK
 bk:St->Hp->Prop:=λ_ _=>False
 ct:St->Hp->Prop:=λ_ _=>False
abbrev TS:=lG->St->Hp->Prop
def EP(X:Cx)(a5:List (Az×Obj))(σ:St)(Q:VK)(u:V9)(s':S9):Prop:=∃ v H',Inv X a5 σ H' s'/\bO v u/\Q v H'
def TP(X:Cx)(a5:List (Az×Obj))(σ:St)(Q:Bool->Hp->Prop)(b:Bool)(s':S9):Prop:=∃ H',Inv X a5 σ H' s'/\Q b H'
def AP(X:Cx)(a5:List (Az×Obj))(σ:St)(Q:List V->Hp->Prop)(us:List V9)(s':S9):Prop:=∃ vs H',Inv X a5 σ H' s'/\cI vs us/\Q vs H'
def SP(X:Cx)(a5:List (Az×Obj))(D:lG)(f:Flow)(s':S9):Prop:=
 match f with
 | .next=>∃ σ' H',Inv X a5 σ' H' s'/\D.nx σ' H'
 | .brk=>∃ σ' H',Inv X a5 σ' H' s'/\D.bk σ' H'
 | .cont=>∃ σ' H',Inv X a5 σ' H' s'/\D.ct σ' H'
 | .ret u=>∃ v σ' H',Inv X a5 σ' H' s'/\bO v u/\D.rt v H'
def PE(X:Cx)(e:E1)(t:TE):Prop:=
 ∀ (a5:List (Az×Obj)) (s:S9) (σ:St) (H:Hp) (Q:VK),Inv X a5 σ H s->t σ H Q->wpAny (model X.prog X.w) X.A (eval e X.env) (EP X a5 σ Q) X.xe s
def PT(X:Cx)(e:E1)(t:TT):Prop:=
 ∀ (a5:List (Az×Obj)) (s:S9) (σ:St) (H:Hp) (Q:Bool->Hp->Prop),Inv X a5 σ H s->t σ H Q->wpAny (model X.prog X.w) X.A (isTrue e X.env (eval e X.env)) (TP X a5 σ Q) X.xe s
def PW(X:Cx)(e:E1)(t:TT):Prop:=
 ∀ (whole:Sem V9) (a5:List (Az×Obj)) (s:S9) (σ:St) (H:Hp) (Q:Bool->Hp->Prop),Inv X a5 σ H s->t σ H Q->wpAny (model X.prog X.w) X.A (isTrue e X.env whole) (TP X a5 σ Q) X.xe s
theorem PW.pt{X:Cx}{e:E1}{t:TT}(h:PW X e t):PT X e t:=h _
def PA(X:Cx)(es:List E1)(t:TA):Prop:=
 ∀ (pos:Pos) (a5:List (Az×Obj)) (s:S9) (σ:St) (H:Hp) (Q:List V->Hp->Prop),Inv X a5 σ H s->t σ H Q->wpAny (model X.prog X.w) X.A (spliced (backTo pos (starEach es X.env))) (AP X a5 σ Q) X.xe s
def PS(X:Cx)(st:Stmt)(t:TS):Prop:=
 ∀ (a5:List (Az×Obj)) (s:S9) (σ:St) (H:Hp) (D:lG),Inv X a5 σ H s->t D σ H->wpAny (model X.prog X.w) X.A (exec st X.env) (SP X a5 D) X.xe s
def PSs(X:Cx)(st:List Stmt)(t:TS):Prop:=
 ∀ (a5:List (Az×Obj)) (s:S9) (σ:St) (H:Hp) (D:lG),Inv X a5 σ H s->t D σ H->wpAny (model X.prog X.w) X.A (execs st X.env) (SP X a5 D) X.xe s
theorem thn{α:Type}{t:Sem α}{Q b:α->S9->Prop}{M:Model}{A:U9}{E:V9->S9->Prop}{s:S9}(h:wpAny M A t Q E s)(c:∀ a s,Q a s->b a s):wpAny M A t b E s:=BO h c λ_ _ x=>x
section
variable{X:Cx}
def kK(i:Nat):TE:=λσ H Q=>∃ v,σ[i]? = some (some v)/\Q v H
def tC(v:V):TE:=λ_ H Q=>Q v H
theorem aR0{i:Nat}{x:Str}{pos:Pos}(p:X.N[i]? = some x)(n:Vis X.env.scope x)(f:(x == ("__debug__":Str))=false:=by decide)(hcd:(x == ("__classdict__":Str))=false:=by decide):PE X (.Name x pos) (kK i):=by
 intro a5 s σ H Q I h
 obtain⟨v,e,h⟩:=h
 obtain⟨m,j,k⟩:=I.loc
 obtain⟨u,r,l⟩:=k i x v p e n
 have d:EP X a5 σ Q u s:=⟨v,H,I,r,h⟩
 rcases l with ⟨b,o⟩|⟨b,c,g,a⟩
 .exact wpAny_Name (wpAny_loadName_local I.ok.kind b j o d) f
 .rcases b with b|b
  · exact wpAny_Name (wpAny_loadName_cell I.ok.kind b g a d) f
  · exact wpAny_Name (wpAny_loadName_free I.ok.kind b g a d hcd) f
theorem aR1{i j pos}:PE X (.Constant (.int i) j pos) (tC (.int i)):=λ_ _ _ H _ I h=>wpAny_Constant_int ⟨.int i,H,I.tok _,⟨_,rfl⟩,h⟩
theorem aU3{b j pos}:PE X (.Constant (.bool b) j pos) (tC (.bl b)):=λ_ _ _ H _ I h=>Constant_bool ⟨.bl b,H,I,rfl,h⟩
theorem aC4{x j pos}:PE X (.Constant (.str x) j pos) (tC (.str x)):=λ_ _ _ H _ I h=>Calls.Constant_str ⟨.str x,H,I.tok _,⟨_,rfl⟩,h⟩
def Gl(X:Cx)(x:Str):Prop:=X.env.kindOf x=some .globalImplicit
theorem nX{E:V9->S9->Prop}{a5:List (Az×Obj)}{s:S9}{σ:St}{H:Hp}{x:Str}{u:V9}{pos:Pos}{Q:V9->S9->Prop}(I:Inv X a5 σ H s)(b:Gl X x)(a:X.mg x=some u)(h:Q u s)
  (c:(x == ("__debug__":Str))=false:=by decide):wpAny (model X.prog X.w) X.A (eval (.Name x pos) X.env) Q E s:=
 FP I.ok.kind b (Calls.loadGlobal_global (by rw[I.ok.glob];exact I.mod.glob.keeps I.bk) a h) c
theorem p8{E:V9->S9->Prop}{a5:List (Az×Obj)}{s:S9}{σ:St}{H:Hp}{x:Str}{u:V9}{pos:Pos}{Q:V9->S9->Prop}(I:Inv X a5 σ H s)(c:Gl X x)(b:X.mg x=none)(d:bootBuiltins x=some u)(h:Q u s)
  (a:x≠"__name__":=by decide) (hd:(x == ("__debug__":Str))=false:=by decide):wpAny (model X.prog X.w) X.A (eval (.Name x pos) X.env) Q E s:=by
 obtain⟨e,h1,h2⟩:=I.mod.blt
 exact FP I.ok.kind c (Calls.loadGlobal_builtin (by rw[I.ok.glob];exact I.mod.glob.keeps I.bk) b (by rw[I.ok.blt];exact h1.keeps I.bk) ((h2 x a).trans d) h) hd
theorem fA{x:Str}{v:V}{u:V9}{pos:Pos}(b:Gl X x)(a:X.mg x=some u)(r:bO v u)(c:(x == ("__debug__":Str))=false:=by decide):PE X (.Name x pos) (tC v):=
 λ_ _ _ H _ I h=>nX I b a ⟨v,H,I,r,h⟩ c
theorem uV{x:Str}{v:V}{u:V9}{pos:Pos}(c:Gl X x)(a:X.mg x=none)(d:bootBuiltins x=some u)(r:bO v u)(b:x≠"__name__":=by decide)(hd:(x == ("__debug__":Str))=false:=by decide):PE X (.Name x pos) (tC v):=
 λ_ _ _ H _ I h=>p8 I c a d ⟨v,H,I,r,h⟩ b hd
variable{a b:E1}{ta tb:TE}{pos:Pos}
def PC(X:Cx)(op:CmpOp)(a b:E1)(t:TE):Prop:=
 ∀ (a5:List (Az×Obj)) (s:S9) (σ:St) (H:Hp) (Q:VK),Inv X a5 σ H s->t σ H Q->
  wpAny (model X.prog X.w) X.A (eval a X.env) (λv s₁=>wpAny (model X.prog X.w) X.A (eval b X.env) (λu s₂=>wpAny (model X.prog X.w) X.A (compareOp op v u) (EP X a5 σ Q) X.xe s₂) X.xe s₁) X.xe s
theorem aL9(b:E1){a:CmpOp}(h:a≠.In)(h2:a≠.NotIn):behindInMarks a b=false:=by
 have e1:(a == CmpOp.In)=false:=by cases a<;>first|rfl|exact absurd rfl h
 have e2:(a == CmpOp.NotIn)=false:=by cases a<;>first|rfl|exact absurd rfl h2
 cases b<;>simp[behindInMarks,e1,e2]
def tB(t:TE):TT:=λσ H Q=>t σ H λx H1=>∃ c,x=.bl c/\Q c H1
theorem cS{f:CmpOp}{t:TE}(h:PC X f a b t)(h1:behindInMarks f b=false:=by first|exact aL9 _ (by decide) (by decide)|rfl):PT X (.Compare a [f] [b] pos) (tB t):=by
 intro a5 s σ H Q I j
 refine wpAny_isTrue_Compare1 (thn (h a5 s σ H _ I j) λv s1 h1=>thn h1 λu l h2=>thn h2 λc k e=>?_) h1
 obtain⟨x,H1,i,r1,g⟩:=e
 obtain⟨d,rfl,q⟩:=g
 cases r1
 exact EO ⟨H1,i,q⟩
theorem jS{e:E1}{t:TE}(h:PE X e t)(f:∀ whole,isTrue e X.env whole=(do let v <-whole;standAt e.pos;holding [v] (truthy v)):=by intro _;rfl):PT X e (tB t):=by
 intro a5 s σ H Q I g
 refine isTrue_plain (thn (h a5 s σ H _ I g) λv s1 a=>?_) (f _)
 obtain⟨x,H1,c,r1,b⟩:=a
 obtain⟨d,rfl,q⟩:=b
 cases r1
 exact EO ⟨H1,c,q⟩
variable{tA tB':TT}{rest:List E1}
def aR2(t u:TT):TT:=λσ H Q=>t σ H λc H1=>if c=true then u σ H1 Q else Q false H1
def tOr(t u:TT):TT:=λσ H Q=>t σ H λc H1=>if c=true then Q true H1 else u σ H1 Q
def aV2(t:TT):TT:=λσ H Q=>t σ H λc H1=>Q (!c) H1
theorem aAB(b:PT X a tA):PW X (.BoolOp .And [a] pos) tA:=by
 intro d a5 s σ H Q I h
 refine isTrue_and (thn (b a5 s σ H Q I h) λc s1 e=>?_)
 cases c with
 | true=>exact isTrue_and_nil e
 | false=>exact e
theorem p9(b:PT X a tA):PW X (.BoolOp .Or [a] pos) tA:=by
 intro d a5 s σ H Q I h
 refine isTrue_or (thn (b a5 s σ H Q I h) λc s1 e=>?_)
 cases c with
 | false=>exact isTrue_or_nil e
 | true=>exact e
theorem aC5(i:PT X a tA)(j:PW X (.BoolOp .And (b::rest) pos) tB'):PW X (.BoolOp .And (a::b::rest) pos) (aR2 tA tB'):=by
 intro g a5 s σ H Q I h
 refine isTrue_and (thn (i a5 s σ H _ I h) λc s1 d=>?_)
 obtain⟨H1,f,e⟩:=d
 cases c with
 | true=>exact j g a5 s1 σ H1 Q f e
 | false=>exact⟨H1,f,e⟩
theorem o9(i:PT X a tA)(j:PW X (.BoolOp .Or (b::rest) pos) tB'):PW X (.BoolOp .Or (a::b::rest) pos) (tOr tA tB'):=by
 intro g a5 s σ H Q I h
 refine isTrue_or (thn (i a5 s σ H _ I h) λc s1 d=>?_)
 obtain⟨H1,f,e⟩:=d
 cases c with
 | true=>exact⟨H1,f,e⟩
 | false=>exact j g a5 s1 σ H1 Q f e
theorem oI(b:PT X a tA):PT X (.UnaryOp .Not a pos) (aV2 tA):=by
 intro a5 s σ H Q I h
 exact isTrue_not (b a5 s σ H (λc H1=>Q (!c) H1) I h)
def aU4(ta tb:TE):TE:=λσ H Q=>ta σ H λx H1=>∃ c,x=.bl c/\if c=true then tb σ H1 Q else Q (.bl false) H1
theorem aR3{op}{t:TE}(h:PE X a t):PE X (.BoolOp op [a] pos) t:=λa5 s σ H Q I b=>BoolOp_one (h a5 s σ H Q I b)
theorem aR4(g:PE X a ta)(i:PE X (.BoolOp .And (b::rest) pos) tb):PE X (.BoolOp .And (a::b::rest) pos) (aU4 ta tb):=by
 intro a5 s σ H Q I h
 refine BoolOp_and (thn (g a5 s σ H _ I h) λv s1 e=>?_)
 obtain⟨x,H1,f,r1,d⟩:=e
 obtain⟨c,rfl,d⟩:=d
 cases r1
 refine EO ?_
 cases c with
 | true=>exact i a5 s1 σ H1 Q f d
 | false=>exact⟨.bl false,H1,f,rfl,d⟩
def tIf(t:TT)(ta tb:TE):TE:=λσ H Q=>t σ H λc H1=>if c=true then ta σ H1 Q else tb σ H1 Q
theorem aMA{c:E1}(i:PT X c tA)(j:PE X a ta)(k:PE X b tb):PE X (.IfExp c a b pos) (tIf tA ta tb):=by
 intro a5 s σ H Q I h
 refine wpAny_IfExp (thn (i a5 s σ H _ I h) λd s1 e=>?_)
 obtain⟨H1,g,f⟩:=e
 cases d with
 | true=>exact j a5 s1 σ H1 Q g f
 | false=>exact k a5 s1 σ H1 Q g f
end
def SqL(K:Frag)(H:Hp)(a:Az)(xs:List V):Prop:=
 Rd H a (.lst xs) \/
  ∃ (o:Obj) (its:Array V9) (n:Nat),K.lookup a=some o/\o.cls=.type "list"/\o.dict=none/\o.data=.seq its n/\its.size<=sizeLine/\cI xs its.toList
def SqT(K:Frag)(H:Hp)(a:Az)(xs:List V):Prop:=
 Rd H a (.tup xs) \/
  ∃ (o:Obj) (its:Array V9) (n:Nat),K.lookup a=some o/\(o.cls=.type "tuple"/\o.dict=none)/\o.data=.seq its n/\its.size<=sizeLine/\cI xs its.toList
noncomputable def aV3:V9->O9 V
 | .none=>some .non
 | .bool b=>some (.bl b)
 | .int i _=>some (.int i)
 | .str x _=>some (.str x)
 | .bytes b _=>some (.byt b)
 | .float b _=>some (.flt b)
 | .ref a=>some (.ref a)
 | .type n=>some (.ty n)
 | _=>none
theorem bO.abs{x:V}{u:V9}(r:bO x u):aV3 u=some x:=by
 cases x with
 | non=>cases r;rfl
 | bl _=>cases r;rfl
 | int _=>obtain⟨t,rfl⟩:=r;rfl
 | str _=>obtain⟨t,rfl⟩:=r;rfl
 | byt _=>obtain⟨t,rfl⟩:=r;rfl
 | flt _=>obtain⟨t,rfl⟩:=r;rfl
 | ref _=>cases r;rfl
 | ty _=>cases r;rfl
theorem bO.inj{x y:V}{u:V9}(r:bO x u)(q:bO y u):x=y:=B5 (r.abs.symm.trans q.abs)
theorem cI.inj:∀ {xs ys:List V} {us:List V9},cI xs us->cI ys us->xs=ys
 | _,_,_,.nil,.nil=>rfl
 | _,_,_,.cons r t,.cons r' t'=>by rw[r.inj r',cI.inj t t']
section
variable{X:Cx}{a5:List (Az×Obj)}{σ:St}{H:Hp}{s:S9}{a:Az}{xs ys:List V}
theorem SqL.of{K:Frag}(h:H a=some (.lst xs)):SqL K H a xs:=.inl (.inl h)
theorem SqT.of{K:Frag}(h:H a=some (.tup xs)):SqT K H a xs:=.inl (.inl h)
theorem Inv.list(I:Inv X a5 σ H s)(h:SqL X.K H a xs):∃ its:List V9,cI xs its/\PlainL s.heap a its.toArray/\xs.length<=sizeLine:=by
 rcases h with h|⟨o,its,n,d,b,f,c,g,r⟩
 .obtain ⟨z,its,n,r,e⟩:=h.ok I.hok
  exact⟨its,r,⟨_,n,e,rfl,rfl,rfl⟩,z⟩
 .refine ⟨its.toList,r,⟨o,n,I.kIn a o d,b,f,by simpa using c⟩,?_⟩
  have e:=r.length
  simp only[D9]at e
  omega
theorem Inv.tuple(I:Inv X a5 σ H s)(h:SqT X.K H a xs):∃ its:List V9,cI xs its/\IsTup s.heap a its.toArray/\xs.length<=sizeLine:=by
 rcases h with h|⟨o,its,n,b,c,d,f,r⟩
 .obtain ⟨z,its,r,p⟩:=h.ok I.hok
  exact⟨its,r,p.t,z⟩
 .refine ⟨its.toList,r,⟨o,I.kIn a o b,c.1,n,by simpa using d⟩,?_⟩
  have e:=r.length
  simp only[D9]at e
  omega
theorem Inv.list_inj(I:Inv X a5 σ H s)(h:SqL X.K H a xs)(h':SqL X.K H a ys):xs=ys:=by
 obtain⟨c,r,⟨o,n,e,_,_,d⟩,_⟩:=I.list h
 obtain⟨b,i,⟨o',j,f,_,_,g⟩,_⟩:=I.list h'
 rw[e]at f;cases f
 rw[d]at g
 injection g with d1 _
 have:c=b:=by simpa using congrArg Array.toList d1
 subst this
 exact r.inj i
theorem Inv.tuple_inj(I:Inv X a5 σ H s)(h:SqT X.K H a xs)(h':SqT X.K H a ys):xs=ys:=by
 obtain⟨c,r,⟨o,e,_,n,d⟩,_⟩:=I.tuple h
 obtain⟨b,i,⟨o',f,_,j,g⟩,_⟩:=I.tuple h'
 rw[e]at f;cases f
 rw[d]at g
 injection g with d1 _
 have:c=b:=by simpa using congrArg Array.toList d1
 subst this
 exact r.inj i
end
abbrev Cx.wish(X:Cx)(E:V9->S9->Prop):Cx:={X with xe:=E}
abbrev Cx.nox(X:Cx):Cx:=X.wish λ_ _=>False
theorem Cx.Ok.wish{X:Cx}(ok:X.Ok)(E:V9->S9->Prop):(X.wish E).Ok:=
 ⟨ok.mod,ok.kind,ok.glob,ok.blt,ok.above,ok.inj,ok.has,ok.cab,ok.hd,ok.frames,ok.stk,ok.exf,ok.bs,ok.bsz,ok.noex,ok.exfs,ok.funs,ok.frf⟩
theorem Cx.Ok.unwish{X:Cx}{E:V9->S9->Prop}(ok:(X.wish E).Ok):X.Ok:=
 ⟨ok.mod,ok.kind,ok.glob,ok.blt,ok.above,ok.inj,ok.has,ok.cab,ok.hd,ok.frames,ok.stk,ok.exf,ok.bs,ok.bsz,ok.noex,ok.exfs,ok.funs,ok.frf⟩
section
variable{X:Cx}{a5:List (Az×Obj)}{σ:St}{H:Hp}{s:S9}{E:V9->S9->Prop}
theorem Inv.wish(I:Inv X a5 σ H s)(E:V9->S9->Prop):Inv (X.wish E) a5 σ H s:=⟨I.ok.wish E,I.os,I.bare,I.base,I.loc,I.cell,I.free,I.freeC,I.pin,I.hok,I.len⟩
theorem Inv.unwish(I:Inv (X.wish E) a5 σ H s):Inv X a5 σ H s:=⟨I.ok.unwish,I.os,I.bare,I.base,I.loc,I.cell,I.free,I.freeC,I.pin,I.hok,I.len⟩
theorem SP.unwish{D:lG}{f:Flow}{s':S9}(h:SP (X.wish E) a5 D f s'):SP X a5 D f s':=by
 cases f with
 | next=>obtain⟨a,H',I,q⟩:=h;exact⟨a,H',I.unwish,q⟩
 | brk=>obtain⟨a,H',I,q⟩:=h;exact⟨a,H',I.unwish,q⟩
 | cont=>obtain⟨a,H',I,q⟩:=h;exact⟨a,H',I.unwish,q⟩
 | ret u=>obtain⟨v,a,H',I,r,q⟩:=h;exact⟨v,a,H',I.unwish,r,q⟩
theorem PE.nox{e:E1}{t:TE}(h:PE X.nox e t):PE X e t:=λa5 s σ H Q I a=>
 BO (h a5 s σ H Q (I.wish _) a) (λ_ _ ⟨v,H',b,r,q⟩=>⟨v,H',b.unwish,r,q⟩) λ_ _ z=>False.elim z
theorem PT.nox{e:E1}{t:TT}(h:PT X.nox e t):PT X e t:=λa5 s σ H Q I a=>
 BO (h a5 s σ H Q (I.wish _) a) (λ_ _ ⟨H',b,q⟩=>⟨H',b.unwish,q⟩) λ_ _ z=>False.elim z
theorem PSs.nox{st:List Stmt}{t:TS}(h:PSs X.nox st t):PSs X st t:=λa5 s σ H D I a=>
 BO (h a5 s σ H D (I.wish _) a) (λ_ _ q=>q.unwish) λ_ _ z=>False.elim z
end
section
variable{X:Cx}{st:Stmt}{rest:List Stmt}{t u:TS}{e:E1}{te:TE}{pos:Pos}
def aU5:TS:=λD σ H=>D.nx σ H
def aV4(t u:TS):TS:=λD σ H=>t {D with nx:=u D} σ H
theorem dA:PSs X [] aU5:=λ_ _ σ H _ I h=>EA ⟨σ,H,I,h⟩
theorem aH(h1:PS X st t)(h2:PSs X rest u):PSs X (st::rest) (aV4 t u):=by
 intro a5 s σ H D I h
 refine wpAny_execs_cons (thn (h1 a5 s σ H {D with nx:=u D} I h) λf s1 q=>?_)
 cases f with
 | next=>
  obtain⟨a,H',b,q⟩:=q
  exact h2 a5 s1 a H' D b q
 | ret v=>exact q
 | brk=>exact q
 | cont=>exact q
theorem aQ(h1:PS X st t):PSs X [st] t:=by
 intro a5 s σ H D I h
 refine wpAny_execs_cons (thn (h1 a5 s σ H D I h) λf s1 q=>?_)
 cases f with
 | next=>exact EA q
 | ret v=>exact q
 | brk=>exact q
 | cont=>exact q
theorem Inv.quiet{a5:List (Az×Obj)}{σ:St}{H:Hp}{s:S9}(I:Inv X a5 σ H s):interactive X.env=false:=by simp[interactive,I.ok.kind]
def aCT(te:TE):TS:=λD σ H=>te σ H λ_ H1=>D.nx σ H1
theorem iL(a:PE X e te)(d:swapsWith e none pos.line X.env=pure false:=by rfl):PS X (.Expr e pos) (aCT te):=by
 intro a5 s σ H D I h
 exact wpAny_Expr_any (thn (a a5 s σ H _ I h) λv s1 ⟨x,H1,c,r1,b⟩=>⟨σ,H1,c,b⟩) I.quiet d
def aV5(te:TE):TS:=λD σ H=>te σ H D.rt
theorem bH(a:PE X e te):PS X (.Return (some e) pos) (aV5 te):=by
 intro a5 s σ H D I h
 exact wpAny_Return_some (thn (a a5 s σ H _ I h) λv s1 ⟨x,H1,c,r1,b⟩=>⟨x,σ,H1,c,r1,b⟩)
def aV6(c:TT)(t u:TS):TS:=λD σ H=>c σ H λb H1=>if b=true then t D σ H1 else u D σ H1
theorem dX{c:E1}{a b:List Stmt}{tc:TT}(i:PT X c tc)(j:PSs X a t)(k:PSs X b u):PS X (.If c a b pos) (aV6 tc t u):=by
 intro a5 s σ H D I h
 refine wpAny_If (thn (i a5 s σ H _ I h) λd s1 e=>?_)
 obtain⟨H1,g,f⟩:=e
 cases d with
 | true=>exact j a5 s1 σ H1 D g f
 | false=>exact k a5 s1 σ H1 D g f
end
abbrev TG:=V->St->Hp->(St->Hp->Prop)->Prop
abbrev TGs:=List V->St->Hp->(St->Hp->Prop)->Prop
def PG(X:Cx)(target:E1)(t:TG):Prop:=
 ∀ (a5:List (Az×Obj)) (s:S9) (σ:St) (H:Hp) (v:V) (u:V9) (Q:St->Hp->Prop),Inv X a5 σ H s->bO v u->t v σ H Q->
  wpAny (model X.prog X.w) X.A (assign target X.env u) (λ_ s'=>∃ σ' H',Inv X a5 σ' H' s'/\Q σ' H') X.xe s
def PGs(X:Cx)(ts:List E1)(t:TGs):Prop:=
 ∀ (a5:List (Az×Obj)) (s:S9) (σ:St) (H:Hp) (vs:List V) (us:List V9) (Q:St->Hp->Prop),Inv X a5 σ H s->cI vs us->t vs σ H Q->
  wpAny (model X.prog X.w) X.A (assignInOrder ((assignEach ts X.env).map (·.2)) us) (λ_ s'=>∃ σ' H',Inv X a5 σ' H' s'/\Q σ' H') X.xe s
abbrev aHW:=V->V->V->Hp->(Hp->Prop)->Prop
def aR5(X:Cx)(t:aHW):Prop:=
 ∀ (a5:List (Az×Obj)) (s:S9) (σ:St) (H:Hp) (o i v:V) (ov iv u:V9) (Q:Hp->Prop),Inv X a5 σ H s->bO o ov->bO i iv->bO v u->t o i v H Q->
  wpAny (model X.prog X.w) X.A (setItem ov iv u) (λ_ s'=>∃ H',Inv X a5 σ H' s'/\Q H') X.xe s
section
variable{X:Cx}{pos:Pos}
def lV(i:Nat):TG:=λv σ H Q=>Q (σ.set i (some v)) H
theorem bX{i:Nat}{x:Str}(c:X.N.Nodup)(hi:X.N[i]? = some x)(hx:Loc X.env.scope x)(b:X.fn x=true\/X.env.scope.names.lookup x=some .local:=by first|exact .inl rfl|exact .inr rfl):PG X (.Name x pos) (lV i):=by
 intro a5 s σ H v u Q I r h
 exact wpAny_assign_Name (rJ I c hi hx r (λs' a=>⟨_,H,a,h⟩) b)
def aMB:TGs:=λvs σ H Q=>vs=[]/\Q σ H
def aOC(t:TG)(u:TGs):TGs:=λvs σ H Q=>∃ v r,vs=v::r/\t v σ H λσ' H'=>u r σ' H' Q
theorem nY:PGs X [] aMB:=by
 intro a5 s σ H vs us Q I r h
 obtain⟨e,h⟩:=h
 subst e
 cases r
 exact assignInOrder_nil ⟨σ,H,I,h⟩
theorem fH{e:E1}{es:List E1}{t:TG}{u:TGs}(h1:PG X e t)(h2:PGs X es u)
  (f:(assignEach (e::es) X.env).map (·.2)=assign e X.env::(assignEach es X.env).map (·.2):=by rfl):PGs X (e::es) (aOC t u):=by
 intro a5 s σ H vs us Q I r h
 obtain⟨v,g,e1,h⟩:=h
 subst e1
 cases r with
 | cons r rr=>
  rw[f]
  refine assignInOrder_cons (thn (h1 a5 s σ H _ _ _ I r h) λ_ s1 b=>?_)
  obtain⟨a,H1,d,c⟩:=b
  exact h2 a5 s1 a H1 _ _ Q d rr c
def aR6(K:Frag)(n:Nat)(t:TGs):TG:=λv σ H Q=>∃ a xs,v=.ref a/\SqT K H a xs/\xs.length=n/\t xs σ H Q
theorem qA{es:List E1}{k:Nat}{t:TGs}{n:Nat}(g:X.calm=true)(h:PGs X es t)
  (f:(assignEach es X.env).length=n:=by rfl) (hst:(assignEach es X.env).findIdx? (·.1)=none:=by rfl):PG X (.Tuple es k pos) (aR6 X.K n t):=by
 intro a5 s σ H v u Q I r c
 obtain⟨a,xs,e1,l,i,c⟩:=c
 subst e1
 cases r
 obtain⟨m,d,p,w⟩:=I.tuple l
 refine assign_Tuple_tuple (I.ok.hd g) p (by simp[f,<-i,d.length]) hst λh' q=>?_
 have j:Inv X a5 σ H {s with heap:=h'}:=I.kept (t':=s.toks) λb o e=>q b o (BP (AT e)) e
 exact h a5 _ σ H xs _ Q j (by simpa using d) c
def aR7(to ti:TE)(t:aHW):TG:=λv σ H Q=>to σ H λo H1=>ti σ H1 λi H2=>t o i v H2 λH3=>Q σ H3
theorem aC6{o i:E1}{to b:TE}{t:aHW}(j:PE X o to)(hi:PE X i b)(e:aR5 X t)
  (f:∀ v,assign (.Subscript o i pos) X.env v=(do
   let ov <-holding [v] (eval o X.env)
   let iv <-holding [v,ov] (eval i X.env)
   standAt pos
   holding [v,ov,iv] (setItem ov iv v)
   release [v,ov,iv] []):=by intro _;rfl):PG X (.Subscript o i pos) (aR7 to b t):=by
 intro a5 s σ H v u Q I r h
 rw[f]
 refine AB (DD (thn (j a5 s σ H _ I h) λov s1 a=>?_))
 obtain⟨x,H1,d,r1,g⟩:=a
 refine AB (DD (thn (hi a5 s1 σ H1 _ d g) λiv c a=>?_))
 obtain⟨y,H2,l,r2,k⟩:=a
 refine AB (DE (AB (DD (thn (e a5 c σ H2 x y v ov iv u _ l r1 r2 r k) λ_ p a=>?_))))
 obtain⟨H3,m,n⟩:=a
 exact wpAny_release ⟨σ,H3,m,n⟩
def nO(te:TE)(g:TG):TS:=λD σ H=>te σ H λx H1=>g x σ H1 D.nx
theorem x3{tg e:E1}{te:TE}{g:TG}(i:PE X e te)(d:PG X tg g)(f:swapsWithSole [tg] e pos.line X.env=pure false:=by rfl)(hw:swappedStores [tg] e X.env=pure none:=by rfl)
  (h1:(assignEach [tg] X.env).map (·.2)=[assign tg X.env]:=by rfl):PS X (.Assign [tg] e pos) (nO te g):=by
 intro a5 s σ H D I h
 refine wpAny_Assign_stores (thn (i a5 s σ H _ I h) λv s1 a=>?_) f hw
 obtain⟨x,H1,c,r1,b⟩:=a
 rw[h1]
 exact thn (d a5 s1 σ H1 x v _ c r1 b) λ_ j q=>q
theorem aI{i:Nat}{x:Str}{e:E1}{te:TE}{a:Pos}(k:X.N.Nodup)(hi:X.N[i]? = some x)(hx:Loc X.env.scope x)(g:PE X e te)(f:swapsWith e (some (.Name x a)) pos.line X.env=pure false:=by rfl)(hf:X.fn x=true\/X.env.scope.names.lookup x=some .local:=by exact .inl rfl) :
  PS X (.Assign [.Name x a] e pos) (nO te (lV i)):=by
 intro a5 s σ H D I h
 refine wpAny_Assign_Name (thn (g a5 s σ H _ I h) λv s1 b=>?_) f
 obtain⟨y,H1,d,r1,c⟩:=b
 exact rJ d k hi hx r1 (λl j=>⟨_,H1,j,c⟩) hf
end
section
variable{X:Cx}{pos:Pos}
def aJM(c:TT)(tb:TS):TS:=λD σ H=>∃ W:Nat->St->Hp->Prop,(∃ m,W m σ H)/\∀ m σ H,W m σ H->
 c σ H λb H1=>if b=true then ∃ N:St->Hp->Prop,(∀ σ' H',N σ' H'->∃ m',m' < m/\W m' σ' H')/\tb {D with nx:=N,ct:=N,bk:=D.nx} σ H1 else D.nx σ H1
theorem i4{c:E1}{body:List Stmt}{tc:TT}{tb:TS}(o:PassesOwn (model X.prog X.w) X.A X.env X.xe)(t:PT X c tc)(x:PSs X body tb):PS X (.While c body [] pos) (aJM tc tb):=by
 intro a5 s σ H D I h
 obtain⟨W,⟨y,u⟩,d⟩:=h
 refine wpAny_While (codeAny_whileLoop (λn s'=>∃ σ' H',Inv X a5 σ' H' s'/\W n σ' H') ?_ y ⟨σ,H,I,u⟩)
 rintro n s1 ⟨σ1,H1,I1,w1⟩
 refine DB o (thn (t a5 s1 σ1 H1 _ I1 (d n σ1 H1 w1)) λb r i=>?_)
 obtain⟨H2,q,e⟩:=i
 cases b with
 | true=>
  obtain⟨N,p,e⟩:=e
  rw[AD rfl]
  refine DB o (thn (x a5 r σ1 H2 _ q e) λf z g=>?_)
  cases f with
  | next=>
   obtain⟨a,H3,k,l⟩:=g
   obtain⟨m,j,w3⟩:=p a H3 l
   exact⟨m,j,a,H3,k,w3⟩
  | cont=>
   obtain⟨a,H3,k,l⟩:=g
   obtain⟨m,j,w3⟩:=p a H3 l
   exact⟨m,j,a,H3,k,w3⟩
  | brk=>exact g
  | ret v=>exact g
 | false=>
  rw[AE CG]
  exact EA ⟨σ1,H2,q,e⟩
end
structure It where
 go:Nat->Hp->Prop
 yld:Nat->Hp->V->Hp->Prop
 stop:Nat->Hp->Prop
def kL(X:Cx)(a5:List (Az×Obj))(H:Hp)(b:Az):Prop:=
 H b=none/\b≠X.env.locals/\b∉X.fs/\(b∈X.ex\/X.s₀.heap.objs.size<=b)/\(∀ x c,X.env.cells.lookup x=some c->c≠b)/\∀ p∈X.pn++a5,p.1≠b
theorem Inv.fpOk{X:Cx}{a5:List (Az×Obj)}{σ:St}{H H':Hp}{s:S9}{b:Az}(I:Inv X a5 σ H s)(a:s.heap.objs.size<=b)(d:H' b=none):kL X a5 H' b:=by
 refine⟨d,DL (BA I.lt a),I.nofs a,.inr (BR I.sz a),λx c e z=>?_,λp f z=>?_⟩
 .obtain ⟨v,q⟩:=I.cell x c e
  exact absurd (BA q.lt (by rw[z];exact a)) (CI _)
 .exact absurd (BA (AT (I.pin p f).1) (by rw[z];exact a)) (CI _)
structure Turn(P:Program)(w:World)(K:Frag)(tg:Expr)(J:It)(fp:List Az)(it:Az)(tn:Nat->Heap->Prop):Prop where
 mem:it∈fp
 obj:∀ i h,tn i h->∀ b∈fp,∃ o,h.get? b=some o/\∀ v,o.data≠.cell v
 keep:∀ i h h',tn i h->(∀ b∈fp,∀ o,h.get? b=some o->h'.get? b=some o)->tn i h'
 item:∀ (X:Cx),X.prog=P->X.w=w->X.K=K->X.calm=true->∀ (i:Nat) (a5:List (Az×Obj)) (s:S9) (σ:St) (H:Hp) (E:V9->S9->Prop),Inv X a5 σ H s->(∀ b∈fp,kL X a5 H b)->tn i s.heap->J.go i H->
  wpAny (model P w) X.A (pyNext (.ref it)) (λr s1=>∃ u,r=some u /\
   wpAny (model P w) X.A (letOwnedTupleGo tg (.ref it) u) (λ_ s2=>∃ x H',Inv X a5 σ H' s2/\bO x u/\J.yld i H x H'/\tn (i+1) s2.heap/\∀ b∈fp,H' b=none) E s1) E s
 done:∀ (X:Cx),X.prog=P->X.w=w->X.K=K->X.calm=true->∀ (i:Nat) (a5:List (Az×Obj)) (s:S9) (σ:St) (H:Hp) (E:V9->S9->Prop),Inv X a5 σ H s->(∀ b∈fp,kL X a5 H b)->tn i s.heap->J.stop i H->
  wpAny (model P w) X.A (pyNext (.ref it)) (λr s1=>r=none/\Inv X a5 σ H s1) E s
 self:∀ (A:Around) (i:Nat) (s:S9) (Q:V9->S9->Prop) (E:V9->S9->Prop),tn i s.heap->Q (.ref it) s->wpAny (model P w) A (pyIter (.ref it)) Q E s
abbrev TI:=St->Hp->(It->Hp->Prop)->Prop
def PIE(X:Cx)(a5:List (Az×Obj))(σ:St)(tg:E1)(R:It->Hp->Prop)(itv:V9)(s2:S9):Prop:=
 ∃ (it:Az) (fp:List Az) (tn:Nat->H9->Prop) (J:It) (H':Hp),itv=.ref it/\Inv X a5 σ H' s2/\Turn X.prog X.w X.K tg J fp it tn/\tn 0 s2.heap/\(∀ b∈fp,kL X a5 H' b)/\R J H'
def PI(X:Cx)(tg iter:E1)(wi:TI):Prop:=
 ∀ (a5:List (Az×Obj)) (s:S9) (σ:St) (H:Hp) (R:It->Hp->Prop),Inv X a5 σ H s->wi σ H R->
  wpAny (model X.prog X.w) X.A (eval iter X.env) (λv s1=>wpAny (model X.prog X.w) X.A (pyIter v) (PIE X a5 σ tg R) X.xe s1) X.xe s
theorem aCU {M : Model} {A : U9} {E : V9 -> S9 -> Prop} {s : S9} {tg : E1} {it : Az} {u : V9} {o : Obj} {n : String} {vs : Array V9} {Q : Unit -> S9 -> Prop} (e : s.heap.get? it = some o) (c : o.cls = .type n) (d : o.data = .fields vs)
    (b : ["enumerate", "zip", "dict_itemiterator", "dict_reverseitemiterator", "odict_iterator", "itertools.zip_longest", "itertools.pairwise"].contains n = false) (a : Q () s) : wpAny M A (letOwnedTupleGo tg (.ref it) u) Q E s := by
  unfold letOwnedTupleGo
  cases tg <;> first
    | exact AM a
    | (cases u <;> first
        | exact AM a
        | (refine AB (wpAny_load e ?_)
           rw [c, d]
           show wpAny M A (if (["enumerate", "zip", "dict_itemiterator", "dict_reverseitemiterator", "odict_iterator", "itertools.zip_longest", "itertools.pairwise"].contains n && vs[0]? == some (rawInt _)) = true then _ else _) Q E s
           rw [AE (by intro h; rw [b, Bool.false_and]at h; cases h)]
           exact AM a))
def Itl(K:Frag)(a:Az):It:=
 ⟨λi H=>∃ xs x,SqL K H a xs/\xs[i]? = some x,λi H x H'=>H'=H/\∀ xs,SqL K H a xs->xs[i]? = some x,λi H=>∃ xs,SqL K H a xs/\xs.length<=i⟩
def Itt(K:Frag)(a:Az):It:=
 ⟨λi H=>∃ xs x,SqT K H a xs/\xs[i]? = some x,λi H x H'=>H'=H/\∀ xs,SqT K H a xs->xs[i]? = some x,λi H=>∃ xs,SqT K H a xs/\xs.length<=i⟩
noncomputable def Itr(lo:Int)(n:Nat):It:=⟨λi _=>i < n,λi H x H'=>H'=H/\x=.int (lo+i),λi _=>n<=i⟩
theorem aJN{P:P9}{w:W9}{K:Frag}{tg:E1}(a it:Az):Turn P w K tg (Itl K a) [it] it (λi h=>h.IsListIter it a i) where
 mem:=by simp
 obj:=λi h st b f=>by
  have e:b=it:=by simpa using f
  subst e
  obtain⟨o,e,c,d⟩:=st
  exact⟨o,e,λv z=>by rw[d]at z;cases z⟩
 keep:=λi h h' st k=>st.at λo e=>k it (by simp) o e
 item:=by
  intro X r C A J i a5 s σ H E I j st m
  subst r C A
  obtain⟨xs,x,l,D⟩:=m
  obtain⟨G,n,p,S⟩:=I.list l
  obtain⟨u,L,N⟩:=n.get D
  obtain⟨q,t,O,y,B,F⟩:=j it (by simp)
  refine wpAny_pyNext_list_item st p.isList (x:=u) (by simpa using L) λh' g Q=>?_
  have T:Inv X a5 σ H {s with heap:=h'}:=I.turned (t':=s.toks) (λb o f e=>(Q.2 b f).trans e) q t y B F
  obtain⟨o,e,c,d⟩:=id g
  exact⟨u,rfl,aCU (s:={s with heap:=h'}) e c d (by decide) ⟨x,H,T,N,⟨rfl,λys R=>by rw[I.list_inj R l];exact D⟩,g,λb f=>(j b f).1⟩⟩
 done:=by
  intro X r C A J i a5 s σ H E I j st m
  subst r C A
  obtain⟨xs,l,D⟩:=m
  obtain⟨G,n,p,S⟩:=I.list l
  obtain⟨q,t,O,y,B,F⟩:=j it (by simp)
  have U:=n.length
  exact wpAny_pyNext_list_end (I.ok.hd J) st p.isList (by simp;omega) λh' M=>⟨rfl,I.turned (t':=s.toks) (λb o f e=>M b o f e) q t y B F⟩
 self:=λ_ _ _ _ _ st h=>wpAny_pyIter_listiter st h
theorem aHX{P:P9}{w:W9}{K:Frag}{tg:E1}(a it:Az):Turn P w K tg (Itt K a) [it] it (λi h=>h.IsTupleIter it a i) where
 mem:=by simp
 obj:=λi h st b f=>by
  have e:b=it:=by simpa using f
  subst e
  obtain⟨o,e,c,d⟩:=st
  exact⟨o,e,λv z=>by rw[d]at z;cases z⟩
 keep:=λi h h' st k=>st.at λo e=>k it (by simp) o e
 item:=by
  intro X t D B J i a5 s σ H E I l st n
  subst t D B
  obtain⟨xs,x,m,F⟩:=n
  obtain⟨g,q,p,S⟩:=I.tuple m
  obtain⟨u,L,N⟩:=q.get F
  obtain⟨r,y,O,A,C,G⟩:=l it (by simp)
  refine wpAny_pyNext_tuple_item st (show s.heap.IsTuple a g.toArray from p) (x:=u) (by simpa using L) λh' j Q=>?_
  have T:Inv X a5 σ H {s with heap:=h'}:=I.turned (t':=s.toks) (λb o f e=>(Q.2 b f).trans e) r y A C G
  obtain⟨o,e,c,d⟩:=id j
  exact⟨u,rfl,aCU (s:={s with heap:=h'}) e c d (by decide) ⟨x,H,T,N,⟨rfl,λys R=>by rw[I.tuple_inj R m];exact F⟩,j,λb f=>(l b f).1⟩⟩
 done:=by
  intro X t D B J i a5 s σ H E I l st n
  subst t D B
  obtain⟨xs,m,F⟩:=n
  obtain⟨g,q,p,S⟩:=I.tuple m
  obtain⟨r,y,O,A,C,G⟩:=l it (by simp)
  have U:=q.length
  exact wpAny_pyNext_tuple_end (I.ok.hd J) st (show s.heap.IsTuple a g.toArray from p) (by simp;omega) λh' M=>⟨rfl,I.turned (t':=s.toks) (λb o f e=>M b o f e) r y A C G⟩
 self:=λ_ _ _ _ _ st h=>wpAny_pyIter_tupleiter st h
theorem aHY{P:P9}{w:W9}{K:Frag}{tg:E1}(it:Az)(lo:Int)(n:Nat):Turn P w K tg (Itr lo n) [it] it (λi h=>IsRangeIter h it (lo+(i:Nat) * 1) ((n:Int) - (i:Nat)) 1) where
 mem:=by simp
 obj:=λi h st b a=>by
  have e:b=it:=by simpa using a
  subst e
  exact⟨_,st,λv z=>by
   have D:Data.fields _=Data.cell v:=z
   cases D⟩
 keep:=λi h h' st k=>k it (by simp) _ st
 item:=by
  intro X r m f g i a5 s σ H E I d st l
  subst r m f
  obtain⟨q,u,C,x,j,p⟩:=d it (by simp)
  have W:=Walks.range (prog:=X.prog) (w:=X.w) (I.ok.hd g) it lo 1 n
  refine W.item i s _ _ l st λv h' y F c G=>?_
  obtain⟨t,rfl⟩:=F
  have A:Inv X a5 σ H {s with heap:=h',toks:=y}:=I.turned (λb o a e=>G b o (by simpa using a) e) q u x j p
  refine⟨_,rfl,aCU (s:={s with heap:=h',toks:=y}) (n:="range_iterator") c rfl rfl (by decide) ⟨.int (lo+i),H,A,⟨t,?_⟩,⟨rfl,rfl⟩,c,λb a=>(d b a).1⟩⟩
  rw[Int.mul_one]
 done:=by
  intro X r m f g i a5 s σ H E I d st l
  subst r m f
  obtain⟨q,u,C,x,j,p⟩:=d it (by simp)
  exact wpAny_pyNext_range_end (I.ok.hd g) st (by have:n<=i:=l;omega) λh' B=>⟨rfl,I.turned (t':=s.toks) (λb o a e=>B b o a e) q u x j p⟩
 self:=λ_ _ _ _ _ st h=>wpAny_pyIter_rangeiter st h
section
variable{X:Cx}{tg:E1}
theorem aMC{a5:List (Az×Obj)}{σ:St}{H:Hp}{s:S9}{R:It->Hp->Prop}{E:V9->S9->Prop}{lo hi:Int}{t u v:Tok}{a:Nat}(I:Inv X a5 σ H s)(h1 : -(2 ^ 62)<=lo)(h2:lo < 2 ^ 62)(d : -(2 ^ 62)<=hi)(g:hi < 2 ^ 62)
  (q:R (Itr lo (hi - lo).toNat) H):wpAny (model X.prog X.w) X.A (pyIter (.ref s.heap.objs.size)) (PIE X a5 σ tg R) E {s with heap:=s.heap.push {cls:=.type "range",data:=.fields #[.int lo t,.int hi u,.int 1 v]},toks:=a}:=by
 refine wpAny_pyIter_range (IsRange.new ..) (small_one h1 h2 d g) ?_
 have c:Inv X a5 σ H {s with heap:=s.heap.push {cls:=.type "range",data:=.fields #[.int lo t,.int hi u,.int 1 v]},toks:=a}:=I.kept λb o e=>AC _ e
 refine⟨(s.heap.push {cls:=.type "range",data:=.fields #[.int lo t,.int hi u,.int 1 v]}).objs.size,[(s.heap.push {cls:=.type "range",data:=.fields #[.int lo t,.int hi u,.int 1 v]}).objs.size],_,_,H,rfl,
  c.kept (t':=a) λb o e=>AC _ e,aHY _ lo (hi - lo).toNat,?_,λb f=>?_,q⟩
 .have e1:lo+((0:Nat):Int) * 1=lo:=by simp
  have e2:(((hi - lo).toNat:Nat):Int) - ((0:Nat):Int)=Builtin.Range.rangeSize lo hi 1:=by rw[rangeSize_one];split<;>omega
  show IsRangeIter _ _ (lo+((0:Nat):Int) * 1) ((((hi - lo).toNat:Nat):Int) - ((0:Nat):Int)) 1
  rw[e1,e2]
  exact A9 _ rfl
 .have e:b=(s.heap.push {cls:=.type "range",data:=.fields #[.int lo t,.int hi u,.int 1 v]}).objs.size:=by simpa using f
  subst e
  exact c.fpOk (AQ _) (c.hok.fresh (AQ _))
def aOD(ta:TA):TI:=λσ H R=>ta σ H λvs H1=>∃ j:Int,vs=[.int j] /\ -(2 ^ 62)<=j/\j < 2 ^ 62/\R (Itr 0 j.toNat) H1
theorem lJ{a:E1}{ta:TA}{p pos:Pos}(g:Gl X "range")(l:X.mg "range"=none)(k:PA X [a] ta)(f:starEach [a] X.env=[(false,eval a X.env)]:=by rfl):PI X tg (.Call (.Name "range" p) [a] [] pos) (aOD ta):=by
 intro a5 s σ H R I h
 refine Call_ (p8 I g l boot_range (C7 (thn (k pos a5 s σ H _ I h) λus s1 c=>?_) f rfl))
 obtain⟨vs,H1,d,r1,b⟩:=c
 obtain⟨j,e,b,i,q⟩:=b
 subst e
 cases r1 with
 | cons r rr=>
  cases rr
  obtain⟨t,rfl⟩:=r
  exact call_range_1 (aMC d (by omega) (by omega) b i (by simpa using q))
def aR8(wi:TI)(g:TG)(tb:TS):TS:=λD σ H=>wi σ H λJ H1=>∃ W:Nat->Nat->St->Hp->Prop,(∃ m,W 0 m σ H1)/\∀ i m σ H,W i m σ H->
 (J.stop i H/\D.nx σ H)\/(J.go i H/\∃ N:St->Hp->Prop,(∀ σ' H',N σ' H'->∃ m',m' < m/\W (i+1) m' σ' H')/\∀ x H',J.yld i H x H'->g x σ H' λσ2 H2=>tb {D with nx:=N,ct:=N,bk:=D.nx} σ2 H2)
noncomputable def sZ(fp:List Az)(h:H9):List (Az×Obj):=fp.filterMap λb=>(h.get? b).map λo=>(b,o)
theorem nS{a:List Az}{h:H9}{b:Az}{o:Obj}(c:b∈a)(e:h.get? b=some o):(b,o)∈sZ a h:=C8.mpr ⟨b,c,by rw[e];rfl⟩
theorem aJO{a:List Az}{h:H9}{p:Az×Obj}(d:p∈sZ a h):p.1∈a/\h.get? p.1=some p.2:=by
 obtain⟨b,f,e⟩:=C8.mp d
 cases q:h.get? b with
 | none=>rw[q]at e;cases e
 | some o=>
  rw[q]at e
  have c:(b,o)=p:=B5 e
  subst c
  exact⟨f,q⟩
theorem Inv.pinned{a5:List (Az×Obj)}{σ:St}{H:Hp}{s:S9}{a:List Az}(I:Inv X a5 σ H s)(l:∀ b∈a,kL X a5 H b)(g:∀ b∈a,∃ o,s.heap.get? b=some o/\∀ v,o.data≠.cell v):Inv X (a5++sZ a s.heap) σ H s:=
 I.pins_of λp i=>(BX.mp i).elim (λz=>I.pin p (BY _ z)) λz=>by
  obtain⟨f,e⟩:=aJO z
  obtain⟨h,j,k,_⟩:=l p.1 f
  obtain⟨o,c,d⟩:=g p.1 f
  rw[e]at c;cases c
  exact⟨e,h,j,k,d⟩
theorem Inv.unpinned{a5 pl:List (Az×Obj)}{σ:St}{H:Hp}{s:S9}(I:Inv X (a5++pl) σ H s):Inv X a5 σ H s:=I.pins_of λp a=>I.pin p (BY _ (B9 _ a))
theorem gP{p:E1}{body:List Stmt}{S:TI}{g:TG}{tb:TS}{pos:Pos}(E:PassesOwn (model X.prog X.w) X.A X.env X.xe)(Y:X.calm=true)(hi:PI X tg p S)(hg:PG X tg g)(t:PSs X body tb)
  (hs:∀ x,foldedSetIterable p X.env x=pure x:=by intro _;rfl):PS X (.For tg p body [] pos) (aR8 S g tb):=by
 intro a5 s σ H D I h
 refine wpAny_For (thn (hi a5 s σ H _ I h) λv s1 h1=>thn h1 λaa s2 h2=>?_) hs
 obtain⟨it,B,V,J,H2,e,I2,T,K,Q,W,⟨m0,w0⟩,F⟩:=h2
 subst e
 have l:∀ {H':Hp},(∀ b∈B,H' b=none)->∀ b∈B,kL X a5 H' b:=λhn b t=>⟨hn b t,(Q b t).2⟩
 refine codeAny_forLoop_any (λn s'=>∃ i σ' H',Inv X a5 σ' H' s'/\V i s'.heap/\(∀ b∈B,H' b=none)/\W i n σ' H') ?_ m0 ⟨0,σ,H2,I2,K,λb t=>(Q b t).1,w0⟩
 rintro n R ⟨i,σ3,H3,I3,st3,fr3,w3⟩
 rcases F i n σ3 H3 w3 with ⟨stop,qn⟩|⟨go,N,hN,step⟩
 .refine DB E (thn (T.done X rfl rfl rfl Y i a5 R σ3 H3 X.xe I3 (l fr3) st3 stop) λr s4 c=>?_)
  obtain⟨O,Z⟩:=c
  subst O
  exact EA ⟨σ3,H3,Z,qn⟩
 .refine DB E (thn (T.item X rfl rfl rfl Y i a5 R σ3 H3 X.xe I3 (l fr3) st3 go) λr s4 c=>?_)
  obtain⟨u,O,h4⟩:=c
  subst O
  refine DB E (thn h4 λ_ U c=>?_)
  obtain⟨x,H5,I5,r5,y5,z,P⟩:=c
  have M:=I5.pinned (l P) (T.obj _ _ z)
  refine DB E (thn (hg _ U σ3 H5 x u _ M r5 (step x H5 y5)) λ_ s6 c=>?_)
  obtain⟨G,H6,I6,q6⟩:=c
  refine DB E (thn (t _ s6 G H6 _ I6 q6) λf L y=>?_)
  have k:∀ {a:St} {j:Hp},Inv X (a5++sZ B U.heap) a j L->N a j->∃ m,m < n/\∃ i σ' H',Inv X a5 σ' H' L/\V i L.heap/\(∀ b∈B,H' b=none)/\W i m σ' H':=λ{a j} q C=>by
   obtain⟨m',hm,w7⟩:=hN a j C
   refine⟨m',hm,i+1,a,j,q.unpinned,T.keep _ _ _ z λb t o e=>(q.pin (b,o) (BY _ (BY _ (nS t e)))).1,λb t=>?_,w7⟩
   obtain⟨o,e,d⟩:=T.obj _ _ z b t
   exact(q.pin (b,o) (BY _ (BY _ (nS t e)))).2.1
  cases f with
  | next=>obtain⟨a,j,q,C⟩:=y;exact k q C
  | cont=>obtain⟨a,j,q,C⟩:=y;exact k q C
  | brk=>obtain⟨a,j,q,y⟩:=y;exact⟨a,j,q.unpinned,y⟩
  | ret v=>obtain⟨x7,a,j,q,r7,y⟩:=y;exact⟨x7,a,j,q.unpinned,r7,y⟩
end
abbrev R2:=V->V->Hp->VK->Prop
def OpR(X:Cx)(f:V9->V9->Sem V9)(r:R2):Prop:=
 ∀ (a5:List (Az×Obj)) (s:S9) (σ:St) (H:Hp) (x y:V) (v u:V9) (Q:VK),Inv X a5 σ H s->bO x v->bO y u->r x y H Q->
  wpAny (model X.prog X.w) X.A (f v u) (EP X a5 σ Q) X.xe s
def UnR(X:Cx)(f:V9->Sem V9)(r:V->Hp->VK->Prop):Prop:=
 ∀ (a5:List (Az×Obj)) (s:S9) (σ:St) (H:Hp) (x:V) (v:V9) (Q:VK),Inv X a5 σ H s->bO x v->r x H Q->
  wpAny (model X.prog X.w) X.A (f v) (EP X a5 σ Q) X.xe s
def j9(X:Cx)(f:V9)(r:List V->Hp->VK->Prop):Prop:=
 ∀ (a5:List (Az×Obj)) (s:S9) (σ:St) (H:Hp) (xs:List V) (us:List V9) (Q:VK),Inv X a5 σ H s->cI xs us->r xs H Q->
  wpAny (model X.prog X.w) X.A (call f us) (EP X a5 σ Q) X.xe s
def tOp(r:R2)(ta tb:TE):TE:=λσ H Q=>ta σ H λx H1=>tb σ H1 λy H2=>r x y H2 Q
def tUn(r:V->Hp->VK->Prop)(ta:TE):TE:=λσ H Q=>ta σ H λx H1=>r x H1 Q
def rI(C:Int->Int->Prop)(g:Int->Int->V):R2:=λx y H Q=>∃ i j,x=.int i/\y=.int j/\C i j/\Q (g i j) H
def rI0(g:Int->Int->V):R2:=λx y H Q=>∃ i j,x=.int i/\y=.int j/\Q (g i j) H
def rU(g:Int->V):V->Hp->VK->Prop:=λx H Q=>∃ i,x=.int i/\Q (g i) H
section
variable{X:Cx}{a b c:E1}{ta tb tc:TE}{pos:Pos}
theorem aMD(i:PE X a ta)(k:PE X b tb){a5:List (Az×Obj)}{s:S9}{σ:St}{H:Hp}{R:V->V->Hp->Prop}(I:Inv X a5 σ H s)
  (h:ta σ H λx H1=>tb σ H1 λy H2=>R x y H2) {Q:V9->S9->Prop} {f:V9->V9->Sem V9}
  (l:∀ v u s2 x y H2,Inv X a5 σ H2 s2->bO x v->bO y u->R x y H2->wpAny (model X.prog X.w) X.A (f v u) Q X.xe s2) :
  wpAny (model X.prog X.w) X.A (eval a X.env) (λv s₁=>wpAny (model X.prog X.w) X.A (eval b X.env) (λu s₂=>wpAny (model X.prog X.w) X.A (f v u) Q X.xe s₂) X.xe s₁) X.xe s:=by
 refine thn (i a5 s σ H _ I h) λv s1 c=>?_
 obtain⟨x,H1,e,r1,d⟩:=c
 refine thn (k a5 s1 σ H1 _ e d) λu s2 c=>?_
 obtain⟨y,H2,j,r2,g⟩:=c
 exact l v u s2 x y H2 j r1 r2 g
theorem aHZ{c:Operator}{r:R2}(e:OpR X (binaryOp c) r)(g:PE X a ta)(k:PE X b tb):PE X (.BinOp a c b pos) (tOp r ta tb):=by
 intro a5 s σ H Q I h
 exact wpAny_BinOp (aMD g k I h λv u d x y H2 i j f q=>e a5 d σ H2 x y v u Q i j f q)
theorem aU6{b:UnaryOp}{r:V->Hp->VK->Prop}(f:UnR X (unaryOp b) r)(c:PE X a ta):PE X (.UnaryOp b a pos) (tUn r ta):=by
 intro a5 s σ H Q I h
 exact UnaryOp_ (thn (c a5 s σ H _ I h) λv s1 ⟨x,H1,e,r1,d⟩=>f a5 s1 σ H1 x v Q e r1 d)
theorem opI{f:V9->V9->Sem V9}{C:Int->Int->Prop}{g:Int->Int->Int}
  (a:∀ (i j:Int) (t u:Tok) (s:S9) (Q:V9->S9->Prop) (E:V9->S9->Prop),C i j->Q (.int (g i j) s.toks) {s with toks:=s.toks+1}->wpAny (model X.prog X.w) X.A (f (.int i t) (.int j u)) Q E s) :
  OpR X f (rI C λi j=>.int (g i j)):=by
 intro a5 s σ H x y v u Q I e d h
 obtain⟨i,j,rfl,rfl,b,q⟩:=h
 obtain⟨t,rfl⟩:=e
 obtain⟨c,rfl⟩:=d
 exact a i j t c s _ _ b ⟨.int (g i j),H,I.tok _,⟨_,rfl⟩,q⟩
theorem aR9{f:V9->V9->Sem V9}{g:Int->Int->Int}
  (a:∀ (i j:Int) (t u:Tok) (s:S9) (Q:V9->S9->Prop) (E:V9->S9->Prop),Q (.int (g i j) s.toks) {s with toks:=s.toks+1}->wpAny (model X.prog X.w) X.A (f (.int i t) (.int j u)) Q E s) :
  OpR X f (rI0 λi j=>.int (g i j)):=by
 intro a5 s σ H x y v u Q I c d h
 obtain⟨i,j,rfl,rfl,q⟩:=h
 obtain⟨t,rfl⟩:=c
 obtain⟨b,rfl⟩:=d
 exact a i j t b s _ _ ⟨.int (g i j),H,I.tok _,⟨_,rfl⟩,q⟩
theorem aSA{f:V9->V9->Sem V9}{g:Int->Int->Bool}
  (a:∀ (i j:Int) (t u:Tok) (s:S9) (Q:V9->S9->Prop) (E:V9->S9->Prop),Q (.bool (g i j)) s->wpAny (model X.prog X.w) X.A (f (.int i t) (.int j u)) Q E s) :
  OpR X f (rI0 λi j=>.bl (g i j)):=by
 intro a5 s σ H x y v u Q I c d h
 obtain⟨i,j,rfl,rfl,q⟩:=h
 obtain⟨t,rfl⟩:=c
 obtain⟨b,rfl⟩:=d
 exact a i j t b s _ _ ⟨.bl (g i j),H,I,rfl,q⟩
def aME(i j:Int):Prop:=(-(2 ^ 64) < i/\i < 2 ^ 64)\/(-(2 ^ 64) < j/\j < 2 ^ 64)
theorem aME.ok{i j:Int}(h:aME i j):IntMulOk i j:=by
 rcases h with ⟨h1,h2⟩|⟨h1,h2⟩
 · exact .of_left (intBits_le_64 h1 h2)
 · exact .of_right (intBits_le_64 h1 h2)
theorem aSB:OpR X (binaryOp .Add) (rI0 λi j=>.int (i+j)):=aR9 λ_ _ _ _ _ _ _ q=>add_int q
theorem aSC:OpR X (binaryOp .Sub) (rI0 λi j=>.int (i - j)):=aR9 λ_ _ _ _ _ _ _ q=>sub_int q
theorem aSD:OpR X (binaryOp .Mult) (rI aME λi j=>.int (i * j)):=opI λ_ _ _ _ _ _ _ a q=>mul_int q a.ok
theorem aSE:OpR X (binaryOp .Mod) (rI (λ_ j=>0 < j) λi j=>.int (i % j)):=opI λi j _ _ _ _ _ a q=>by
 have h1:(0:Int) < j:=a
 exact mod_int' (by omega) (by rw[Int.fmod_eq_emod_of_nonneg i (by omega)];exact q)
theorem unI{f:V9->Sem V9}{g:Int->Int}
  (a:∀ (i:Int) (t:Tok) (s:S9) (Q:V9->S9->Prop) (E:V9->S9->Prop),Q (.int (g i) s.toks) {s with toks:=s.toks+1}->wpAny (model X.prog X.w) X.A (f (.int i t)) Q E s) :
  UnR X f (rU λi=>.int (g i)):=by
 intro a5 s σ H x v Q I b h
 obtain⟨i,rfl,q⟩:=h
 obtain⟨t,rfl⟩:=b
 exact a i t s _ _ ⟨.int (g i),H,I.tok _,⟨_,rfl⟩,q⟩
theorem aSF:UnR X (unaryOp .USub) (rU λi=>.int (-i)):=unI λ_ _ _ _ _ q=>neg_int q
end
section
variable{X:Cx}{a b c:E1}{ta tb tc:TE}{pos:Pos}
theorem aSG{a5:List (Az×Obj)}{σ:St}{H:Hp}{s:S9}{Q:VK}{k a:Bool}(I:Inv X a5 σ H s)(q:Q (.bl k) H)(e:k=a):EP X a5 σ Q (.bool a) s:=by
 subst e
 exact⟨.bl k,H,I,rfl,q⟩
theorem aU7:OpR X (compareOp .Lt) (rI0 λi j=>.bl (decide (i < j))):=aSA λ_ _ _ _ _ _ _ q=>lt_int q
theorem aU8:OpR X (compareOp .Gt) (rI0 λi j=>.bl (decide (j < i))):=aSA λ_ _ _ _ _ _ _ q=>gt_int q
theorem aJP:OpR X (compareOp .In) (λx y H Q=>∃ i j,x=.str i/\y=.str j/\Q (.bl (!(Builtin.Str.occurrences j i 0 j.length 1).isEmpty)) H):=by
 intro a5 s σ H x y v u Q I a b h
 obtain⟨i,j,rfl,rfl,q⟩:=h
 obtain⟨t,rfl⟩:=a
 obtain⟨c,rfl⟩:=b
 exact in_str (aSG I q rfl)
theorem b7(b:E1){a:CmpOp}(h:a≠.In:=by decide)(h2:a≠.NotIn:=by decide):behindInMarks a b=false:=by
 have e1:(a == CmpOp.In)=false:=by cases a<;>first|rfl|exact absurd rfl h
 have e2:(a == CmpOp.NotIn)=false:=by cases a<;>first|rfl|exact absurd rfl h2
 cases b<;>simp[behindInMarks,e1,e2]
theorem aPA{c:CmpOp}{r:R2}(e:OpR X (compareOp c) r)(g:PE X a ta)(l:PE X b tb)(j:behindInMarks c b=false):PE X (.Compare a [c] [b] pos) (tOp r ta tb):=by
 intro a5 s σ H Q I h
 exact wpAny_Compare1 (aMD g l I h λv u d x y H2 i k f q=>e a5 d σ H2 x y v u Q i k f q) j
def aOE(t:TE):TT:=λσ H Q=>t σ H λx H'=>∃ k,x=.bl k/\Q k H'
theorem uW{d:CmpOp}{r:R2}(n:OpR X (compareOp d) r)(i:PE X a ta)(l:PE X b tb)(j:behindInMarks d b=false):PT X (.Compare a [d] [b] pos) (aOE (tOp r ta tb)):=by
 intro a5 s σ H Q I h
 refine wpAny_isTrue_Compare1 (thn (i a5 s σ H _ I h) λv s1 ⟨x,H1,g,r1,m⟩=>thn (l a5 s1 σ H1 _ g m) λu f ⟨y,H2,q,r2,o⟩=>
  thn (n a5 f σ H2 x y v u _ q r1 r2 o) λc A ⟨z,H3,t,p,k,e,w⟩=>?_) j
 subst e
 cases p
 exact EO ⟨H3,t,w⟩
theorem x4:(sizeLine:Nat) < 2 ^ 63:=by rw[GR];decide
theorem aH0:OpR X (binaryOp .Add) (λx y H Q=>∃ i j,x=.str i/\y=.str j/\i.length+j.length<=sizeLine/\Q (.str (i++j)) H):=by
 intro a5 s σ H x y v u Q I d c h
 obtain⟨i,j,rfl,rfl,a,q⟩:=h
 obtain⟨t,rfl⟩:=d
 obtain⟨b,rfl⟩:=c
 exact add_str (λb e=>⟨.str (i++j),H,I.tok _,⟨_,rfl⟩,q⟩) a
theorem x5{x:V}{us:List V9}(r:cI [x] us):∃ u,us=[u]/\bO x u:=by
 cases r with
 | cons r1 r2=>cases r2;exact⟨_,rfl,r1⟩
theorem rK{x y:V}{us:List V9}(r:cI [x,y] us):∃ u w',us=[u,w']/\bO x u/\bO y w':=by
 cases r with
 | cons r1 r2=>
  cases r2 with
  | cons r3 r4=>cases r4;exact⟨_,_,rfl,r1,r3⟩
theorem aJQ(b:X.calm=true):j9 X (.builtin "max") (λxs H Q=>∃ i j,xs=[.int i,.int j]/\Q (.int (if j > i then j else i)) H):=by
 intro a5 s σ H xs us Q I r h
 obtain⟨i,j,rfl,q⟩:=h
 obtain⟨u,e,rfl,⟨t,rfl⟩,⟨d,rfl⟩⟩:=rK r
 refine max_two_ints (I.ok.hd b) λh' c k=>⟨_,H,I.kept k,?_,q⟩
 by_cases a:j > i
 · rw [AD a, AD a]; exact⟨_, rfl⟩
 · rw [AE a, AE a]; exact⟨_, rfl⟩
theorem s9(b:X.calm=true):j9 X (.builtin "min") (λxs H Q=>∃ i j,xs=[.int i,.int j]/\Q (.int (if j < i then j else i)) H):=by
 intro a5 s σ H xs us Q I r h
 obtain⟨i,j,rfl,q⟩:=h
 obtain⟨u,e,rfl,⟨t,rfl⟩,⟨d,rfl⟩⟩:=rK r
 refine min_two_ints (I.ok.hd b) λh' c k=>⟨_,H,I.kept k,?_,q⟩
 by_cases a:j < i
 · rw [AD a, AD a]; exact⟨_, rfl⟩
 · rw [AE a, AE a]; exact⟨_, rfl⟩
theorem jT:j9 X (.type "int") (λxs H Q=>(∃ i,xs=[.int i]/\Q (.int i) H)\/∃ k,xs=[.bl k]/\Q (.int (if k then 1 else 0)) H):=by
 intro a5 s σ H xs us Q I r h
 rcases h with ⟨i,rfl,q⟩|⟨k,rfl,q⟩
 .obtain ⟨u,rfl,t,rfl⟩:=x5 r
  exact call_int_int ⟨.int i,H,I,⟨_,rfl⟩,q⟩
 .obtain ⟨u,rfl,r1⟩:=x5 r
  cases r1
  exact call_int_bool ⟨.int (if k then 1 else 0),H,I.tok _,⟨_,rfl⟩,q⟩
def aSH(K:Frag)(x:V)(H:Hp)(n:Nat):Prop:=
 match x with
 | .str y=>y.length<=sizeLine/\n=y.length
 | .byt y=>y.size<=sizeLine/\n=y.size
 | .ref p=>(∃ xs,SqL K H p xs/\n=xs.length)\/∃ xs,SqT K H p xs/\n=xs.length
 | _=>False
theorem cK:j9 X (.builtin "len") (λxs H Q=>∃ x n,xs=[x]/\aSH X.K x H n/\Q (.int n) H):=by
 intro a5 s σ H xs us Q I r h
 obtain⟨x,n,rfl,e,q⟩:=h
 obtain⟨u,rfl,i⟩:=x5 r
 have m:=x4
 have l:sizeLine=16777216:=GR
 cases x with
 | str y=>
  obtain⟨t,rfl⟩:=i
  obtain⟨k,b⟩:y.length<=sizeLine/\n=y.length:=e
  subst b
  exact len_str (by omega) ⟨.int _,H,I.tok _,⟨_,rfl⟩,q⟩
 | byt y=>
  obtain⟨t,rfl⟩:=i
  obtain⟨k,b⟩:y.size<=sizeLine/\n=y.size:=e
  subst b
  exact PySem.W.len_bytes (by omega) ⟨.int _,H,I.tok _,⟨_,rfl⟩,q⟩
 | ref p=>
  cases i
  have b:(∃ xs,SqL X.K H p xs/\n=xs.length)\/∃ xs,SqT X.K H p xs/\n=xs.length:=e
  rcases b with ⟨xs,c,b⟩|⟨xs,c,b⟩
  .subst b
   obtain⟨g,d,f,j⟩:=I.list c
   have a:=d.length
   exact Calls.call_len_list f.isList (by simp only[BK];omega) ⟨.int xs.length,H,I.tok _,⟨_,by simp only[BK];rw[a]⟩,q⟩
  .subst b
   obtain⟨g,d,f,j⟩:=I.tuple c
   have a:=d.length
   exact len_tuple f (by simp only[BK];omega) ⟨.int xs.length,H,I.tok _,⟨_,by simp only[BK];rw[a]⟩,q⟩
 | _=>exact(show False from e).elim
end
structure ObjM(h:Heap)(x dx C:Az)(mA:Str->Option V9):Prop where
 obj:h.get? x=some (PySem.W.instObj C dx)
 ns:h.Ns1 dx mA
 ne:dx≠x
theorem tD{h:H9}{dx:Az}{mA:Str->O9 V9}(n:h.Ns1 dx mA):∃ od,h.get? dx=some od/\∀ name,PySem.W.lookIn name od=some (mA name):=by
 obtain⟨o,es,k,c,g,f,_,i⟩:=n
 refine⟨o,c,λname=>?_⟩
 have e:=i name
 unfold nsFind findBy at e
 rw[<-Array.find?_toList]at e
 unfold PySem.W.lookIn
 rw[g]
 dsimp only
 split
 .rename_i y q
  rw[q]at e
  exact DF some e
 .rename_i q
  rw[q]at e
  have a:es.toList.any (·.refKey)=false:=by
   rw[List.any_eq_false]
   intro y j
   obtain⟨z,t,b⟩:=f y (Array.mem_toList_iff.mp j)
   simp[DictEntry.refKey,b]
  have d:¬ es.toList.any (·.refKey)=true:=by rw[a];exact CG
  rw[AE d]
  exact DF some e
theorem ObjM.look{h:H9}{x dx C:Az}{mA:Str->O9 V9}(I:ObjM h x dx C mA):∃ od,PySem.W.InstAt h x (PySem.W.instObj C dx) C (some od)/\∀ name,PySem.W.lookIn name od=some (mA name):=
 let ⟨od,ho,hl⟩:=tD I.ns
 ⟨od,⟨I.obj,rfl,rfl,ho⟩,hl⟩
section
variable{prog:P9}{w:W9}{A:U9}{E:V9->S9->Prop}{s:S9}{K:Frag}{x dx C f:Az}{mA:Str->O9 V9}{name:Str}{v:V9}
end
theorem pV.some_of{v:V}{o:O9 V9}(r:pV (some v) o):∃ u,o=some u/\bO v u:=by
 cases o with
 | none=>exact(show False from r).elim
 | some u=>exact⟨u,rfl,r⟩
section
variable{P:P9}{w:W9}{H H':Hp}{h h':H9}{a C dx:Az}{fs fs':List (Str×V)}
theorem aPB(hok:HOk P w H h)(e:H a=some (.ins C dx fs)):∃ mA,ObjM h a dx C mA/\(∀ f,pV (fs.lookup f) (mA f))/\PySem.Within mA (fs.map (·.1))/\fs.length<=1000/\H dx=some (.own a):=by
 obtain⟨d,z,c,b,mA,n,r,q⟩:=(show cR P w H h a (.ins C dx fs)from hok a _ e)
 exact⟨mA,⟨b,n,c⟩,r,q,z,d⟩
end
structure Cls(K:Frag)(C:Az):Prop where
 pg:PySem.W.plainGet K C Str.empty=true
 hd:PySem.W.hasDictIn K C=true
 po:PySem.W.plainOver K C=true
 sa:PySem.W.findIn K (.ref C) "__setattr__"=some (some (.builtin "object.__setattr__"))
theorem Cls.get{K:Frag}{C:Az}(c:Cls K C)(f:Str):PySem.W.plainGet K C f=true:=c.pg
section
variable{X:Cx}{a5:List (Az×Obj)}{σ:St}{H:Hp}{s:S9}{a C dx:Az}{fs:List (Str×V)}{f:Str}{v:V}{A:U9}{E:V9->S9->Prop}
end
section
variable{X:Cx}{a5:List (Az×Obj)}{σ:St}{H:Hp}{s:S9}{A:U9}{E:V9->S9->Prop}{Q:V9->S9->Prop}{c:V9}{b:Bool}
inductive TyOf(K:Frag)(H:Hp):V->V9->Prop where
 | non:TyOf K H .non (.type "NoneType")
 | bl (x:Bool):TyOf K H (.bl x) (.type "bool")
 | int (i:Int):TyOf K H (.int i) (.type "int")
 | str (x:Str):TyOf K H (.str x) (.type "str")
 | flt (x:UInt64):TyOf K H (.flt x) (.type "float")
 | lst {a:Az} {xs:List V} (e:H a=some (.lst xs)):TyOf K H (.ref a) (.type "list")
 | frz {a:Az} {o:Obj} {xs:List V} (e:H a=some (.frz o (.lst xs))):TyOf K H (.ref a) (.type "list")
 | tup {a:Az} {xs:List V} (e:H a=some (.tup xs)):TyOf K H (.ref a) (.type "tuple")
 | dK {a:Az} {a6:List (Key×V)} (e:H a=some (.dK a6)):TyOf K H (.ref a) (.type "dict")
 | dT {a:Az} {a6:List (List Key×V)} (e:H a=some (.dT a6)):TyOf K H (.ref a) (.type "dict")
 | ins {a C dx:Az} {fs:List (Str×V)} (e:H a=some (.ins C dx fs)) (cl:Cls K C) (ha:PySem.W.findIn K (.ref C) "__class__"=some (some (.builtin "object.__class__")))
  (hn:PySem.W.specialIn K (.builtin "object.__class__") "__get__"=some (some (.builtin "getset_descriptor.__get__"))) (htk:PySem.W.takesIn K (.builtin "object.__class__")=some true)
  (hm:PySem.W.mroIn K C (.type "object")=some true):TyOf K H (.ref a) (.ref C)
theorem aJR{x:V}{u t:V9}(I:Inv X a5 σ H s)(d:bO x u)(ty:TyOf X.K H x t)(e:PySem.W.kitOne X.K t c=some b)(h:∀ tk,Q (.bool b) {s with toks:=tk}) :
  wpAny (model X.prog X.w) A (call (.builtin "isinstance") [u,c]) Q E s:=by
 cases ty with
 | non=>cases(show u=Value.none from d);exact B6 PySem.W.kitx_none I.kIn True.intro e (λz=>nomatch z) h
 | bl y=>cases(show u=Value.bool y from d);exact B6 PySem.W.kitx_bool I.kIn True.intro e (λz=>nomatch z) h
 | int i=>obtain⟨t,q⟩:=(show ∃ t,u=Value.int i t from d);cases q;exact B6 PySem.W.kitx_int I.kIn True.intro e (λz=>nomatch z) h
 | str y=>obtain⟨t,q⟩:=(show ∃ t,u=Value.str y t from d);cases q;exact B6 PySem.W.kitx_str I.kIn True.intro e (λz=>nomatch z) h
 | flt y=>obtain⟨t,q⟩:=(show ∃ t,u=Value.float y t from d);cases q;exact B6 PySem.W.kitx_float I.kIn True.intro e (λz=>nomatch z) h
 | @lst a xs ea=>
  cases(show u=Value.ref a from d)
  obtain⟨_,_,n,_,h1⟩:=(show cR X.prog X.w H s.heap a (.lst xs)from I.hok a _ ea)
  exact B6 FV I.kIn ⟨_,h1,rfl⟩ e (λz=>nomatch z) h
 | @frz a ob xs ea=>
  cases(show u=Value.ref a from d)
  obtain⟨_,_,_,n,_,h1⟩:=(show cR X.prog X.w H s.heap a (.frz ob (.lst xs))from I.hok a _ ea)
  exact B6 FV I.kIn ⟨_,h1,rfl⟩ e (λz=>nomatch z) h
 | @tup a xs ea=>
  cases(show u=Value.ref a from d)
  obtain⟨_,_,_,p⟩:=(show cR X.prog X.w H s.heap a (.tup xs)from I.hok a _ ea)
  obtain⟨o,h1,h2,_⟩:=p
  exact B6 PySem.W.kitx_tuple I.kIn ⟨o,h1,h2.1⟩ e (λz=>nomatch z) h
 | @dK a a6 ea=>
  cases(show u=Value.ref a from d)
  obtain⟨_,_,vs,_,p⟩:=(show cR X.prog X.w H s.heap a (.dK a6)from I.hok a _ ea)
  obtain⟨o,es,f,h1,h2,_⟩:=p
  exact B6 PySem.W.kitx_dict I.kIn ⟨o,h1,h2.1⟩ e (λz=>nomatch z) h
 | @dT a a6 ea=>
  cases(show u=Value.ref a from d)
  obtain⟨_,_,xs,_,o,es,f,h1,h2,_⟩:=(show cR X.prog X.w H s.heap a (.dT a6)from I.hok a _ ea)
  exact B6 PySem.W.kitx_dict I.kIn ⟨o,h1,h2.1⟩ e (λz=>nomatch z) h
 | @ins a C dx fs ea cl ha hn htk hm=>
  cases(show u=Value.ref a from d)
  obtain⟨mA,O,_⟩:=aPB I.hok ea
  obtain⟨od,J,_⟩:=O.look
  exact B6 (PySem.W.kitx_own (cl.get _) cl.hd ha hn htk hm) I.kIn J e (λz=>nomatch z) h
end
structure Room(k:Nat)(A:Around):Prop where
 hd:A.handled=none
 dp:A.depth+3 * k+5 < recursionLimit
 un:A.units+16 * k+200 < cLine
theorem Room.mono{j k:Nat}{A:U9}(r:Room k A)(h:j<=k):Room j A:=⟨r.hd,by have:=r.dp;omega,by have:=r.un;omega⟩
theorem Room.deeper{k:Nat}{A:U9}(r:Room (k+1) A)(env:Env):Room k (A.deeper env):=
 ⟨r.hd,by have:=r.dp;show A.depth+1+3 * k+5 < _;omega,by have:=r.un;show A.units+3+16 * k+200 < _;omega⟩
theorem Room.depth{k:Nat}{A:U9}(r:Room k A):A.depth < recursionLimit:=by have:=r.dp;omega
theorem Room.units{k:Nat}{A:U9}(r:Room k A):A.units+64 < cLine:=by have:=r.un;omega
def jN:TA:=λ_ H Q=>Q [] H
def eK(ta:TE)(tr:TA):TA:=λσ H Q=>ta σ H λx H1=>tr σ H1 λxs H2=>Q (x::xs) H2
section
variable{X:Cx}{e:E1}{es:List E1}{te:TE}{t:TA}{pos:Pos}
theorem aP:PA X [] jN:=λ_ _ _ _ H Q I h=>Calls.spliced_nil ⟨[],H,I,.nil,h⟩
theorem aJ(i:PE X e te)(d:PA X es t)(f:starEach (e::es) X.env=(false,eval e X.env)::starEach es X.env:=by rfl):PA X (e::es) (eK te t):=by
 intro pos a5 s σ H Q I h
 rw[f]
 show wpAny _ _ (spliced ((false,eval e X.env)::backTo pos (starEach es X.env))) _ _ s
 refine Calls.spliced_cons (thn (i a5 s σ H _ I h) λu s1 a=>?_)
 obtain⟨x,H1,c,r1,b⟩:=a
 exact thn (d pos a5 s1 σ H1 _ c b) λus k ⟨xs,H2,j,r2,g⟩=>⟨x::xs,H2,j,.cons r1 r2,g⟩
def aSI(t:TA):TE:=λσ H Q=>t σ H λxs H1=>xs.length<=sizeLine/\∀ p,H1 p=none->Q (.ref p) (upd H1 p (.tup xs))
def aV7(t:TA):TE:=λσ H Q=>t σ H λxs H1=>xs.length<=sizeLine/\∀ p,H1 p=none->Q (.ref p) (upd H1 p (.lst xs))
theorem aC7{x1}(h:PA X es t):PE X (.Tuple es x1 pos) (aSI t):=by
 intro a5 s σ H Q I c
 refine wpAny_Tuple_spliced (thn (h pos a5 s σ H _ I c) λus s1 ⟨xs,H1,a,r,z,q⟩=>⟨by rw[<-r.length];exact z,?_⟩)
 have d:H1 s1.heap.objs.size=none:=a.hok.fresh (AQ _)
 refine⟨.ref s1.heap.objs.size,upd H1 s1.heap.objs.size (.tup xs),a.laid (t':=s1.toks) (λb u e=>AC _ e) (AQ _) ?_,rfl,q _ d⟩
 exact⟨z,us,r,⟨_,A9 _ rfl,⟨rfl,rfl⟩,_,rfl⟩⟩
theorem aSJ(h:PA X es t):PE X (.List es pos) (aV7 t):=by
 intro a5 s σ H Q I c
 refine wpAny_List_spliced (thn (h pos a5 s σ H _ I c) λus s1 ⟨xs,H1,a,r,z,q⟩=>⟨by rw[<-r.length];exact z,?_⟩)
 have d:H1 s1.heap.objs.size=none:=a.hok.fresh (AQ _)
 refine⟨.ref s1.heap.objs.size,upd H1 s1.heap.objs.size (.lst xs),a.laid (t':=s1.toks) (λb u e=>AC _ e) (AQ _) ?_,rfl,q _ d⟩
 exact⟨z,us,0,r,A9 _ rfl⟩
end
abbrev Sp:=List V->Hp->VK->XK->Prop
abbrev CXT:=List Env->Hp->S9->XK->V9->S9->Prop
structure Env0(P:Program)(w:World)(K:Frag)(mg:Str->Option V9)(base:Heap)(A:Around)(outer:List Env)(s:S9)(H:Hp):Prop where
 frames:A.frames=some outer
 mod:Mod K mg base
 bs:∀ b o,base.get? b=some o->s.heap.get? b=some o/\H b=none
 bsz:base.objs.size<=s.heap.objs.size
 funs:s.heap.FunFrames base outer
 frf:∀ b∈frs outer,H b=none
 hok:HOk P w H s.heap
 bare:AllBare s.gens
def CE(outer:List Env)(P:P9)(w:W9)(H:Hp)(s:S9)(Q:VK)(u:V9)(s':S9):Prop:=
 ∃ v H',s'.os=s.os/\AllBare s'.gens/\Un (frs outer) [] H H' s.heap s'.heap/\HOk P w H' s'.heap/\bO v u/\Q v H'
def CR(CX:CXT)(outer:List Env)(P:P9)(w:W9)(H:Hp)(s:S9)(Q:VK)(E:XK)(r:Result)(s':S9):Prop:=
 match r with
 | .ok (.ret u)=>CE outer P w H s Q u s'
 | .ok _=>False
 | .error e=>CX outer H s E e s'
structure FnOk(P:Program)(w:World)(K:Frag)(mg:Str->Option V9)(base:Heap)(CX:CXT)(k:Nat)(f:Az)(fd:FuncData)(ps:List Str)(sp:Sp):Prop where
 len:∀ vs H Q E,sp vs H Q E->vs.length=ps.length
 run:∀ (A:Around) (outer:List Env) (s:S9) (H:Hp) (args:Args) (us:List V9) (vs:List V) (Q:VK) (E:XK),Room k A->Env0 P w K mg base A outer s H->BindsTo s fd args (ps.zip us)->cI vs us->sp vs H Q E->
  codeAny (model P w) A (.call (.ref f) args) (CR CX outer P w H s Q E) s
theorem FnOk.imp{P:P9}{w:W9}{K:Frag}{mg:Str->O9 V9}{base:H9}{CX:CXT}{k:Nat}{f:Az}{fd:FuncData}{ps:List Str}{sp a:Sp}(F:FnOk P w K mg base CX k f fd ps sp)
  (h:∀ vs H Q E,a vs H Q E->sp vs H Q E):FnOk P w K mg base CX k f fd ps a:=
 ⟨λvs H Q E q=>F.len vs H Q E (h _ _ _ _ q),λA outer s H args us vs Q E b e g d c=>F.run A outer s H args us vs Q E b e g d (h _ _ _ _ c)⟩
section
variable{X:Cx}{a5:List (Az×Obj)}{σ:St}{H:Hp}{s s':S9}
theorem Inv.env0(I:Inv X a5 σ H s):Env0 X.prog X.w X.K X.mg X.base X.A X.stack s H:=
 ⟨I.ok.frames,I.ok.mod,I.bs,BR I.ok.bsz I.sz,I.stack,I.stkFree,I.hok,I.bare⟩
theorem Inv.after{Q:VK}{u:V9}(I:Inv X a5 σ H s)(h:CE X.stack X.prog X.w H s Q u s'):EP X a5 σ Q u s':=by
 obtain⟨v,H',os,a,un,e,r,q⟩:=h
 obtain⟨f,g,d,t,c⟩:=s'
 obtain rfl:c=s.os:=os
 exact⟨v,H',I.call (h':=f) (g':=g) (d':=d) (t':=t) (ch:=[]) un e a (λb z=>absurd z (by simp)),r,q⟩
end
def x6(sp:Sp)(dvs:List V)(E:XK)(t:TA):TE:=λσ H Q=>t σ H λvs H1=>sp (vs++dvs) H1 Q E
def kW(K:Frag)(fd:FuncData)(ps:List Str)(ds:List V9):Prop:=
 ∀ (s:S9) (us:List V9),K.In s.heap->(us++ds).length=ps.length->BindsTo s fd ⟨us,[]⟩ (ps.zip (us++ds))
theorem kW.all{K:Frag}{fd:FuncData}{ps:List Str}(h:∀ us:List V9,us.length=ps.length->bindArgs fd ⟨us,[]⟩=pure (ps.zip us)):kW K fd ps []:=λs us _ a=>by
 rw[CT]at a ⊢
 exact .of_eq (h us a)
def oJ(CX:CXT)(X:Cx)(E:XK):Prop:=∀ (a5:List (Az×Obj)) (σ:St) (H:Hp) (s:S9) (e:V9) (s':S9),Inv X a5 σ H s->CX X.stack H s E e s'->X.xe e s'
section
variable{X:Cx}{CX:CXT}{k:Nat}{f C:Az}{fd:FuncData}{ps:List Str}{sp:Sp}{dvs:List V}{ds:List V9}{E:XK}{x m:Str}{p pos apos:Pos}{e o:E1}{es:List E1}{ta:TE}{t:TA}
theorem aJS{a5:List (Az×Obj)}{σ:St}{H:Hp}{s:S9}{Q:VK}{us:List V9}{vs:List V}(F:FnOk X.prog X.w X.K X.mg X.base CX k f fd ps sp)(c:Room k X.A)(g:kW X.K fd ps ds)(d:cI dvs ds)(hx:oJ CX X E)
  (I:Inv X a5 σ H s) (r:cI vs us) (h:sp (vs++dvs) H Q E):wpAny (model X.prog X.w) X.A (call (.ref f) us) (EP X a5 σ Q) X.xe s:=by
 have r2:cI (vs++dvs) (us++ds):=r.append d
 have b:(us++ds).length=ps.length:=by rw[<-r2.length];exact F.len _ _ _ _ h
 refine FY (EH (F.run X.A X.stack s H ⟨us,[]⟩ (us++ds) (vs++dvs) Q E c I.env0 (g s us I.kIn b) r2 h) λr s' a=>?_)
 cases r with
 | error e=>exact hx a5 σ H s e s' I a
 | ok fl=>
  cases fl with
  | ret u=>exact I.after a
  | next=>exact False.elim a
  | brk=>exact False.elim a
  | cont=>exact False.elim a
theorem aPC(F:FnOk X.prog X.w X.K X.mg X.base CX k f fd ps sp)(c:Room k X.A)(d:Gl X x)(l:X.mg x=some (.ref f))(i:PySem.W.keepIn X.K (.ref f)=true)(m:kW X.K fd ps ds)(j:cI dvs ds)(hx:oJ CX X E)
  (g:PA X (e::es) t) (a:(x == ("__debug__":Str))=false:=by decide) (he:starEach (e::es) X.env=(false,eval e X.env)::starEach es X.env:=by rfl) (hpl:(backTo pos (starEach es X.env)).any (·.1)=false:=by rfl) :
  PE X (.Call (.Name x p) (e::es) [] pos) (x6 sp dvs E t):=by
 intro a5 s σ H Q I h
 refine CQ (nX I d l ?_ a)
 refine DO (h₀:=X.base) I.ok.mod.kin i (thn (g pos a5 s σ H _ I h) λus s1 ⟨vs,H1,b,r,q⟩=>⟨b.kIn,?_⟩) he hpl
 exact aJS F c m j hx b r q
end
structure FnScope(N P:List Str)(sc:Scope):Prop where
 kind:sc.kind=.function
 co:sc.isCoroutine=false
 gen:sc.isGenerator=false
 nd:N.Nodup
 pre:N.take P.length=P
 par:∀ x∈P,sc.names.lookup x=some .local\/sc.names.lookup x=some .cell
 nofree:∀ y∈sc.names,y.2≠.free
theorem aBS{a:Str->O9 NameKind}{x:Str}:∀ {binds:List (Str×V9)} {m:Str->O9 V9},(∀ v,(x,v)∉binds)->bindL a binds m x=m x
 | [],_,_=>rfl
 | (n,v)::r,m,h=>by
  unfold bindL
  rw[aBS λw hw=>h w (AL _ hw)]
  split
  .have:x≠n:=by rintro rfl;exact h v AV
   simp[this]
  .rfl
theorem aBT{a:Str->O9 NameKind}{x:Str}:∀ {binds:List (Str×V9)} {m:Str->O9 V9},(∀ v,(x,v)∉binds)->bindC a binds m x=m x
 | [],_,_=>rfl
 | (n,v)::r,m,h=>by
  unfold bindC
  rw[aBT λw hw=>h w (AL _ hw)]
  split
  .rfl
  .have:x≠n:=by rintro rfl;exact h v AV
   simp[this]
theorem tE{a:Str->O9 NameKind}{x:Str}{v:V9}:∀ {P:List Str} {vs:List V9} {i:Nat} {m:Str->O9 V9},P.Nodup->P[i]? = some x->vs[i]? = some v->a x=some .local->
  bindL a (P.zip vs) m x=some v
 | [],_,_,_,_,h,_,_=>by simp at h
 | _::_,[],_,_,_,_,h,_=>by simp at h
 | p::P,w::vs,0,m,nd,h1,h2,hk=>by
  simp at h1 h2;subst h1;subst h2
  show bindL a ((p,w)::P.zip vs) m p=_
  unfold bindL
  rw[aBS λv hv=>(DP.mp nd).1 (EB hv).1,AD hk]
  simp
 | p::P,w::vs,i+1,m,nd,h1,h2,hk=>by
  show bindL a ((p,w)::P.zip vs) m x=_
  unfold bindL
  exact tE (i:=i) (DP.mp nd).2 (by simpa using h1) (by simpa using h2) hk
theorem tF{a:Str->O9 NameKind}{x:Str}{v:V9}:∀ {P:List Str} {vs:List V9} {i:Nat} {m:Str->O9 V9},P.Nodup->P[i]? = some x->vs[i]? = some v->a x≠some .local->
  bindC a (P.zip vs) m x=some v
 | [],_,_,_,_,h,_,_=>by simp at h
 | _::_,[],_,_,_,_,h,_=>by simp at h
 | p::P,w::vs,0,m,nd,h1,h2,hk=>by
  simp at h1 h2;subst h1;subst h2
  show bindC a ((p,w)::P.zip vs) m p=_
  unfold bindC
  rw[aBT λv hv=>(DP.mp nd).1 (EB hv).1,AE hk]
  simp
 | p::P,w::vs,i+1,m,nd,h1,h2,hk=>by
  show bindC a ((p,w)::P.zip vs) m x=_
  unfold bindC
  exact tF (i:=i) (DP.mp nd).2 (by simpa using h1) (by simpa using h2) hk
noncomputable def start(N:List Str)(vs:List V):St:=vs.map some++List.replicate (N.length - vs.length) none
noncomputable def cxOf(CX:CXT)(P:P9)(w:W9)(K:Frag)(mg:Str->O9 V9)(base:H9)(N:List Str)(qual:Str)(scope:Scope)(f:Az)(cd:V9)(A:U9)(outer:List Env)(s:S9)(H:Hp)(E:XK):Cx where
 prog:=P
 w:=w
 K:=K
 mg:=mg
 base:=base
 A:=A.deeper (envOfC qual scope s.heap.objs.size f cd)
 N:=N
 s₀:=s
 H₀:=H
 env:=envOfC qual scope s.heap.objs.size f cd
 outer:=outer
 stack:=envOfC qual scope s.heap.objs.size f cd::outer
 ex:=[]
 calm:=true
 fn:=λ_=>true
 pn:=[]
 xe:=λe s'=>wpAny (model P w) (A.deeper (envOfC qual scope s.heap.objs.size f cd)) (leaving (envOfC qual scope s.heap.objs.size f cd) e) (λ_ s''=>CX outer H s E e s'') (λe' s''=>CX outer H s E e' s'') s'
theorem oK{a:Scope}{n:Nat}{x:Str}(h:a.names.lookup x=some .cell):∃ c,(cellsFrom n a.names []).lookup x=some c:=by
 have q:=ES a.names n [] (.inl h)
 exact F9.mp q
theorem aBU{CX:CXT}{P:P9}{w:W9}{K:Frag}{mg:Str->O9 V9}{base:H9}{N ps:List Str}{qual:Str}{scope:Scope}{f:Az}{cd:V9}{A:U9}{outer:List Env}{s s1:S9}{H:Hp}{E:XK}{us:List V9}{vs:List V}
  (S:FnScope N ps scope) (C:A.handled=none) (e0:Env0 P w K mg base A outer s H) (G:vs.length=ps.length) (r:cI vs us)
  (x:InCallC s s.heap.objs.size (bindL (envOfC qual scope s.heap.objs.size f cd).kindOf (ps.zip us) λ_=>none) (cellsFrom (s.heap.objs.size+1) scope.names []) (bindC (envOfC qual scope s.heap.objs.size f cd).kindOf (ps.zip us) λ_=>none) s1) :
  Inv (cxOf CX P w K mg base N qual scope f cd A outer s H E) [] (start N vs) H s1:=by
 have D:ps.length<=N.length:=by have:=DF List.length S.pre;rw[CL]at this;omega
 obtain⟨h1,F,rfl,o⟩:=x.done
 have d:∀ b:Az,b∉(cxOf CX P w K mg base N qual scope f cd A outer s H E).ex:=λb z=>absurd (show b∈([]:List Az)from z) (by simp)
 refine⟨⟨e0.mod,S.kind,rfl,rfl,AQ _,λy z c h1 h2=>?_,λy g=>?_,λy c _ h=>?_,λ_=>C,Around.frames_deeper e0.frames,.inr ⟨rfl,rfl⟩,λb z=>absurd z (d b),e0.bs,e0.bsz,λb _ _=>d b,λb z=>absurd z (d b),e0.funs,e0.frf⟩,
  rfl,e0.bare,Un.kept o,⟨_,x.toInCall.ns,λi y v h1 h2 I=>?_⟩,λy c h=>⟨_,x.cell y c h⟩,e0.hok.fresh (AQ _),λy c h=>?_,λp j=>absurd (show p∈([]:List (Az×Obj))from j) (by simp),e0.hok.kept o,?_⟩
 .exact name_of_addr x.apart (BG h1) (BG h2)
 .have g:scope.names.lookup y=some .cell\/scope.names.lookup y=some .free:=g
  rcases g with g|g
  .exact oK g
  .exact absurd rfl (S.nofree _ (BG g))
 .exact DK (x.above y c (BG h))
 .have hi:i < vs.length:=by
   unfold start at h2
   by_cases hi:i < vs.length
   .exact hi
   .rw[B1 (by simpa using hi)]at h2
    rw[EL]at h2
    split at h2<;>cases h2
  have t:vs[i]? = some v:=by
   unfold start at h2
   rw[CC (by simpa using hi),AG]at h2
   cases e:vs[i]? with
   | none=>rw[e]at h2;cases h2
   | some a=>rw[e]at h2;cases h2;rfl
  obtain⟨u,m,B⟩:=r.get t
  have j:ps[i]? = some y:=by
   rw[<-S.pre,EI (by omega)];exact h1
  have l:ps.Nodup:=by rw[<-S.pre];exact S.nd.sublist (List.take_sublist _ _)
  refine⟨u,B,?_⟩
  rcases S.par y (AH j)with k|k
  .exact .inl ⟨k,tE l j m k⟩
  .obtain ⟨c,e⟩:=oK (n:=s.heap.objs.size+1) k
   refine .inr ⟨.inl k,c,e,?_⟩
   have q:=x.cell y c e
   rw[tF l j m (by show scope.names.lookup y≠_;rw[k];decide)]at q
   exact q
 .exact e0.hok.fresh (DK (x.above y c (BG h)))
 .unfold start
  show _=N.length
  rw[AS,AA,BQ]
  omega
theorem aH1{CX:CXT}{P:P9}{w:W9}{K:Frag}{mg:Str->O9 V9}{base:H9}{k:Nat}{f:Az}{name qual:Str}{params:Arguments}{body:List Stmt}{scope:Scope}{G kV doc pm a ct L:V9}{F od:O9 Az}
  {C:Array (O9 V9)} {N ps:List Str} {sp:Sp} (Z:K.lookup f=some ⟨L,od,.func (PySem.W.fnOf name qual params body scope G kV doc pm F a ct),C⟩) (B:PySem.W.codeIn K a qual=true) (S:FnScope N ps scope)
  (len:∀ vs H Q E,sp vs H Q E->vs.length=ps.length)
  (d:∀ (A:U9) (outer:List Env) (s:S9) (H:Hp) (vs:List V) (Q:VK) (E:XK),Room k (A.deeper (envOfC qual scope s.heap.objs.size f a))->sp vs H Q E->
   ∃ t,PSs (cxOf CX P w K mg base N qual scope f a A outer s H E) body t/\t {nx:=λ_ H'=>Q .non H',rt:=Q} (start N vs) H) :
  FnOk P w K mg base CX (k+1) f (PySem.W.fnOf name qual params body scope G kV doc pm F a ct) ps sp:=by
 refine⟨len,λA outer s H args us vs Q E p e0 U r i=>?_⟩
 have X:=len _ _ _ _ i
 have D:K.In s.heap:=e0.mod.kin.keeps λb o e=>(e0.bs b o e).1
 have z:s.heap.NoLimit:=e0.mod.nolimit.keeps λb o e=>(e0.bs b o e).1
 have g:∀ y∈ps.zip us,scope.names.lookup y.1=some .local\/(scope.names.lookup y.1=some .cell/\((cellsFrom (s.heap.objs.size+1) scope.names []).lookup y.1).isSome=true):=λl R=>by
  obtain⟨n,v⟩:=l
  rcases S.par n (EB R).1 with q|q
  .exact .inl q
  .exact .inr ⟨q,ES _ _ _ (.inl q)⟩
 refine EX p.depth (D _ _ Z) rfl S.co S.gen rfl (PySem.W.codeRec_of D B) (U _ _ _ _ ?_)
 refine FQ S.kind g λenv M s1 x=>?_
 subst M
 refine⟨z.keeps x.toInCall.keep,codeAny_func ?_⟩
 obtain⟨t,T,Y⟩:=d A outer s H vs Q E (p.deeper _) i
 have I:Inv (cxOf CX P w K mg base N qual scope f a A outer s H E) [] (start N vs) H s1:=aBU S p.hd e0 X r x
 refine BO (T [] s1 (start N vs) H _ I Y) (λO s' h=>?_) λe s' h=>h
 have j:∀ {c:St} {H':Hp} {v:V} {u:V9},Inv (cxOf CX P w K mg base N qual scope f a A outer s H E) [] c H' s'->bO v u->Q v H'->CE outer P w H s Q u s':=
  λ{c H' v u} J m q=>⟨v,H',J.os,J.bare,J.base,J.hok,m,q⟩
 cases O with
 | ret u=>
  obtain⟨v,c,H',J,m,q⟩:=h
  exact j J m q
 | next=>
  obtain⟨c,H',J,q⟩:=h
  exact j (v:=V.non) (u:=Value.none) J rfl q
 | brk=>
  obtain⟨_,_,_,q⟩:=h
  exact False.elim q
 | cont=>
  obtain⟨_,_,_,q⟩:=h
  exact False.elim q
section
variable{X:Cx}{x:Str}{p pos:Pos}{e:E1}{es:List E1}{t:TA}{id T:String}{r:List V->Hp->VK->Prop}
def tCB(r:List V->Hp->VK->Prop)(t:TA):TE:=λσ H Q=>t σ H λvs H1=>r vs H1 Q
theorem bM(b:j9 X (.builtin id) r)(f:Gl X x)(j:X.mg x=none)(g:bootBuiltins x=some (.builtin id))(i:PA X (e::es) t)(c:x≠"__name__":=by decide)(hdb:(x == ("__debug__":Str))=false:=by decide)
  (he:starEach (e::es) X.env=(false,eval e X.env)::starEach es X.env:=by rfl) (hpl:(backTo pos (starEach es X.env)).any (·.1)=false:=by rfl):PE X (.Call (.Name x p) (e::es) [] pos) (tCB r t):=by
 intro a5 s σ H Q I h
 refine CQ (p8 I f j g ?_ c hdb)
 exact PyProof.Rows.callWith_builtin1 (thn (i pos a5 s σ H _ I h) λus s1 ⟨vs,H1,d,r1,a⟩=>b a5 s1 σ H1 vs us Q d r1 a) he hpl
theorem bP(b:j9 X (.type T) r)(f:Gl X x)(j:X.mg x=none)(g:bootBuiltins x=some (.type T))(i:PA X (e::es) t)(c:x≠"__name__":=by decide)(hdb:(x == ("__debug__":Str))=false:=by decide)
  (he:starEach (e::es) X.env=(false,eval e X.env)::starEach es X.env:=by rfl) (hpl:(backTo pos (starEach es X.env)).any (·.1)=false:=by rfl):PE X (.Call (.Name x p) (e::es) [] pos) (tCB r t):=by
 intro a5 s σ H Q I h
 refine CQ (p8 I f j g ?_ c hdb)
 exact C7 (thn (i pos a5 s σ H _ I h) λus s1 ⟨vs,H1,d,r1,a⟩=>b a5 s1 σ H1 vs us Q d r1 a) he hpl
end
end L2
namespace HT
open PyProof.Rows
section
open PySem.SeqAt
open PySem.AutoSeq1 (wpAny_loadPart')
open PySem.MeetsSeq PySem.MeetsSeq2 PySem.MeetsSeq3
end
section
variable{prog:P9}{w:W9}{A:U9}{E:V9->S9->Prop}{s:S9}
theorem aPD{t b:Az}{vs ws:List V9}{Q:V9->S9->Prop}(q:IsTup s.heap t vs.toArray)(r:IsTup s.heap b ws.toArray)(p:vs≠[])
  (h1:ws=[]->Q (.ref t) s) (h2:ws≠[]->Q (.ref s.heap.objs.size) {s with heap:=s.heap.push {cls:=.type "tuple",data:=.seq (vs++ws).toArray}})
  (hsz:vs.length+ws.length<=sizeLine):wpAny (model prog w) A (binaryOp .Add (.ref t) (.ref b)) Q E s:=by
 obtain⟨⟨cls,dd,data,sl⟩,i,k,n,l⟩:=id q
 obtain⟨⟨m,c,j,d⟩,a,g,o,f⟩:=id r
 simp only at k l g f
 subst k l g f
 have e:vs.toArray++ws.toArray=(vs++ws).toArray:=by simp
 by_cases h:ws=[]
 .exact concat_meets ⟨_,i,rfl⟩ ⟨_,a,rfl⟩ noFill_tuple_add seq_tuple_add GS GM (GA _ _)
   (tuple_addW1 t b vs.toArray ws.toArray n o dd c sl d (by simpa using p) (by simp[h])) ⟨i,a,h1 h⟩
 .refine concat_meets ⟨_,i,rfl⟩ ⟨_,a,rfl⟩ noFill_tuple_add seq_tuple_add GS GM (GA _ _)
   (tuple_addW2 t b vs.toArray ws.toArray n o dd c sl d (by simpa using p) (by simpa using h) (by rw[BK,BK];exact hsz)) ⟨i,a,?_⟩
  rw[e]
  exact h2 h
end
end HT
namespace L2
open PySem.Spec PyProof.Rows
abbrev TO:=St->Hp->(O9 Int->Hp->Prop)->Prop
def PO(X:Cx)(e:O9 E1)(t:TO):Prop:=
 ∀ (a5:List (Az×Obj)) (s:S9) (σ:St) (H:Hp) (Q:O9 Int->Hp->Prop),Inv X a5 σ H s->t σ H Q->
  wpAny (model X.prog X.w) X.A (evalPart e X.env) (λu s'=>∃ o H',Inv X a5 σ H' s'/\IsPart u o/\Q o H') X.xe s
section
variable{X:Cx}{e:E1}{te:TE}{lo hi:O9 E1}{tl th:TO}{pos p2:Pos}
def aU9(K:Frag):R2:=λx y H Q=>∃ a b xs ys,x=.ref a/\y=.ref b/\SqT K H a xs/\SqT K H b ys/\xs≠[]/\xs.length+ys.length<=sizeLine /\
 (ys=[]->Q (.ref a) H)/\(ys≠[]->∀ p,H p=none->Q (.ref p) (upd H p (.tup (xs++ys))))
theorem cI.nil_iff{xs:List V}{us:List V9}(r:cI xs us):us=[]↔xs=[]:=by
 cases r with
 | nil=>simp
 | cons _ _=>simp
theorem aPE:OpR X (binaryOp .Add) (aU9 X.K):=by
 intro a5 s σ H x y v u Q I n l h
 obtain⟨a,b,xs,ys,rfl,rfl,f,i,g,c,j,k⟩:=h
 cases n
 cases l
 obtain⟨m,r1,e,_⟩:=I.tuple f
 obtain⟨d,r2,p2,_⟩:=I.tuple i
 refine HT.aPD e p2 (λz=>g (r1.nil_iff.mp z)) (λz=>⟨.ref a,H,I,rfl,j (r2.nil_iff.mp z)⟩) (λz=>?_) (by rw[<-r1.length,<-r2.length];exact c)
 refine⟨.ref s.heap.objs.size,_,I.laid (t':=s.toks) (o:=.tup (xs++ys)) (λb p q=>AC _ q) (AQ _) ?_,rfl,k (λw=>z (r2.nil_iff.mpr w)) _ (I.hok.fresh (AQ _))⟩
 exact⟨by rw[AS];exact c,_,r1.append r2,nI.new _ _⟩
end
noncomputable def ixN(n:Nat)(i:Int):O9 Nat:=if 0<=i then(if i < n then some i.toNat else none)else if -(n:Int)<=i then some (i+n).toNat else none
noncomputable def atI{α:Type}(xs:List α)(i:Int):O9 α:=(ixN xs.length i).bind λj=>xs[j]?
theorem aPF{n:Nat}{i:Int}{j:Nat}(h:ixN n i=some j):seqIndex? i n=some j/\j < n /\ -(n:Int)<=i/\i < n:=by
 unfold ixN at h
 by_cases a:0<=i
 .rw[AD a]at h
  by_cases h1:i < n
  .rw[AD h1]at h
   have e:i.toNat=j:=B5 h
   exact⟨by rw[seqIndex_of a h1,e],by omega,by omega,h1⟩
  .rw[AE h1]at h;cases h
 .rw[AE a]at h
  by_cases h1 : -(n:Int)<=i
  .rw[AD h1]at h
   have e:(i+n).toNat=j:=B5 h
   exact⟨by rw[seqIndex_neg (by omega) h1,e],by omega,h1,by omega⟩
  .rw[AE h1]at h;cases h
theorem aAC{α:Type}{xs:List α}{i:Int}{v:α}(h:atI xs i=some v):∃ j,seqIndex? i xs.length=some j/\xs[j]? = some v/\j < xs.length /\ -(xs.length:Int)<=i/\i < xs.length:=by
 unfold atI at h
 cases e:ixN xs.length i with
 | none=>rw[e]at h;cases h
 | some j=>
  rw[e]at h
  obtain⟨h1,h2,a,b⟩:=aPF e
  exact⟨j,h1,h,h2,a,b⟩
theorem g8{α:Type}{xs:List α}{j:Nat}{v:α}(h:xs[j]? = some v):atI xs (j:Int)=some v:=by
 have a:j < xs.length:=(AU.mp h).1
 have e:ixN xs.length (j:Int)=some j:=by
  unfold ixN
  rw[AD (by omega),AD (by omega)];simp
 unfold atI;rw[e];exact h
theorem aMF{α:Type}(xs:List α)(v:α):atI (xs++[v]) (-1)=some v:=by
 have a:(xs++[v]).length=xs.length+1:=by simp
 have e:ixN (xs++[v]).length (-1)=some xs.length:=by
  unfold ixN
  rw[a,AE (by decide),AD (by omega)]
  congr 1
  omega
 unfold atI
 rw[e]
 show(xs++[v])[xs.length]? = some v
 simp
def aF8(b:E1):Prop:=∀ o i,subscripted b false o i=operate [o,i] (getItem o i)
def IxR(X:Cx)(r:R2):Prop:=
 ∀ (value slice:E1) (a5:List (Az×Obj)) (s:S9) (σ:St) (H:Hp) (x y:V) (v u:V9) (Q:VK),Inv X a5 σ H s->bO x v->bO y u->r x y H Q->
  subscripted slice false v u=operate [v,u] (getItem v u)->wpAny (model X.prog X.w) X.A (subscriptTail value slice v u) (EP X a5 σ Q) X.xe s
def MtR(X:Cx)(id:String)(r:V->List V->Hp->VK->Prop):Prop:=
 ∀ (a5:List (Az×Obj)) (s:S9) (σ:St) (H:Hp) (x:V) (xs:List V) (v:V9) (us:List V9) (Q:VK),Inv X a5 σ H s->bO x v->cI xs us->r x xs H Q->
  wpAny (model X.prog X.w) X.A (call (.builtin id) (v::us)) (EP X a5 σ Q) X.xe s
section
variable{X:Cx}{a b:E1}{ta tb:TE}{pos:Pos}
theorem aVA{r:R2}(d:IxR X r)(g:PE X a ta)(k:PE X b tb)(e:aF8 b):PE X (.Subscript a b pos) (tOp r ta tb):=by
 intro a5 s σ H Q I h
 exact Subscript_ (aMD g k I h λv u c x y H2 i j f q=>d a b a5 c σ H2 x y v u Q i j f q (e _ _))
def aV8(K:Frag):R2:=λx y H Q=>∃ p xs i v,x=.ref p/\y=.int i/\SqL K H p xs/\atI xs i=some v/\Q v H
def aV9(K:Frag):R2:=λx y H Q=>∃ p xs i v,x=.ref p/\y=.int i/\SqT K H p xs/\atI xs i=some v/\Q v H
def aWA:R2:=λx y H Q=>∃ z i c,x=.str z/\y=.int i/\z.length<=sizeLine/\atI z.cps.toList i=some c/\Q (.str ⟨#[c]⟩) H
theorem aPG:IxR X (aV8 X.K):=by
 intro f d a5 s σ H x y v u Q I E D h k
 obtain⟨p,xs,i,z,rfl,rfl,C,n,q⟩:=h
 cases E
 obtain⟨t,rfl⟩:=D
 obtain⟨e,r,c,F⟩:=I.list C
 obtain⟨j,h1,h2,J,A,o⟩:=aAC n
 obtain⟨w,m,g⟩:=r.get h2
 have B:=r.length
 have G:=x4
 have a:EP X a5 σ Q w s:=⟨z,H,I,g,q⟩
 by_cases l:0<=i
 .have b:i.toNat=j:=by
   rw[seqIndex_of l o]at h1
   exact B5 h1
  exact item_listR c.isList l (by omega) (by rw[b];simpa using m) a k
 .have b:(i+(e.toArray.size:Int)).toNat=j:=by
   rw[seqIndex_neg (by omega) A]at h1
   rw[BK,<-B]
   exact B5 h1
  exact subscriptTail_builtinR (x:=w) c.isList.typeIs slot_list_getitem.lookup
   (wpAny_getItem_list_neg (Q:=λr s'=>r=w/\EP X a5 σ Q r s') c.isList (by omega) (by rw[BK]<;>omega) (by omega) (by rw[b];simpa using m) ⟨rfl,a⟩) k
theorem aSK:IxR X (aV9 X.K):=by
 intro c b a5 s σ H x y v u Q I o m h f
 obtain⟨p,xs,i,z,rfl,rfl,l,g,q⟩:=h
 cases o
 obtain⟨t,rfl⟩:=m
 obtain⟨n,r,e,B⟩:=I.tuple l
 obtain⟨j,h1,h2,F,D,C⟩:=aAC g
 obtain⟨w,A,d⟩:=r.get h2
 have k:=r.length
 have E:=x4
 have a:EP X a5 σ Q w s:=⟨z,H,I,d,q⟩
 exact subscriptTail_builtinR (x:=w) e.typeIs slot_tuple_getitem.lookup
  (getItem_tuple (j:=j) (Q:=λr s'=>r=w/\EP X a5 σ Q r s') e (by omega) (by omega) (by rw[BK,<-k];exact h1) (by simpa using A) ⟨rfl,a⟩) f
theorem aSL:IxR X aWA:=by
 intro b a a5 s σ H x y v u Q I g m h d
 obtain⟨z,i,c,rfl,rfl,n,e,q⟩:=h
 obtain⟨t,rfl⟩:=g
 obtain⟨p,rfl⟩:=m
 obtain⟨j,h1,h2,r,k,f⟩:=aAC e
 have l:z.cps.toList.length=z.length:=by simp[Str.length]
 rw[l]at h1 k f
 have o:=x4
 exact tail_any (typeIs_str s z t) slot_str_getitem.lookup (getItem_str (c:=c) (by
  have e1:decide (i < -(2 ^ 63:Int))=false:=A1 (by omega)
  have e2:decide (i>=2 ^ 63)=false:=A1 (by omega)
  rw[e1,e2,Bool.or_false]) (by rw[h1];simpa using h2) ⟨.str ⟨#[c]⟩,H,I.tok _,⟨_,rfl⟩,q⟩) d
theorem Inv.lst{a5:List (Az×Obj)}{σ:St}{H:Hp}{s:S9}{p:Az}{xs:List V}(I:Inv X a5 σ H s)(h:H p=some (.lst xs)) :
  ∃ (its:List V9) (n:Nat),cI xs its/\s.heap.get? p=some {cls:=.type "list",data:=.seq its.toArray n}/\xs.length<=sizeLine:=by
 obtain⟨z,its,n,r,e⟩:=I.hok p _ h
 exact⟨its,n,r,e,z⟩
theorem bI:j9 X (.type "tuple") (λxs H Q=>∃ p ys,xs=[.ref p]/\((SqL X.K H p ys/\∀ l,H l=none->Q (.ref l) (upd H l (.tup ys)))\/(SqT X.K H p ys/\Q (.ref p) H))):=by
 intro a5 s σ H xs us Q I r h
 obtain⟨p,ys,rfl,h⟩:=h
 obtain⟨u,rfl,n⟩:=x5 r
 cases n
 rcases h with ⟨d,q⟩|⟨d,q⟩
 .obtain ⟨a,f,c,g⟩:=I.list d
  have i:=f.length
  refine call_tuple_list c.isList (λh' m=>?_) (by simp only[BK]<;>omega)
  have j:Inv X a5 σ H {s with heap:=h'}:=I.kept (t':=s.toks) m
  have k:Inv X a5 σ (upd H h'.objs.size (.tup ys)) {s with heap:=h'.push {cls:=.type "tuple",data:=.seq a.toArray}}:=
   j.laid (t':=s.toks) (λb o e=>AC _ e) (AQ _) (show cR X.prog X.w _ _ _ (.tup ys)from⟨g,a,f,nI.new _ _⟩)
  exact⟨.ref h'.objs.size,_,k,rfl,q _ (j.hok.fresh (AQ _))⟩
 .obtain ⟨a,f,c,g⟩:=I.tuple d
  exact call_tuple_same c ⟨.ref p,H,I,rfl,q⟩
def tyV(K:Frag)(T:String)(x:V)(H:Hp):Prop:=match x with
 | .str _=>T="str"
 | .int _=>T="int"
 | .ref p=>(T="list"/\∃ xs,SqL K H p xs)\/(T="tuple"/\∃ o,K.lookup p=some o/\o.cls=.type "tuple"/\o.dict=none) \/
  (T="dict"/\((∃ a6,H p=some (.dK a6))\/∃ a6,H p=some (.dT a6)))\/(T="set"/\∃ S n,H p=some (.set S n))
 | _=>False
theorem aSM{a5:List (Az×Obj)}{σ:St}{H:Hp}{s:S9}{T:String}{x:V}{v:V9}(I:Inv X a5 σ H s)(r:bO x v)(ty:tyV X.K T x H) :
  s.TypeIs v T/\∀ a,v=.ref a->∃ ob,s.heap.get? a=some ob/\ob.dict=none:=by
 cases x with
 | str z=>
  obtain⟨t,rfl⟩:=r
  cases(show T="str" from ty)
  exact⟨typeIs_str s z t,λ_ e=>nomatch e⟩
 | int i=>
  obtain⟨t,rfl⟩:=r
  cases(show T="int" from ty)
  exact⟨FZ s i t,λ_ e=>nomatch e⟩
 | ref p=>
  cases r
  rcases ty with ⟨rfl,xs,j⟩|⟨rfl,o,b,h,f⟩|⟨rfl,b⟩|⟨rfl,S,n,b⟩
  .obtain ⟨k,_,g,_⟩:=I.list j
   refine⟨g.isList.typeIs,λa e=>?_⟩
   cases e
   obtain⟨o,n,e,c,f,_⟩:=g
   exact⟨o,e,f⟩
  .refine ⟨⟨o,I.kIn p o b,h⟩,λa e=>?_⟩
   cases e
   exact⟨o,I.kIn _ o b,f⟩
  .have z:∃ o,s.heap.get? p=some o/\o.ExactDict:=by
    rcases b with ⟨d,b⟩|⟨d,b⟩
    .obtain ⟨_,_,_,_,o,_,_,e,ex,_⟩:=I.hok p _ b
     exact⟨o,e,ex⟩
    .obtain ⟨_,_,_,_,o,_,_,e,ex,_⟩:=I.hok p _ b
     exact⟨o,e,ex⟩
   obtain⟨o,e,ex⟩:=z
   refine⟨⟨o,e,ex.1⟩,λa e2=>?_⟩
   cases e2
   exact⟨o,e,ex.2.1⟩
  .obtain ⟨o,_,_,_,e,ex,_⟩:=I.hok p _ b
   refine⟨⟨o,e,ex.1⟩,λa e2=>?_⟩
   cases e2
   exact⟨o,e,ex.2.1⟩
 | _=>exact False.elim ty
def tBM(K:Frag)(T:String)(r:V->List V->Hp->VK->Prop)(to:TE)(t:TA):TE:=λσ H Q=>to σ H λx H1=>tyV K T x H1/\t σ H1 λxs H2=>r x xs H2 Q
variable{o e:E1}{es:List E1}{to:TE}{t:TA}{name:Str}{apos cpos:Pos}{T id:String}{r:V->List V->Hp->VK->Prop}
theorem kA(g:PlainAttrs T)(slot:Slot T name id)(c:typeOf (.builtin id)=pure (.type "method_descriptor"))(k:MtR X id r)(n:PE X o to)(j:PA X (e::es) t)
  (a:attributeBase o name X.env (eval o X.env)=eval o X.env:=by rfl)
  (hfew:((backTo cpos (starEach (e::es) X.env)).all (λx=>!x.1) && (backToKw cpos (keywordEach [] X.env)).all (λx=>x.1.isSome)
   && decide ((e::es).length+([]:List Keyword).length+(if ([]:List Keyword).isEmpty then 0 else 1) < 30))=true:=by rfl)
  (hline:(apos.endLine == cpos.line)=true:=by rfl) (hs:starEach (e::es) X.env=(false,eval e X.env)::starEach es X.env:=by rfl) (hplain:(backTo cpos (starEach es X.env)).any (·.1)=false:=by rfl) :
  PE X (.Call (.Attribute o name apos) (e::es) [] cpos) (tBM X.K T r to t):=by
 intro a5 s σ H Q I h
 refine GT a hfew hline rfl (thn (n a5 s σ H _ I h) λv s1 b=>?_)
 obtain⟨x,H1,d,r1,l,m⟩:=b
 obtain⟨h1,h2⟩:=aSM d r1 l
 refine⟨T,id,g,slot,c,h1,h2,?_⟩
 have f:=j cpos a5 s1 σ H1 _ d m
 rw[hs]at f ⊢
 refine GU (by show(false || (backTo cpos (starEach es X.env)).any (·.1))=false;rw[hplain]<;>rfl) (Calls.evalArgs_plain ?_)
 exact thn f λus i ⟨vs,H2,q,r2,p⟩=>k a5 i σ H2 x vs v us Q q r1 r2 p
end
def MtM(X:Cx)(id:String)(r:V->List V->Hp->VK->Prop):Prop:=
 ∀ (a5:List (Az×Obj)) (s:S9) (σ:St) (H:Hp) (x:V) (xs:List V) (v:V9) (us:List V9) (Q:VK),Inv X a5 σ H s->bO x v->cI xs us->r x xs H Q->
  wpAny (model X.prog X.w) X.A (call (.builtin id) (v::us)) (EP X a5 σ Q) X.xe s
theorem cI.one:∀ {x:V} {us:List V9},cI [x] us->∃ u,us=[u]/\bO x u
 | _,_,.cons r .nil=>⟨_,rfl,r⟩
section
variable{X:Cx}{a5:List (Az×Obj)}{σ:St}{H:Hp}{s:S9}{l b:Az}{xs ys zs:List V}
theorem Inv.lset{a its':List V9}{n:Nat}{f:Array V9->Array V9}{t':Nat}(I:Inv X a5 σ H s)(b:H l=some (.lst xs))
  (e:s.heap.get? l=some {cls:=.type "list",data:=.seq a.toArray n}) (hf:f a.toArray=its'.toArray) (hv:cI ys its') (hz:ys.length<=sizeLine) :
  Inv X a5 σ (upd H l (.lst ys)) {s with heap:=s.heap.update l (Obj.mapSeq f),toks:=t'}:=by
 have q:=PySem.IsL.update e f
 rw[hf]at q
 refine I.write (x:=l) (e:=l) (by rw[b];exact trivial) (.inl rfl) (λg u c d=>(DX s.heap (Obj.mapSeq f) (BS c)).trans d) ⟨_,q⟩ ?_
 exact⟨hz,its',_,hv,q⟩
theorem Inv.lnew{a:List V9}{t':Nat}(I:Inv X a5 σ H s)(b:cI ys a)(hz:ys.length<=sizeLine) :
  Inv X a5 σ (upd H s.heap.objs.size (.lst ys)) {s with heap:=s.heap.push {cls:=.type "list",data:=.seq a.toArray},toks:=t'}:=
 I.laid (λ_ _ q=>AC _ q) (AQ _) ⟨hz,a,0,b,A9 _ rfl⟩
theorem Inv.fresh(I:Inv X a5 σ H s):H s.heap.objs.size=none:=I.hok.fresh (AQ _)
theorem Inv.lstM(I:Inv X a5 σ H s)(a:H l=some (.lst xs)):xs.length<=sizeLine/\∃ (its:List V9) (n:Nat),cI xs its/\xs.length=its.length/\s.heap.get? l=some {cls:=.type "list",data:=.seq its.toArray n}:=by
 obtain⟨z,its,n,r,e⟩:=I.hok l _ a
 exact⟨z,its,n,r,r.length,e⟩
end
section
variable{X:Cx}
def aF9:V->List V->Hp->VK->Prop:=λx vs H Q=>∃ l xs y,x=.ref l/\vs=[y]/\H l=some (.lst xs)/\xs.length < sizeLine/\Q .non (upd H l (.lst (xs++[y])))
theorem hJ:MtM X "list.append" aF9:=by
 intro a5 s σ H x vs v us Q I f c h
 obtain⟨l,xs,y,rfl,rfl,b,g,q⟩:=h
 cases f
 obtain⟨u,rfl,d⟩:=c.one
 obtain⟨z,a,n,r,i,e⟩:=I.lstM b
 refine DQ F.slot_list_append ⟨_,e,rfl⟩ F.entry_list_append (F.args_list_append_2 _ _) (PySem.list_append l a.toArray n u (by rw[BK];omega)) ⟨e,?_⟩
 refine⟨.non,_,I.lset (its':=a++[u]) b e (by simp) (r.append (.cons d .nil)) ?_,rfl,q⟩
 rw[AS,BC]
 omega
theorem aGA{α:Type}(xs:List α)(k:Nat):(List.replicate k xs).flatten.length=k * xs.length:=by
 induction k with
 | zero=>simp
 | succ k ih=>rw[B0,CW,AS,ih,Nat.succ_mul,GB]
end
end L2
namespace Att
open PySem.W PySem.Calls PyProof.Rows
theorem x8{P:Params}{h:H9}:∀ (ns:List Int) (vs:List V9),WellAll P h vs (ns.map WData.int)->IntsAre vs ns:=by
 intro ns
 induction ns with
 | nil=>
  intro vs w
  rw[BN]at w
  cases w
  exact .nil
 | cons n ns ih=>
  intro vs w
  rw[A4]at w
  cases w with
  | cons a b=>
   cases a
   exact .cons _ _ (ih _ b)
theorem aJT{l:OpenLaw}{n:Nat}(o:l.most=some n){P:Params}{h:H9}{args:List WData}{c:List V9}
  (b:l.row.toRowW.claim.pre args=true) (i:WellAll P h c args) :
  ∃ a vs ns,c=[Value.ref a]/\args=[WData.list (ns.map WData.int)]/\h.get? a=some {cls:=.type "list",data:=.seq vs.toArray}/\IntsAre vs ns/\ns.length<=n:=by
 have j:WShape.hasAll [] args [.list .int]=true:=(pre_splitW b).1
 have k:l.pre.holds [] {args:=args}=true:=(pre_splitW b).2
 obtain⟨d,r,rfl,h1,h2⟩:=hasAllW_cons j
 obtain rfl:=hasAllW_nil h2
 obtain⟨xs,rfl,p⟩:=hasW_list h1
 obtain⟨ns,rfl⟩:=items_int p
 have e:ns.length<=n:=by
  unfold OpenLaw.pre at k
  have g:(WTm.not (.lt (.lit (.int (n:Int))) (.len (.arg 0)))).holds [] {args:=[.list (ns.map .int)]}=true:=by
   have g:=(holds_andW k).1
   rw[o]at g
   exact g
  have f:=condW_of g (w_not (w_lt w_lit (w_len_list (w_arg rfl))))
  rw[AA]at f
  refine Nat.le_of_not_lt λq=>?_
  have m:(n:Int) < ((ns.length:Nat):Int):=by omega
  first
   | (rw[AJ m]at f;exact absurd f (by decide))
   | (simp at f;omega)
 cases i with
 | cons w1 w2=>
  cases w2
  cases w1 with
  | list ho hall=>exact⟨_,_,ns,rfl,rfl,ho,x8 ns _ hall,e⟩
theorem aJU(l:OpenLaw)(args:List WData):l.row.toRowW.claim.post args (.bool true) args=true:=
 postW_of (r:=l.row.toRowW) (X:=(true == true))
  (show WShape.has [] (.bool true) .bool=true by first|rfl|decide|simp[WShape.has,WShape.arms,WShape.armsAll])
  (show(WTm.eq .res (.lit (.bool true))).value [] {args:=args,res:=some (.bool true),after:=args}=some (.bool (true == true))from w_eq_bool (w_res rfl) w_lit) rfl
theorem attach_call{l:OpenLaw}{n:Nat}{q:P9}{b:List Str}{v:(Str->O9 V9)->H9->Prop}{s:W9->H9->Prop}{d:DefRec}
  (A:l.most=some n) (j:d.params.defaults=[])
  (call:∀ (w:W9) (s₀ s₁:S9) (mg mb:Str->O9 V9) (fa:Az) (o:Obj) (pm cd doc:V9) (a:Az) (vs:List V9) (ns:List Int),
   Ground q b [] v w s₀ mg mb s₁.heap->s w s₁.heap->
   s₁.heap.get? fa=some o->o.data=.func (docDef d.name d.params d.body d.scope pm cd doc)->s₁.heap.CodeRec cd d.name->mg d.name=some (.ref fa)->
   s₁.heap.get? a=some {cls:=.type "list",data:=.seq vs.toArray}->IntsAre vs ns->ns.length<=n->s₁.gens = #[]->
   codeAny (model l.prog w) callerA (.call (.ref fa) ⟨[.ref a],[]⟩) (λr s'=>r=.ok (.ret (.bool true))/\OldK s₁.heap s'.heap/\s'.os=s₁.os/\AllBare s'.gens) s₁) :
  WalkO q b v s l.row.toRowW d [] (λf vs=>PySem.call f vs):=by
 intro w s₀ s₁ mg mb G Y fa o pm cd doc I kV F C k u m x args t J h p z i H
 obtain rfl:I=.none:=Dflts.none u j
 obtain rfl:kV=.none:=Dflts.noKw u
 obtain⟨a,vs,ns,rfl,rfl,e,c,g⟩:=aJT A h i
 refine enter_call (EH (call w s₀ s₁ mg mb fa o pm cd doc a vs ns G Y F (fd_plain C) k m e c g x) λr s' E=>?_)
 obtain⟨rfl,h2,B,y⟩:=E
 exact⟨.inl ⟨.bool true,.bool true,[],rfl,λ_=>rfl,.bool true,aJU l _,λ_=>⟨List.Pairwise.nil,λ_ D=>(nomatch D)⟩⟩,h2,B,y⟩
section
variable{prog:P9}{w:W9}{A:U9}{E:V9->S9->Prop}{s:S9}{K:Frag}
end
end Att
namespace L2
open PySem.Spec PyProof.Rows
theorem aBV:∀ {vs:List V9} {ns:List Int},IntsAre vs ns->cI (ns.map V.int) vs
 | _,_,.nil=>.nil
 | _,_,.cons n t h=>.cons ⟨t,rfl⟩ (aBV h)
abbrev KOf{K:Frag}{h:H9}(_:K.In h):Frag:=K
noncomputable def iM(s:Stmt):Arguments:=match s with
 | .FunctionDef _ a _ _ _ _ _ _ _ _=>a
 | _=>{posonlyargs:=[],args:=[],vararg:=none,kwonlyargs:=[],kw_defaults:=[],kwarg:=none,defaults:=[]}
noncomputable def cX(s:Stmt):List Stmt:=match s with
 | .FunctionDef _ _ b _ _ _ _ _ _ _=>b
 | _=>[]
noncomputable def aK(s:Stmt):Scope:=match s with
 | .FunctionDef _ _ _ _ _ _ sc _ _ _=>sc
 | _=>{kind:=.function,names:=[],isGenerator:=false,isCoroutine:=false}
abbrev CX0:CXT:=λ_ _ _ _ _ _=>False
abbrev E0:XK:=λ_ _ _=>False
structure Fun(K:Frag)(x qual:Str)(st:Stmt)(f:Az)(fd:FuncData):Prop where
 ex:∃ (oc:V9) (od:Option Az) (kV doc pm:V9) (an:Option Az) (cdv ct:V9) (osl:Array (Option V9)),
  fd=PySem.W.fnOf x qual (iM st) (cX st) (aK st) .none kV doc pm an cdv ct/\K.lookup f=some ⟨oc,od,.func fd,osl⟩/\PySem.W.codeIn K cdv qual=true
 kp:PySem.W.keepIn K (.ref f)=true
section
variable{P:P9}{w:W9}{K:Frag}{mg:Str->O9 V9}{base:H9}
theorem Fun.ok{x qual:Str}{st:Stmt}{f:Az}{fd:FuncData}{N ps:List Str}{k:Nat}{sp:Sp}(F:Fun K x qual st f fd)(S:FnScope N ps (aK st))(len:∀ vs H Q E,sp vs H Q E->vs.length=ps.length)
  (a:∀ (cdv:V9) (A:U9) (outer:List Env) (s:S9) (H:Hp) (vs:List V) (Q:VK) (E:XK),Room k (A.deeper (envOfC qual (aK st) s.heap.objs.size f cdv))->sp vs H Q E->
   ∃ t,PSs (cxOf CX0 P w K mg base N qual (aK st) f cdv A outer s H E).nox (cX st) t/\t {nx:=λ_ H'=>Q .non H',rt:=Q} (start N vs) H):FnOk P w K mg base CX0 (k+1) f fd ps sp:=by
 obtain⟨i,od,kV,doc,pm,j,cdv,ct,e,rfl,g,c⟩:=F.ex
 refine aH1 g c S len λA outer s H vs Q E d b=>?_
 obtain⟨t,h,q⟩:=a cdv A outer s H vs Q E d b
 exact⟨t,h.nox,q⟩
theorem Fun.binds{x qual:Str}{st:Stmt}{f:Az}{fd:FuncData}{ps:List Str}(F:Fun K x qual st f fd)
  (h:∀ (kV doc pm:V9) (an:O9 Az) (cdv ct:V9) (us:List V9),us.length=ps.length->bindArgs (PySem.W.fnOf x qual (iM st) (cX st) (aK st) .none kV doc pm an cdv ct) ⟨us,[]⟩=pure (ps.zip us)):kW K fd ps []:=by
 obtain⟨c,od,kV,doc,pm,an,cdv,ct,a,rfl,d,b⟩:=F.ex
 exact .all (h kV doc pm an cdv ct)
theorem aJV{x qual:Str}{st:Stmt}{f:Az}{e:V9}{od d:O9 Az}{b:Array (O9 V9)}{kV doc pm a ct:V9}(l:K.lookup f=some ⟨e,od,.func (PySem.W.fnOf x qual (iM st) (cX st) (aK st) .none kV doc pm d a ct),b⟩)
 (c:PySem.W.codeIn K a qual=true) (k:PySem.W.keepIn K (.ref f)=true):Fun K x qual st f (PySem.W.fnOf x qual (iM st) (cX st) (aK st) .none kV doc pm d a ct):=⟨⟨e,od,kV,doc,pm,d,a,ct,b,rfl,l,c⟩,k⟩
end
section
variable{X:Cx}
theorem pv(i:Nat){x:Str}{pos:Pos}(a:X.N[i]? = some x:=by rfl)(hv:Vis X.env.scope x:=by first|exact Or.inl rfl|exact Or.inr (Or.inl rfl)|exact Or.inr (Or.inr rfl))(hd:(x == ("__debug__":Str))=false:=by decide)
 (hcd:(x == ("__classdict__":Str))=false:=by decide):PE X (.Name x pos) (kK i):=aR0 a hv hd hcd
end
theorem aC8{A B:Prop}(h:B):if false=true then A else B:=by
 rw[AE CG]
 exact h
theorem aC9{A B:Prop}(h:A):if true=true then A else B:=by
 rw[AD rfl]
 exact h
def aT(H H':Hp):Prop:=∀ b o,H b=some o->H' b=some o
theorem aT.trans{H H1 H2:Hp}(a:aT H H1)(b:aT H1 H2):aT H H2:=λc o h=>b c o (a c o h)
theorem aT.free{H H':Hp}(e:aT H H'){l:Az}(h:H' l=Option.none):H l=Option.none:=by
 cases q:H l with
 | none=>rfl
 | some o=>
  rw[e l o q]at h
  cases h
theorem aT.seq{K:Frag}{H H':Hp}{a:Az}{xs:List V}(e:aT H H')(h:SqL K H a xs):SqL K H' a xs:=by
 rcases h with (h|⟨o,h⟩)|h
 · exact .inl (.inl (e _ _ h))
 · exact .inl (.inr ⟨o, e _ _ h⟩)
 · exact .inr h
theorem aH2{env:Env}:∀ (names:List (Str×NameKind)) (a7:List (Str×Az)),(∀ x∈names,x.2=.free->∃ c,env.cells.lookup x.1=some c)->
  (∀ x c,a7.lookup x=some c->env.cells.lookup x=some c)->
  ∃ cl,(forIn names a7 λx r=>(if (x.2 == NameKind.free)=true then(do let a <-cellOf env x.1;pure (ForInStep.yield ((x.1,a)::r)))else pure (ForInStep.yield r)):Sem (List (Str×Az)))=pure cl /\
   (∀ x c,cl.lookup x=some c->env.cells.lookup x=some c)/\(∀ x∈names,x.2=.free->∃ c,cl.lookup x.1=some c)/\∀ x c,a7.lookup x=some c->∃ c',cl.lookup x=some c':=by
 intro names
 induction names with
 | nil=>intro a7 _ h;exact⟨a7,rfl,h,λx i=>absurd i (by simp),λx c e=>⟨c,e⟩⟩
 | cons x r ih=>
  intro a7 g h
  obtain⟨n,k⟩:=x
  by_cases j:k=.free
  .subst j
   obtain⟨c,b⟩:=g (n,.free) AV rfl
   have b:env.cells.lookup n=some c:=b
   obtain⟨cl,e1,e2,o,m⟩:=ih ((n,c)::a7) (λy f=>g y (AL _ f)) (λy d e=>by
    rw[CM]at e
    cases q:y == n with
    | true=>rw[q]at e;cases e;have:=eq_of_beq q;subst this;exact b
    | false=>rw[q]at e;exact h y d e)
   refine⟨cl,?_,e2,λy f l=>?_,λy d e=>?_⟩
   .rw[DR]
    simp only[beq_self_eq_true,BU]
    unfold cellOf
    simp only[b,pure_bind]
    exact e1
   .rcases A6.mp f with z|z
    · simp_all
    · grind
   .by_cases q:y=n
    · simp_all
    · exact m y d (by rw [CM, E2 q]; exact e)
  .simp_all
theorem x9{env:Env}{scope:Scope}(b:∀ x∈scope.names,x.2=.free->∃ c,env.cells.lookup x.1=some c) :
  ∃ cl,closureFor scope env=pure cl/\(∀ x c,cl.lookup x=some c->env.cells.lookup x=some c)/\∀ x∈scope.names,x.2=.free->∃ c,cl.lookup x.1=some c:=by
 obtain⟨cl,e1,e2,a,_⟩:=aH2 scope.names [] b (λx c e=>by simp at e)
 refine⟨cl,?_,e2,a⟩
 unfold closureFor
 grind
theorem iN{env:Env}:∀ {names:List (Str×NameKind)} {x:Str} {k:NameKind},
  (names.map λ(n,k)=>if (k == NameKind.free && env.scope.kind == .function && env.kindOf n == some .cell)then(n,NameKind.cell)else(n,k)).lookup x=some k->
  k=.cell\/k=.free->(∀ y∈names,y.2≠.cell)->(x,NameKind.free)∈names
 | [],_,_,h,_,_=>by simp at h
 | (n,k0)::r,x,k,h,hk,hc=>by
  have ih:=@iN env r x k
  grind
noncomputable def iP(X:Cx)(N:List Str)(scope:Scope)(cl:List (Str×Az))(C:Az)(s:S9)(H:Hp)(fp:List Az):Cx where
 prog:=X.prog
 w:=X.w
 K:=X.K
 mg:=X.mg
 base:=X.base
 A:=X.A
 N:=N
 s₀:=s
 H₀:=H
 env:=compEnvC scope cl C X.env
 outer:=X.stack
 stack:=X.stack
 ex:=fp
 calm:=X.calm
 fn:=λ_=>false
 pn:=[]
 xe:=λ_ _=>False
inductive Caps(X:Cx)(scope:Scope):List Str->List (Option Nat)->Prop
 | nil:Caps X scope [] []
 | own {x:Str} {N:List Str} {js:List (Option Nat)} (t:Caps X scope N js):Caps X scope (x::N) (none::js)
 | cap {x:Str} {j:Nat} {N:List Str} {js:List (Option Nat)} (h1:X.N[j]? = some x) (h2:X.env.kindOf x=some .cell\/X.env.kindOf x=some .free)
  (h3:(relabel scope X.env).names.lookup x=some .cell\/(relabel scope X.env).names.lookup x=some .free) (t:Caps X scope N js):Caps X scope (x::N) (some j::js)
theorem Caps.len{X:Cx}{scope:Scope}{N:List Str}{js:List (O9 Nat)}(c:Caps X scope N js):js.length=N.length:=by
 induction c with
 | nil=>rfl
 | own _ ih=>simp[ih]
 | cap _ _ _ _ ih=>simp[ih]
theorem Caps.get{X:Cx}{scope:Scope}{N:List Str}{js:List (O9 Nat)}(c:Caps X scope N js):∀ {i j:Nat} {x:Str},js[i]? = some (some j)->N[i]? = some x->
  X.N[j]? = some x/\(X.env.kindOf x=some .cell\/X.env.kindOf x=some .free)/\((relabel scope X.env).names.lookup x=some .cell\/(relabel scope X.env).names.lookup x=some .free):=by
 induction c with
 | nil=>intro i j x h;simp at h
 | own _ ih=>
  grind
 | cap a b d _ ih=>
  grind
noncomputable def mQ(js:List (O9 Nat))(σ:St):St:=js.map λo=>o.bind λj=>(σ[j]?).join
def fB(σ σ':St):Prop:=σ'.length=σ.length/\∀ (i:Nat) v,σ[i]? = some (some v)->σ'[i]? = some (some v)
theorem fB.refl(σ:St):fB σ σ:=⟨rfl,λ_ _ h=>h⟩
theorem fB.trans{a b c:St}(h:fB a b)(k:fB b c):fB a c:=⟨k.1.trans h.1,λi v e=>k.2 i v (h.2 i v e)⟩
section
variable{X:Cx}
def PIf(X:Cx)(ifs:List E1)(t:TT):Prop:=
 ∀ (a5:List (Az×Obj)) (s:S9) (σ:St) (H:Hp) (Q:Bool->Hp->Prop),Inv X a5 σ H s->t σ H Q->
  wpAny (model X.prog X.w) X.A (forIn ifs true λc r=>if r=true then do let ok <-isTrue c X.env (eval c X.env);pure (ForInStep.yield ok)else pure (ForInStep.yield r)) (TP X a5 σ Q) X.xe s
def aWB:TT:=λ_ H Q=>Q true H
theorem dR:PIf X [] aWB:=by
 intro a5 s σ H Q I h
 show wpAny _ _ (pure true) _ _ s
 exact AM ⟨H,I,h⟩
end
def aAD(X:Cx)(N:List Str)(scope:Scope)(js:List (O9 Nat))(tg elt:E1)(ifs:List E1)(σ:St)(x:V)(H:Hp)(R:O9 V->Hp->Prop):Prop:=
 ∀ (cl:List (Str×Az)) (C:Az) (s:S9) (H0:Hp) (fp:List Az),∃ (g:TG) (tt:TT) (te:TE),PG (iP X N scope cl C s H0 fp) tg g/\PIf (iP X N scope cl C s H0 fp) ifs tt/\PE (iP X N scope cl C s H0 fp) elt te /\
  ∀ σ0,fB (mQ js σ) σ0->g x σ0 H λσ2 H2=>fB (mQ js σ) σ2/\tt σ2 H2 λb H3=>if b=true then te σ2 H3 λy H4=>R (some y) H4 else R none H3
def compK(X:Cx)(N:List Str)(scope:Scope)(js:List (O9 Nat))(tg elt:E1)(ifs:List E1)(σ:St)(Q:VK)(J:It)(H1:Hp):Prop:=∃ (n:Nat) (W:Nat->List V->Hp->Prop),n<=sizeLine/\W 0 [] H1 /\
 ∀ i ys H,W i ys H->ys.length<=i/\((J.stop i H/\∀ p,H p=none->Q (.ref p) (upd H p (.lst ys)))\/(J.go i H/\i < n/\∃ R:O9 V->Hp->Prop,(∀ y H2,R (some y) H2->W (i+1) (ys++[y]) H2)/\(∀ H2,R none H2->W (i+1) ys H2) /\
  ∀ x H',J.yld i H x H'->aAD X N scope js tg elt ifs σ x H' R))
def yA(X:Cx)(N:List Str)(scope:Scope)(js:List (O9 Nat))(tg elt:E1)(ifs:List E1)(wi:TI):TE:=λσ H Q=>wi σ H (compK X N scope js tg elt ifs σ Q)
section
variable{prog:P9}{w:W9}{A:U9}{R:Result->S9->Prop}{s:S9}
theorem aDA{j a b:E1}{g:List E1}{scope:Scope}{pos:Pos}{it i:V9}{env:Env}(I:Nat->S9->Prop)
  (l:∀ n s,I n s->wpAny (model prog w) A (pyNext it) (λr s1=>match r with
   | none=>R (.ok .next) s1
   | some v=>wpAny (model prog w) A (letOwnedTupleGo a it v) (λ_ s1'=>wpAny (model prog w) A (assign a env v) (λ_ s2=>
    wpAny (model prog w) A (forIn g true λc r=>if r=true then do let ok <-isTrue c env (eval c env);pure (ForInStep.yield ok)else pure (ForInStep.yield r)) (λok s3=>
     if ok=true then wpAny (model prog w) A (eval j env) (λx s4=>
      wpAny (model prog w) A (call (.builtin "list.append") [i,x]) (λ_ s5=>∃ m,m < n/\I m s5) (λ_ _=>False) s4) (λ_ _=>False) s3
     else ∃ m,m < n/\I m s3) (λ_ _=>False) s2) (λ_ _=>False) s1') (λ_ _=>False) s1) (λ_ _=>False) s)
  (n:Nat) (h:I n s) :
  codeAny (model prog w) A (.compLoop (.ListComp j [⟨a,b,g,0⟩] scope pos) 0 it i env) R s:=by
 refine codeAny_loop rfl I (λn s E=>?_) n h
 show wpAny _ A ((compTurn (.ListComp j [⟨a,b,g,0⟩] scope pos) 0 it i env).onRaise (λx=>do noteFrame x env;theTreesLotGoes x)) _ _ s
 refine wpAny_noted ?_
 rw[compTurn_list]
 have F:∀ {α:Type} {t:Sem α} {Q:α->S9->Prop} {E':V9->S9->Prop} {s:S9},wpAny (model prog w) A t Q (λ_ _=>False) s->wpAny (model prog w) A t Q E' s:=λh=>BO h (λ_ _ q=>q) λ_ _ f=>f.elim
 refine AB (DE (AB (BO (l n s E) (λr D e=>?_) λ_ _ h'=>h'.elim)))
 cases r with
 | none=>exact AM e
 | some v=>
  refine AB (BO e (λ_ s1' u=>?_) λ_ _ f=>f.elim)
  refine AB (BO u (λ_ z o=>AB (BO o (λok y d=>?_) λ_ _ h'=>h'.elim)) λ_ _ h'=>h'.elim)
  cases ok with
  | false=>exact AM ⟨rfl,d⟩
  | true=>
   exact AB (AB (BO d (λx C k=>AB (BO k (λ_ B p=>AM (AM ⟨rfl,p⟩)) λ_ _ h'=>h'.elim)) λ_ _ h'=>h'.elim))
end
theorem HOk.track{P:P9}{w:W9}{H:Hp}{h:H9}{a:Az}{o:HO}(x:HOk P w H h)(d:H a=none)(new:cR P w (upd H a o) h a o):HOk P w (upd H a o) h:=λb u e=>by
 by_cases f:b=a
 .subst f;rw[bL]at e;cases e;exact new
 .rw[aW f]at e
  exact(x b u e).stay (λc v _ q=>q) (λc q=>by rw[aW (bQ q d)];exact q) (λc xs q=>by rw[aW (bQ q d)];exact q) λc xs q=>by rw[aW (bQ q d)];exact q
section
variable{X:Cx}{a5:List (Az×Obj)}{σ:St}
structure CompEnd(X:Cx)(a5:List (Az×Obj))(σ:St)(D C:Az)(ys:List V)(H':Hp)(s':S9):Prop where
 inv:Inv X a5 σ (upd H' D (.lst ys)) s'
 ns:∃ m,s'.heap.Ns C m
 fp:kL X a5 (upd H' D (.lst ys)) C
 nD:H' D=none
theorem CompEnd.gone{D C:Az}{ys:List V}{H H':Hp}{s':S9}{a:H9}{c:St}(I:Inv X a5 c H s')(d:kL X a5 H C)(f:Heap.SameBut C s'.heap a):Inv X a5 c H {s' with heap:=a}:=
 I.turned (it:=C) (t':=s'.toks) (λb o g e=>(f.2 b g).trans e) d.1 d.2.1 d.2.2.2.1 d.2.2.2.2.1 d.2.2.2.2.2
theorem aDB{prog:P9}{w:W9}{A:U9}{E:V9->S9->Prop}{s:S9}{l:Az}{items:Array V9}{a:Nat}{x:V9}{Q:V9->S9->Prop}(e:s.heap.get? l=some {cls:=.type "list",dict:=none,data:=.seq items a})(hz:items.size<=sizeLine)
  (hQ:∀ nn' h',h'.get? l=some {cls:=.type "list",dict:=none,data:=.seq (items.push x) nn'}->Heap.SameBut l s.heap h'->Q .none {s with heap:=h'}) :
  wpAny (model prog w) A (call (.builtin "list.append") [.ref l,x]) Q E s:=by
 refine DQ F.slot_list_append ⟨_,e,rfl⟩ F.entry_list_append (F.args_list_append_2 _ _) (PySem.list_append l items a x (by omega)) ⟨e,?_⟩
 exact hQ _ _ (CJ _ e rfl) (CF ..)
theorem yB{N:List Str}{js:List (O9 Nat)}{scope:Scope}{tg aj ah:E1}{ao:List E1}{cl:List (Str×Az)}{pos:Pos}{it:Az}{O:List Az}{tn:Nat->H9->Prop}{J:It}{B:S9}{H2:Hp}{E:V9->S9->Prop}
  {RR:V9->Az->Result->S9->Prop} {Q:VK} (hc:X.calm=true) (af:Caps X scope N js) (P:scope.kind=.function) (s:∀ y∈scope.names,y.2≠.cell)
  (f:∀ x c,cl.lookup x=some c->X.env.cells.lookup x=some c) (ad:∀ x∈scope.names,x.2=.free->∃ c,cl.lookup x.1=some c)
  (I:Inv X a5 σ H2 B) (T:Turn X.prog X.w X.K tg J O it tn) (au:tn 0 B.heap) (Z:∀ b∈O,kL X a5 H2 b) (n:Nat) (W:Nat->List V->Hp->Prop) (hn:n<=sizeLine) (w0:W 0 [] H2)
  (bn:∀ i ys H,W i ys H->ys.length<=i/\((J.stop i H/\∀ p,H p=none->Q (.ref p) (upd H p (.lst ys)))\/(J.go i H/\i < n/\∃ R:O9 V->Hp->Prop,(∀ y H2,R (some y) H2->W (i+1) (ys++[y]) H2)/\(∀ H2,R none H2->W (i+1) ys H2) /\
   ∀ x H',J.yld i H x H'->aAD X N scope js tg aj ao σ x H' R)))
  (bp:∀ D C ys H' s',CompEnd X a5 σ D C ys H' s'->Q (.ref D) (upd H' D (.lst ys))->RR (.ref D) C (.ok .next) s') :
  wpAny (model X.prog X.w) X.A (newList []) (λa7 s3=>wpAny (model X.prog X.w) X.A (newFunctionEnv scope X.env.globals cl [] X.env.qual none .none (some X.env)) (λcenv s4=>
   codeAny (model X.prog X.w) X.A (.compStart (.ListComp aj [⟨tg,ah,ao,0⟩] scope pos) 0 (.ref it) a7 {cenv with scope:=relabel scope X.env}) (RR a7 cenv.locals) s4) E s3) E B:=by
 refine EQ (wpAny_newFunctionEnv s (by intro y hy;simp at hy) (λG F h=>?_) P)
 dsimp only at F h ⊢
 generalize al:B.heap.push {cls:=.type "list",dict:=none,data:=.seq ([]:List V9).toArray}=Hh at F h ⊢
 have hC:Hh.objs.size=B.heap.objs.size+1:=by rw[<-al,B4]
 have aa:B.heap.objs.size≠Hh.objs.size:=by rw[hC];exact BP (Nat.lt_succ_self _)
 have M:B.heap.objs.size<=Hh.objs.size:=by rw[hC];exact Nat.le_succ _
 have U:∀ b o,B.heap.get? b=some o->G.get? b=some o:=λb o e=>h.extBut b o (by rw[hC];exact BP (Nat.lt_succ_of_lt (AT e))) (AC _ (al▸AC _ e))
 have am:G.get? B.heap.objs.size=some {cls:=.type "list",dict:=none,data:=.seq ([]:List V9).toArray}:=h.extBut _ _ aa (AC _ (al▸A9 _ rfl))
 have av:tn 0 G:=T.keep _ _ _ au λb a o e=>U b o e
 have ae:∀ b∈O,b < B.heap.objs.size:=λb a=>by
  obtain⟨o,e,_⟩:=T.obj _ _ au b a
  exact AT e
 have az:∀ b∈frs X.stack,b < B.heap.objs.size:=λb a=>by
  rcases A6.mp (I.stkSub b a)with z|z
  .rw[z];exact I.lt
  .refine Nat.lt_of_not_le λbx=>I.nofs bx z
 have be:∀ b∈O,b≠Hh.objs.size:=λb a z=>CI _ (BA (ae b a) (z▸M))
 generalize hD:B.heap.objs.size=D at *
 generalize ci:Hh.objs.size=C at *
 let X':=iP X N scope cl C B H2 O
 have bj:X'.Ok:=by
  refine⟨I.ok.mod,P,I.ok.glob,I.ok.blt,by show B.heap.objs.size<=C;rw[hD];exact M,λx y c e1 e2=>I.ok.inj x y c (f x c e1) (f y c e2),λx hx=>?_,λx c z=>absurd (show false=true from z) CG,I.ok.hd,I.ok.frames,.inl rfl,λb a=>?_,
   I.bs,BR I.ok.bsz I.sz,λb o e a=>?_,λb a z=>?_,I.stack,I.stkFree⟩
  .have hm:(x,NameKind.free)∈scope.names:=by
    rcases hx with z|z
    .exact iN (env:=X.env) z (.inl rfl) s
    .exact iN (env:=X.env) z (.inr rfl) s
   exact ad _ hm rfl
  .exact ⟨be b a,λx c e=>(Z b a).2.2.2.2.1 x c (f x c e)⟩
  .rcases (Z b a).2.2.2.1 with z|z
   .exact I.ok.noex b o e z
   .exact absurd (AT (I.ok.bs b o e).1) (Nat.not_lt.mpr z)
  .rcases A6.mp (I.stkSub b z)with q|q
   .exact (Z b a).2.1 q
   .exact (Z b a).2.2.1 q
 have ba:(mQ js σ).length=N.length:=by unfold mQ;rw[AA,af.len]
 have freeC:H2 C=none:=I.hok.fresh (by rw[hD];exact M)
 have Y:H2 D=none:=I.hok.fresh (by rw[hD];exact AQ _)
 have DnotFs:D∉frs X.stack:=λz=>CI _ (az D z)
 have DnotFp:D∉O:=λz=>CI _ (ae D z)
 have I0:∀ tk,Inv X' [] (mQ js σ) H2 {B with heap:=G,toks:=tk}:=λtk=>by
  refine⟨bj,rfl,I.bare,Un.kept U,⟨_,F,λi x v e1 e2 e3=>?_⟩,λx c e=>?_,freeC,λx c e=>I.freeC x c (f x c e),λp L=>absurd L (by show ¬ p∈([]++[]:List (Az×Obj));simp),I.hok.kept U,ba⟩
  .unfold mQ at e2
   rw[AG]at e2
   cases q:js[i]? with
   | none=>rw[q]at e2;cases e2
   | some o=>
    rw[q]at e2
    cases o with
    | none=>cases e2
    | some j=>
     have cp:(σ[j]?).join=some v:=B5 e2
     obtain⟨c1,c2,c3⟩:=af.get q e1
     have e4:σ[j]? = some (some v):=by
      grind
     obtain⟨m,hm,hl⟩:=I.loc
     have bo:Vis X.env.scope x:=by
      rcases c2 with z|z
      · exact .inr (.inl z)
      · exact .inr (.inr z)
     obtain⟨u,r,l⟩:=hl j x v c1 e4 bo
     refine⟨u,r,.inr ⟨c3,?_⟩⟩
     have lc:∃ c,X.env.cells.lookup x=some c/\B.heap.IsCell c (some u):=by
      rcases l with ⟨k,_⟩|⟨_,z⟩
      · grind
      · exact z
     obtain⟨c,e5,o,ho,hd⟩:=lc
     have bu:(x,NameKind.free)∈scope.names:=by
      rcases c3 with z|z
      · exact iN (env := X.env) z (.inl rfl) s
      · exact iN (env := X.env) z (.inr rfl) s
     obtain⟨c',e6⟩:=ad _ bu rfl
     have e7:=f _ _ e6
     rw[e5]at e7;cases e7
     exact⟨c,e6,o,U c o ho,hd⟩
  .obtain ⟨v,o,ho,hd⟩:=I.cell x c (f x c e)
   exact⟨v,o,U c o ho,hd⟩
 have ag:∀ {H':Hp} {pl:List (Az×Obj)},(∀ b∈O,H' b=none)->(∀ b∈O,∀ p∈pl,p.1≠b)->∀ b∈O,kL X' pl H' b:=λ{H' pl} hn hpl b a=>by
  refine⟨hn b a,be b a,bj.exfs b a,.inl a,λx c e=>(Z b a).2.2.2.2.1 x c (f x c e),λp L=>hpl b a p ?_⟩
  have cq:p∈[]++pl:=L
  grind
 let LI:Nat->S9->Prop:=λk s'=>∃ i ys its nn σ' H',k=n+1 - i/\i<=n/\W i ys H'/\tn i s'.heap/\(∀ b∈O,H' b=none)/\cI ys its/\fB (mQ js σ) σ' /\
  Inv X' [(D,{cls:=.type "list",dict:=none,data:=.seq its.toArray nn})] σ' H' s'
 have ac:∀ tk,codeAny (model X.prog X.w) X.A (.compLoop (.ListComp aj [⟨tg,ah,ao,0⟩] scope pos) 0 (.ref it) (.ref D) (compEnvC scope cl C X.env)) (RR (.ref D) C) {B with heap:=G,toks:=tk}:=by
  intro tk
  refine aDA LI ?_ (n+1) ⟨0,[],[],0,mQ js σ,H2,rfl,CN _,w0,av,λb a=>(Z b a).1,.nil,fB.refl _,?_⟩
  .rintro k s3 ⟨i,ys,its,nn,σ3,H3,rfl,hin,w3,st3,fr3,r3,ks,I3⟩
   obtain⟨ax,tr⟩:=bn i ys H3 w3
   have bf:=ag (pl:=[(D,{cls:=.type "list",dict:=none,data:=.seq its.toArray nn})]) fr3 (λb a p L z=>by
    rw[A8.mp L]at z
    exact DnotFp ((show D=b from z)▸a))
   rcases tr with ⟨stop,q⟩|⟨go,aw,RW,cb,br,step⟩
   .refine thn (T.done X' rfl rfl rfl hc i _ s3 σ3 H3 _ I3 bf st3 stop) λr s4 t=>?_
    obtain⟨hr,I4⟩:=t
    subst hr
    show RR (.ref D) C (.ok .next) s4
    obtain⟨pe,pn,p1,p2,p3⟩:=I4.pin (D,{cls:=.type "list",dict:=none,data:=.seq its.toArray nn}) (by show _∈[]++_;simp)
    refine bp D C ys H3 s4 ?_ (q D pn)
    have bc:HOk X.prog X.w (upd H3 D (.lst ys)) s4.heap:=HOk.track I4.hok pn ⟨BR ax (BR hin hn),its,nn,r3,pe⟩
    have ai:∀ b u,H2 b=some u->b≠D:=λb u e z=>by rw[z,Y]at e;cases e
    have bw:Un (frs X.stack) O H2 (upd H3 D (.lst ys)) B.heap s4.heap:=by
     have ub:=I4.base
     refine⟨ub.keep,ub.slot,λb o e aq hx=>?_,ub.there,λb xs e=>?_,λb o u e=>?_,λb ps e=>?_⟩
     .rw[aW (λz=>by have:=AT e;rw[hD,z]at this;exact CI _ this)]
      exact ub.free b o e aq hx
     .rw[aW (ai b _ e)];exact ub.tups b xs e
     .rw[aW (ai b _ e)];exact ub.frzs b o u e
     .rw[aW (ai b _ e)];exact ub.tbls b ps e
    refine⟨I.call' I4.os bw bc I4.bare λb a=>⟨(Z b a).2.2.2.1,(Z b a).2.1,(Z b a).2.2.2.2.1,(Z b a).2.2.2.2.2⟩,?_,?_,pn⟩
    .obtain ⟨m,hm,_⟩:=I4.loc
     exact⟨m,hm⟩
    .refine I.fpOk (by rw[hD];exact M) ?_
     rw[aW (BS aa)]
     exact I4.free
   .refine thn (T.item X' rfl rfl rfl hc i _ s3 σ3 H3 _ I3 bf st3 go) λr s4 t=>?_
    obtain⟨u,hr,h4⟩:=t
    subst hr
    show wpAny _ _ (letOwnedTupleGo tg (.ref it) u) _ _ s4
    refine thn h4 λ_ s5 t=>?_
    obtain⟨x,H5,I5,r5,y5,ak,bv⟩:=t
    obtain⟨g,tt,te,hg,ht,he,hq⟩:=step x H5 y5 cl C B H2 O
    have bd:=ag (pl:=[(D,{cls:=.type "list",dict:=none,data:=.seq its.toArray nn})]) bv (λb a p L z=>by
     rw[A8.mp L]at z
     exact DnotFp ((show D=b from z)▸a))
    have bz:=I5.pinned bd (T.obj _ _ ak)
    refine thn (hg _ s5 σ3 H5 x u _ bz r5 (hq σ3 ks)) λ_ s6 t=>?_
    obtain⟨S,H6,I6,ay,q6⟩:=t
    refine thn (ht _ s6 S H6 _ I6 q6) λb s7 t=>?_
    obtain⟨H7,I7,q7⟩:=t
    have bg:∀ {s':S9} {H':Hp} {σ':St},Inv X' ([(D,{cls:=.type "list",dict:=none,data:=.seq its.toArray nn})]++sZ O s5.heap) σ' H' s'->tn (i+1) s'.heap/\(∀ b∈O,H' b=none):=λ{s' H' σ'} I'=>by
     refine⟨T.keep _ _ _ ak λb a o e=>(I'.pin (b,o) (BY _ (BY _ (nS a e)))).1,λb a=>?_⟩
     obtain⟨o,e,d⟩:=T.obj _ _ ak b a
     exact(I'.pin (b,o) (BY _ (BY _ (nS a e)))).2.1
    cases b with
    | false=>
     rw[AE CG]at q7 ⊢
     obtain⟨a1,a2⟩:=bg I7
     exact⟨n+1 - (i+1),by omega,i+1,ys,its,nn,S,H7,rfl,aw,br _ q7,a1,a2,r3,ay,I7.unpinned⟩
    | true=>
     rw[AD rfl]at q7 ⊢
     refine thn (he _ s7 S H7 _ I7 q7) λyv s8 t=>?_
     obtain⟨y,H8,I8,r8,q8⟩:=t
     obtain⟨a1,a2⟩:=bg I8
     have I8u:=I8.unpinned
     obtain⟨pe,pn,p1,p2,p3⟩:=I8u.pin (D,{cls:=.type "list",dict:=none,data:=.seq its.toArray nn}) (by show _∈[]++_;simp)
     have cj:s8.heap.IsList D its.toArray:=PySem.IsL.isList pe
     have cf:its.length<=sizeLine:=by rw[<-r3.length];exact BR ax (BR hin hn)
     refine aDB pe (by simpa using cf) λaq h9 e9 bi=>?_
     have I9:Inv X' [] S H8 {s8 with heap:=h9,toks:=s8.toks}:=by
      refine Inv.turned (a5:=[]) (it:=D) (t':=s8.toks) (I8u.pins_of (pins':=[]) λp L=>absurd L (by simp)) (λb o a e=>(bi.2 b a).trans e) pn aa (.inr (by show B.heap.objs.size<=D;rw[hD];exact AQ _)) (λx c e z=>?_) λp L=>absurd L (by show ¬ p∈([]++[]:List (Az×Obj));simp)
      obtain⟨v,o,ho,hd⟩:=I.cell x c (f x c e)
      grind
     refine⟨n+1 - (i+1),by omega,i+1,ys++[y],its++[yv],aq,S,H8,rfl,aw,cb _ _ q8,?_,a2,cI.append r3 (.cons r8 .nil),ay,?_⟩
     .exact T.keep _ _ _ a1 λb a o e=>(bi.2 b (λz=>DnotFp (z▸a))).trans e
     .refine I9.pins_of λp L=>?_
      obtain rfl:=A8.mp L
      exact⟨by simpa using e9,pn,p1,p2,by simp⟩
  .refine (I0 tk).pins_of λp L=>?_
   obtain rfl:=A8.mp L
   exact⟨am,Y,aa,DnotFs,by simp⟩
 exact codeAny_compStart_list (ac _) (T.self X.A 0 _ _ _ av (ac _))
noncomputable def f9(names:List (Str×NameKind))(outer:Str->O9 NameKind):Bool:=
 names.all (λy=>y.2 != .cell) && names.all (λy=>y.2 != .local || names.lookup y.1 == some .local) && names.all (λy=>y.2 != .free || outer y.1 == some .cell || outer y.1 == some .free)
theorem f9.cell{names:List (Str×NameKind)}{outer:Str->O9 NameKind}(h:f9 names outer=true):∀ y∈names,y.2≠.cell:=λy a=>by
 unfold f9 at h
 grind
theorem f9.names{names:List (Str×NameKind)}{outer:Str->O9 NameKind}(h:f9 names outer=true):∀ y∈names,y.2=.local->names.lookup y.1=some .local:=λy a e=>by
 unfold f9 at h
 grind
theorem f9.free{names:List (Str×NameKind)}{outer:Str->O9 NameKind}(h:f9 names outer=true):∀ y∈names,y.2=.free->outer y.1=some .cell\/outer y.1=some .free:=λy a e=>by
 unfold f9 at h
 grind
theorem eO{N:List Str}{js:List (O9 Nat)}{scope:Scope}{tg f a:E1}{d:List E1}{pos:Pos}{l:TI}(o:X.calm=true)(e:Caps X scope N js)(hok:f9 scope.names X.env.kindOf=true)
  (hi:PI X tg a l) (b:scope.kind=.function:=by rfl) (hs:∀ x,foldedSetIterable a X.env x=pure x:=by intro _;rfl) :
  PE X (.ListComp f [⟨tg,a,d,0⟩] scope pos) (yA X N scope js tg f d l):=by
 intro a5 s σ H Q I h
 obtain⟨cl,e1,e2,F⟩:=x9 (env:=X.env) (scope:=scope) λx r y=>I.ok.has _ (f9.free hok x r y)
 rw[eval_ListComp]
 refine GC (use:=none) rfl hs e1 b (f9.names hok) (thn (hi a5 s σ H _ I h) λv s1 h1=>thn h1 λB G h2=>?_)
 obtain⟨it,fp,K,J,H2,rfl,E,T,g,t,n,W,z,p,c⟩:=h2
 refine yB (RR:=λk C=>compPost (model X.prog X.w) X.A X.xe none (EP X a5 σ Q) k C) (Q:=Q) o e b (f9.cell hok) e2 F E T g t n W z p c ?_
 intro D C ys H' s' j q
 obtain⟨m,u⟩:=j.ns
 exact⟨m,u,λh' i=>⟨.ref D,_,CompEnd.gone (D:=D) (ys:=ys) (H':=H') j.inv j.fp i,rfl,q⟩⟩
theorem aH3{i:Nat}{x:Str}{N:List Str}{js:List (O9 Nat)}{scope:Scope}{tg g c:E1}{f:List E1}{pos b j:Pos}{K:TI}(Y:X.N.Nodup)(t:X.N[i]? = some x)(hx:Loc X.env.scope x)
  (r:swapsWith (.ListComp g [⟨tg,c,f,0⟩] scope pos) (some (.Name x b)) j.line X.env=pure true) (Z:X.calm=true) (o:Caps X scope N js) (hok:f9 scope.names X.env.kindOf=true)
  (hi:PI X tg c K) (d:scope.kind=.function:=by rfl) (B:X.fn x=true\/X.env.scope.names.lookup x=some .local:=by exact .inl rfl) (hs:∀ x,foldedSetIterable c X.env x=pure x:=by intro _;rfl) :
  PS X (.Assign [.Name x b] (.ListComp g [⟨tg,c,f,0⟩] scope pos) j) (nO (yA X N scope js tg g f K) (lV i)):=by
 intro a5 s σ H D I h
 obtain⟨cl,e1,e2,V⟩:=x9 (env:=X.env) (scope:=scope) λx hx B=>I.ok.has _ (f9.free hok x hx B)
 rw[exec_Assign_Name_used _ _ _ _ r]
 refine AB (DE (AB ?_))
 show wpAny _ X.A (do let _ <-comprehension (.ListComp g [⟨tg,c,f,0⟩] scope pos) scope X.env _ (newList []) false (eval c X.env) (some (assign (.Name x b) X.env))) _ _ s
 refine AB (BO (GC (use:=some (assign (.Name x b) X.env)) (Q:=λ_ s'=>SP X a5 D .next s') rfl hs e1 d (f9.names hok)
  (thn (hi a5 s σ H _ I h) λv s1 h1=>thn h1 λR s2 h2=>?_)) (λ_ s' hq=>AM (AM hq)) λ_ _ e=>e)
 obtain⟨it,fp,tn,J,H2,rfl,I2,T,p,M,n,W,P,w0,l⟩:=h2
 refine yB (RR:=λG C=>compPost (model X.prog X.w) X.A X.xe (some (assign (.Name x b) X.env)) (λ_ s'=>SP X a5 D .next s') G C) (Q:=λv H'=>D.nx (σ.set i (some v)) H') Z o d (f9.cell hok) e2 V I2 T p M n W P w0 l ?_
 intro L C ys H' s' k q
 show wpAny _ X.A (assign (.Name x b) X.env (.ref L)) _ _ s'
 refine wpAny_assign_Name (aBR (v:=.ref L) k.inv Y t hx rfl (λU F O=>?_) B)
 obtain⟨a,E,ha⟩:=O
 have u:C≠a:=by
  rcases ha with z|z
  · rw [z]; exact k.fp.2.1
  · exact λS => k.fp.2.2.2.2.1 x a z S.symm
 obtain⟨m,hm⟩:=k.ns
 exact⟨m,hm.sameBut E u,λh' y=>⟨_,_,CompEnd.gone (D:=L) (ys:=ys) (H':=H') F k.fp y,q⟩⟩
end
noncomputable def aOF(W:Nat->List V->Hp->Prop)(i:Nat)(ys:List V):O9 V->Hp->Prop
 | some y,H=>W (i+1) (ys++[y]) H
 | none,H=>W (i+1) ys H
theorem aPH{X:Cx}{J:It}{N:List Str}{scope:Scope}{js:List (O9 Nat)}{tg c:E1}{b:List E1}{σ:St}{Q:VK}{n:Nat}{H1:Hp}(W:Nat->List V->Hp->Prop)(hz:n<=sizeLine)(e:W 0 [] H1)
  (f:∀ i ys H,i<=n->W i ys H->ys.length<=i) (d:∀ i ys H,i < n->W i ys H->J.go i H) (g:∀ ys H,W n ys H->J.stop n H)
  (step:∀ i x ys H H',i < n->W i ys H->J.yld i H x H'->aAD X N scope js tg c b σ x H' (aOF W i ys))
  (done:∀ ys H,W n ys H->∀ p,H p=none->Q (.ref p) (upd H p (.lst ys))) :
  compK X N scope js tg c b σ Q J H1:=by
 refine⟨n,λi ys H=>i<=n/\W i ys H,hz,⟨CN _,e⟩,?_⟩
 rintro i ys H ⟨hi,w⟩
 refine⟨f i ys H hi w,?_⟩
 by_cases a:i < n
 .exact .inr ⟨d i ys H a w,a,aOF W i ys,λy H2 q=>⟨a,q⟩,λH2 q=>⟨a,q⟩,λx H' y=>step i x ys H H' a w y⟩
 .grind
mutual
inductive DatV(K:Frag)(H:Hp):V->Dz->Prop
 | non:DatV K H .non .none
 | bl (b:Bool):DatV K H (.bl b) (.bool b)
 | int (i:Int):DatV K H (.int i) (.int i)
 | str (x:Str):DatV K H (.str x) (.str x)
 | lst {a:Az} {xs:List V} {ds:List Dz}:SqL K H a xs->DatVs K H xs ds->DatV K H (.ref a) (.list ds)
 | tup {a:Az} {xs:List V} {ds:List Dz}:SqT K H a xs->DatVs K H xs ds->DatV K H (.ref a) (.tuple ds)
 | pl {a:Az} {ns:List Int}:H a=some (.lst (ns.map V.int))->DatV K H (.ref a) (.dict [(.list (ns.map .int),.none)])
inductive DatVs(K:Frag)(H:Hp):List V->List Dz->Prop
 | nil:DatVs K H [] []
 | cons {x:V} {d:Dz} {xs:List V} {ds:List Dz}:DatV K H x d->DatVs K H xs ds->DatVs K H (x::xs) (d::ds)
end
section
variable{X:Cx}{a5:List (Az×Obj)}{σ:St}{H:Hp}{s:S9}
mutual
theorem DatV.reads(I:Inv X a5 σ H s):∀ {x:V} {d:Dz} {u:V9},DatV X.K H x d->d.canLay0=true->bO x u->∃ as,Reads s.heap u d as
 | _,_,_,.non,_,r=>by cases r;exact⟨_,.none⟩
 | _,_,_,.bl b,_,r=>by cases r;exact⟨_,.bool b⟩
 | _,_,_,.int i,_,r=>by obtain⟨t,rfl⟩:=r;exact⟨_,.int i t⟩
 | _,_,_,.str x,_,r=>by obtain⟨t,rfl⟩:=r;exact⟨_,.str x t⟩
 | _,_,_,.pl _,y,_=>by cases y
 | _,_,_,.lst h ds,y,r=>by
  cases r
  obtain⟨a,f,⟨o,e,c,n,d⟩,g⟩:∃ a:List V9,cI _ a/\s.heap.IsList _ a.toArray/\_:=by
   obtain⟨a,f,p,g⟩:=I.list h
   exact⟨a,f,p.isList,g⟩
  obtain⟨as,q⟩:=DatVs.reads I ds y f
  exact⟨_,.list e c d (by simpa using q)⟩
 | _,_,_,.tup h ds,y,r=>by
  cases r
  obtain⟨a,f,p,g⟩:=I.tuple h
  obtain⟨o,e,c,n,d⟩:=p
  obtain⟨as,q⟩:=DatVs.reads I ds y f
  exact⟨_,.tuple e c d (by simpa using q)⟩
theorem DatVs.reads(I:Inv X a5 σ H s):∀ {xs:List V} {ds:List Dz} {us:List V9},DatVs X.K H xs ds->PyData.canLayAll0 ds=true->cI xs us->∃ as,ReadsAll s.heap us ds as
 | _,_,_,.nil,_,r=>by cases r;exact⟨_,.nil⟩
 | _,_,_,.cons (d:=d0) (ds:=ds0) h t,y,r=>by
  have a:(d0.canLay0 && PyData.canLayAll0 ds0)=true:=y
  rw[BE]at a
  cases r with
  | cons r1 r2=>
   obtain⟨as,q⟩:=DatV.reads I h a.1 r1
   obtain⟨bs,b⟩:=DatVs.reads I t a.2 r2
   exact⟨_,.cons q b⟩
end
theorem lK{d:Dz}(h:SeqAt.shaped d=true):d.canLay0=true:=by
 have h':(d.canLay0 && decide (d.depth<=64))=true:=h
 grind
theorem aSN(f:X.A.units+64 < cLine):OpR X (compareOp .Eq) (λx y H Q=>∃ d e,DatV X.K H x d/\DatV X.K H y e/\SeqAt.shaped d=true/\SeqAt.shaped e=true/\Q (.bl (PyData.eqv d e)) H):=by
 intro a5 s σ H x y u v Q I c g h
 obtain⟨d,e,i,j,b,a,q⟩:=h
 obtain⟨k,r1⟩:=i.reads I (lK b) c
 obtain⟨bs,r2⟩:=j.reads I (lK a) g
 exact eq_dataH r1 r2 b a f ⟨.bl _,H,I,rfl,q⟩
theorem aSO(f:X.A.units+64 < cLine):OpR X (compareOp .NotEq) (λx y H Q=>∃ d e,DatV X.K H x d/\DatV X.K H y e/\SeqAt.shaped d=true/\SeqAt.shaped e=true/\Q (.bl (!PyData.eqv d e)) H):=by
 intro a5 s σ H x y u v Q I c g h
 obtain⟨d,e,i,j,b,a,q⟩:=h
 obtain⟨k,r1⟩:=i.reads I (lK b) c
 obtain⟨bs,r2⟩:=j.reads I (lK a) g
 exact ne_dataH r1 r2 b a f ⟨.bl _,H,I,rfl,q⟩
end
theorem SqL.same{K:Frag}{H H':Hp}{a:Az}{xs:List V}(e:aT H H')(h:SqL K H a xs):SqL K H' a xs:=aT.seq e h
theorem SqT.same{K:Frag}{H H':Hp}{a:Az}{xs:List V}(e:aT H H')(h:SqT K H a xs):SqT K H' a xs:=by
 rcases h with (h|⟨o,h⟩)|h
 · exact .inl (.inl (e _ _ h))
 · exact .inl (.inr ⟨o, e _ _ h⟩)
 · exact .inr h
theorem DatV.same{K:Frag}{H H':Hp}(e:aT H H'){x:V}{d:Dz}(h:DatV K H x d):DatV K H' x d:=
 DatV.rec (motive_1:=λx d _=>DatV K H' x d) (motive_2:=λxs ds _=>DatVs K H' xs ds) .non .bl .int .str (λh _ q=>.lst (h.same e) q) (λh _ q=>.tup (h.same e) q) (λh=>.pl (e _ _ h)) .nil (λ_ _ p q=>.cons p q) h
theorem DatVs.same{K:Frag}{H H':Hp}(e:aT H H'){xs:List V}{ds:List Dz}(h:DatVs K H xs ds):DatVs K H' xs ds:=
 DatVs.rec (motive_1:=λx d _=>DatV K H' x d) (motive_2:=λxs ds _=>DatVs K H' xs ds) .non .bl .int .str (λh _ q=>.lst (h.same e) q) (λh _ q=>.tup (h.same e) q) (λh=>.pl (e _ _ h)) .nil (λ_ _ p q=>.cons p q) h
theorem aT.upd{H:Hp}{a:Az}{o:HO}(h:H a=none):aT H (upd H a o):=λb u e=>by rw[aW (bQ e h)];exact e
theorem DatVs.length{K:Frag}{H:Hp}:∀ {xs:List V} {ds:List Dz},DatVs K H xs ds->xs.length=ds.length
 | _,_,.nil=>rfl
 | _,_,.cons _ t=>by simp[DatVs.length t]
theorem DatVs.append{K:Frag}{H:Hp}:∀ {xs ys:List V} {ds es:List Dz},DatVs K H xs ds->DatVs K H ys es->DatVs K H (xs++ys) (ds++es)
 | _,_,_,_,.nil,h=>h
 | _,_,_,_,.cons a t,h=>.cons a (DatVs.append t h)
theorem DatVs.get{K:Frag}{H:Hp}:∀ {xs:List V} {ds:List Dz} {i:Nat} {x:V},DatVs K H xs ds->xs[i]? = some x->∃ d,ds[i]? = some d/\DatV K H x d
 | _,_,_,_,.nil,e=>by simp at e
 | _,_,0,_,.cons a t,e=>by simp at e;subst e;exact⟨_,by simp,a⟩
 | _,_,i+1,x,.cons a t,e=>by
  obtain⟨d,h1,h2⟩:=DatVs.get (i:=i) (x:=x) t (by simpa using e)
  grind
theorem DatVs.get'{K:Frag}{H:Hp}:∀ {xs:List V} {ds:List Dz} {i:Nat} {d:Dz},DatVs K H xs ds->ds[i]? = some d->∃ x,xs[i]? = some x/\DatV K H x d
 | _,_,_,_,.nil,e=>by simp at e
 | _,_,0,_,.cons a t,e=>by simp at e;subst e;exact⟨_,by simp,a⟩
 | _,_,i+1,x,.cons a t,e=>by
  obtain⟨d,h1,h2⟩:=DatVs.get' (i:=i) (d:=x) t (by simpa using e)
  grind
end L2
namespace SX
open PySem.W
section
variable{prog:P9}{w:W9}{A:U9}{E:V9->S9->Prop}{h:H9}{g:Array GenState}{d:Drawn}{t:Nat}{os:OsState}{K:Frag}
variable{nm q:Str}{C N:Az}{bs bm bmB:List V9}{hdct:Bool}{sn:List Str}{sub:List V9}{ab:Bool}{col:O9 Bool}{dd:O9 Az}{k0 k1 k2 k3 k5:O9 V9}{B newId initId:String}
structure BmOk(B:String)(bm:List V9):Prop where
 hasB:bm.contains (.type B)=true
 hasBase:bm.contains (.type "BaseException")=true
 noAttr:bm.contains (.type "AttributeError")=false
 noName:bm.contains (.type "NameError")=false
theorem yC{M:Model}{env:Env}{s:S9}{x:Sem V9}{Q:Flow->S9->Prop}(T:BmOk B bm)(h:A.handled=none)
  (hx:wpAny M A x (λv s₁=>∃ e od vs,v=.ref e/\s₁.heap.get? C=some (excClassObj nm q C N bs bm hdct sn sub ab col dd k0 k1 k2 k3 k5 newId) /\
   s₁.heap.get? e=some {cls:=.ref C,dict:=od,data:=.fields vs}/\vs[1]? = some .none/\E (.ref e) s₁) E s) :
  wpAny M A (raiseStmt env (some x) none) Q E s:=by
 have b:(Value.ref C::bm).contains (.type "BaseException")=true:=by rw[List.contains_cons,T.hasBase,Bool.or_true]
 unfold raiseStmt
 refine AB (BO hx (λv s₁ a=>?_) λ_ _ x=>x)
 obtain⟨e,od,vs,rfl,f,c,h1,i⟩:=a
 obtain⟨k,g,d,j,os⟩:=s₁
 repeat (first|with_reducible refine ER c ?_|with_reducible refine ER f ?_|(with_reducible refine FH f ?_;rw[b])|(with_reducible refine B8 c rfl h1 ?_)|wp_step)
 exact wpAny_raiseNew_none h i
end
end SX
namespace SX
open PySem.W PySem.Builtin PySem.Builtin.ObjectAttr
abbrev k6:List V9:=[.type "ValueError",.type "Exception",.type "BaseException",.type "object"]
structure ExcC(K:Frag)(W C:Az):Prop where
 lk:∃ nm q N bs sn sub ab col dd k0 k1 k2 k3 k5,K.lookup C=some (excClassObj nm q C N bs (.ref W::k6) true sn sub ab col dd k0 k1 k2 k3 k5 "ValueError.__new__")
 sa:findIn K (.ref C) "__setattr__"=some (some (.builtin "object.__setattr__"))
 ga:findIn K (.ref C) "__getattribute__"=some (some (.builtin "BaseException.__getattribute__"))
 gh:findIn K (.ref C) "__getattr__"=some none
 cl:findIn K (.ref C) "__class__"=some (some (.builtin "object.__class__"))
 clg:specialIn K (.builtin "object.__class__") "__get__"=some (some (.builtin "getset_descriptor.__get__"))
 clt:takesIn K (.builtin "object.__class__")=some true
 kp:keepIn K (.ref C)=true
theorem aMG(W:Az):BmOk "ValueError" (.ref W::k6):=⟨by simp[k6],by simp[k6],by simp[k6],by simp[k6]⟩
theorem ExcC.cls{K:Frag}{W C:Az}(c:ExcC K W C):∃ cd:ClassData,clsIn K C=some cd/\cd.hasDict=true/\cd.mro=.ref C::.ref W::k6:=by
 obtain⟨nm,q,N,bs,sn,sub,ab,col,dd,k0,k1,k2,k3,k5,e⟩:=c.lk
 exact⟨_,by unfold clsIn;rw[e],rfl,rfl⟩
theorem ExcC.mro{K:Frag}{W C:Az}(c:ExcC K W C)(b:V9):mroIn K C b=some ((Value.ref C::.ref W::k6).contains b):=by
 obtain⟨cd,h1,_,a⟩:=c.cls
 unfold mroIn
 grind
section
variable{prog:P9}{w:W9}{A:U9}{E:V9->S9->Prop}{s:S9}{K:Frag}{W C x:Az}{name:Str}{v:V9}{vs:Array V9}
theorem aJW{od:O9 Az}{o:O9 Obj}{Q:O9 V9->S9->Prop}(X:K.In s.heap)(c:ExcC K W C)(I:InstAt s.heap x ⟨.ref C,od,.fields vs,#[]⟩ C o)(h:Q (some (.ref C)) {s with toks:=s.toks+1}) :
  wpAny (model prog w) A (getAttr? (.ref x) "__class__") Q E s:=by
 obtain⟨i,g,d,t,os⟩:=s
 obtain⟨cd,e,hdct,f⟩:=c.cls
 have b:=I.type (M:=model prog w)
 have L1:=looks_findIn (M:=model prog w) X c.ga
 have L2:=looks_findIn (M:=model prog w) X c.gh
 have sub:Looks (model prog w) i (isInstance (.ref x) (.type "BaseException")) true:=b.andThen (looks_mroIn X (by rw[c.mro];simp[k6]))
 have l:findObj K C o "__class__"=some (.bind (.builtin "getset_descriptor.__get__") (.builtin "object.__class__")):=by
  unfold findObj
  rw[e,ET,c.cl,ET]
  simp only[c.clg,c.clt,ET]
 have k:=looks_find (M:=model prog w) X I l
 unfold getAttr?
 refine AB (wpAny_mkText ?_)
 unfold getAttrBy?
 refine AB (FR ?_)
 unfold getAttrBy
 refine DD (AB (b.at (AB (L1.at ?_))))
 show wpAny _ _ (getAttrByItsOwn _ _ _ _ _ _) _ _ _
 unfold getAttrByItsOwn
 refine AB ?_
 show wpAny _ _ (typeLookup (.ref C) "__getattr__") _ _ _
 refine L2.at (AB (FR (DD ?_)))
 unfold callGetattribute
 rw[show(false && onTheHeap (Value.builtin "BaseException.__getattribute__"))=false from rfl,AE CG]
 unfold boundAndCalled
 rw[FS.ga.bind]
 refine AB (AM ?_)
 have j:builtinKind "BaseException.__getattribute__"=some .slot:=by decide +kernel
 have a:splitId "BaseException.__getattribute__"=some ("BaseException","__getattribute__"):=by decide +kernel
 refine FY (codeAny_call_builtin FS.ga.plain PySem.F.entry_bexc_ga (@check_slot (model prog w) _ _ _ "BaseException.__getattribute__" "BaseException" "__getattribute__" (.ref x) [.str "__class__" t] [] _ j a sub (PySem.F.args_bexc_ga (.ref x) (.str "__class__" t)) ?_))
 refine AB (AM (AB (AM ?_)))
 refine AB (b.at (AB (k.at ?_)))
 show wpAny _ _ (holding [.builtin "object.__class__"] (call (.builtin "getset_descriptor.__get__") [.builtin "object.__class__",.ref x,.ref C]) >>= ret) _ _ _
 refine AB (DD (FY (class_get (s:=⟨i,g,d,t+1,os⟩) X I (by rw[c.mro];simp[k6]) ?_)))
 refine AM ?_
 show wpAny _ _ (handedOut (.ref C)) _ _ _
 exact AM (AM h)
theorem wQ{od:O9 Az}{o:O9 Obj}(c:ExcC K W C):KitX K (.ref x) (.ref C) (λh=>InstAt h x ⟨.ref C,od,.fields vs,#[]⟩ C o) where
 ty:=λ_ _ _ I=>I.type
 it:=λ_ _ X _=>by
  obtain⟨nm,q,N,bs,sn,sub,ab,col,dd,k0,k1,k2,k3,k5,e⟩:=c.lk
  intro g i j s' k q
  unfold isType loadHead
  exact AB (wpAny_loadPart (k _ _ (X _ _ e)) (AM q))
 ne:=λh f dd d n sl X a=>by
  obtain⟨nm,q,N,bs,sn,sub,ab,col,dd,k0,k1,k2,k3,k5,e⟩:=c.lk
  refine Bool.eq_false_iff.mpr λq=>?_
  have b:C=f:=Value.ref.inj (beq_iff_eq.mp q)
  subst b
  have z:=(X _ _ e).symm.trans a
  grind
 ca:=λX I k=>aJW X c I k
theorem yD{od:O9 Az}{o:O9 Obj}{a:V9}{b:Bool}{Q:V9->S9->Prop}(X:K.In s.heap)(c:ExcC K W C)(I:InstAt s.heap x ⟨.ref C,od,.fields vs,#[]⟩ C o)(e:kitOne K (.ref C) a=some b)(h:∀ tk,Q (.bool b) {s with toks:=tk}) :
 wpAny (model prog w) A (call (.builtin "isinstance") [.ref x,a]) Q E s:=kia_one (wQ c) X I e (λz=>nomatch z) h
end
end SX
namespace SX
open PySem.W
def wR(h:H9)(vs:Array V9)(e:Az)(T:O9 Az):Prop:=
 match T with
 | none=>vs[1]? = some .none
 | some t=>vs[1]? = some (.ref t)/\t≠e/\∃ oT ts x,h.get? t=some oT/\oT.data=.fields ts/\ts[3]? = some x
section
variable{M:Model}{A:U9}{E:V9->S9->Prop}{s:S9}
structure Noted(FL:List Az)(e:Az)(T:Option Az)(C:Az)(od:Option Az)(h h':Heap)(T':Option Az):Prop where
 keep:∀ b o,b∉FL->b≠e->(∀ t,T=some t->b≠t)->h.get? b=some o->h'.get? b=some o
 slot:∀ b o,b∈FL->h.get? b=some o->∃ sl,h'.get? b=some {o with slots:=sl}
 exc:∃ vs,h'.get? e=some ⟨.ref C,od,.fields vs,#[]⟩/\wR h' vs e T'
 new:(∃ t,T'=some t/\h.objs.size<=t)\/(T'=T/\T≠none)
 there:∀ t o,T=some t->h.get? t=some o->∃ o',h'.get? t=some o'
theorem aMH{base:H9}{env:Env}{outer:List Env}{L e C:Az}{od:O9 Az}{vs:Array V9}{T:O9 Az}{Q:Unit->S9->Prop}
  (R:A.frames=some (env::outer)) (X:s.heap.FunFrames base (env::outer)) (hf:env.frame=some L) (N:s.heap.get? e=some ⟨.ref C,od,.fields vs,#[]⟩) (U:wR s.heap vs e T)
  (h:∀ h' T',T'≠none->Noted ((env::outer).filterMap (·.frame)) e T C od s.heap h' T'->Q () {s with heap:=h'}) :
  wpAny M A (noteFrame (.ref e) env) Q E s:=by
 have ae:∀ b∈(env::outer).filterMap (·.frame),∃ o,s.heap.get? b=some o/\∀ vs,o.data≠.fields vs:=λb j=>(X.mem j).2
 have B:e∉(env::outer).filterMap (·.frame):=λhm=>by
  grind
 have J:1 < vs.size:=by
  unfold wR at U
  grind
 have D:∀ (r:H9) (g:V9) (f:Bool),r.FunFrames base (env::outer)->r.objs.size=s.heap.objs.size->r.get? e=some ⟨.ref C,od,.fields vs,#[]⟩->
   (∀ b o,(∀ t,T=some t->b≠t)->s.heap.get? b=some o->r.get? b=some o)->(∀ t o,T=some t->s.heap.get? t=some o->∃ o',r.get? t=some o'/\t∉(env::outer).filterMap (·.frame)/\t≠e)->
   wpAny M A (do let a <-frameOf env;let n <-entryPlaceOf L f;let b <-EntryCells.newEntry g a .none (rawInt L) .none n;setField (.ref e) 1 b) Q E {s with heap:=r}:=by
  intro r g f S O V Y tp
  refine AB (wpAny_frameOf_fun (s:={s with heap:=r}) R S hf λc d=>?_)
  refine AB (wpAny_entryPlaceOf λn I=>?_)
  unfold EntryCells.newEntry newFields
  refine AB (EQ ?_ (I.sizeOk5 _ _ _ _ _))
  have k:c.get? e=some ⟨.ref C,od,.fields vs,#[]⟩:=(d.2.1 e B).trans V
  have l:=AC (h:=c) {cls:=.type "traceback",dict:=none,data:=.fields ([g,.ref L,.none,rawInt L,.none]++(if n.isEmpty then List.replicate 6 Value.none else n)).toArray} k
  refine EK l rfl J ?_
  have G:c.objs.size≠e:=DL (AT k)
  have v:=CJ (Obj.mapFields (·.setIfInBounds 1 (Value.ref c.objs.size))) l rfl
  have w:=(DX (c.push {cls:=.type "traceback",dict:=none,data:=.fields ([g,.ref L,.none,rawInt L,.none]++(if n.isEmpty then List.replicate 6 Value.none else n)).toArray})
   (Obj.mapFields (·.setIfInBounds 1 (Value.ref c.objs.size))) (BS G)).trans (A9 c rfl)
  have p:∀ b o,b≠e->c.get? b=some o->
    ((c.push {cls:=.type "traceback",dict:=none,data:=.fields ([g,.ref L,.none,rawInt L,.none]++(if n.isEmpty then List.replicate 6 Value.none else n)).toArray}).update e (Obj.mapFields (·.setIfInBounds 1 (Value.ref c.objs.size)))).get? b=some o:=
   λb o y j=>by
    rw[DX _ _ (BS y)]
    exact AC _ j
  refine h _ (some c.objs.size) (by simp) ⟨λb o j y u q=>?_,λb o j q=>?_,⟨vs.setIfInBounds 1 (.ref c.objs.size),?_,?_⟩,.inl ⟨_,rfl,by rw[d.1,O];exact AQ _⟩,λt o e1 e2=>?_⟩
  .exact p b o y ((d.2.1 b j).trans (Y b o u q))
  .have u:∀ t,T=some t->b≠t:=λt e1 z=>by
    grind
   obtain⟨sl,Z⟩:=d.2.2 b o (Y b o u q)
   grind
  .exact v
  .refine ⟨by simp[J],G,_,_,rawInt L,w,rfl,by first|(simp;done)|(rcases I with rfl|⟨_,_,_,_,_,_,_,rfl⟩<;>simp)⟩
  .obtain ⟨o',Z,z2,z3⟩:=tp t o e1 e2
   exact⟨o',p t o' z3 ((d.2.1 t z2).trans Z)⟩
 unfold noteFrame
 simp only[hf]
 cases T with
 | none=>
  refine AB (B8 N rfl U ?_)
  simp_all
 | some t=>
  obtain⟨H,F,oT,ts,x,K,m,P⟩:=U
  have ac:t∉(env::outer).filterMap (·.frame):=λhm=>by
   grind
  refine AB (B8 N rfl H ?_)
  rw[AD (show(Value.ref t != Value.none)=true from by simp)]
  refine AB (B8 K m P ?_)
  by_cases W:(x == rawInt L)=true
  .rw[AD W]
   refine AM (h s.heap (some t) (by simp) ⟨λb o _ _ _ q=>q,λb o _ q=>⟨o.slots,q⟩,⟨vs,N,H,F,oT,ts,x,K,m,P⟩,.inr ⟨rfl,by simp⟩,λt' o e1 q=>⟨o,q⟩⟩)
  .rw[AE W]
   refine AB (EK K m (FT.mp P).1 ?_)
   have i:∀ b,b≠t->(s.heap.update t (Obj.mapFields (·.setIfInBounds 3 Value.none))).get? b=s.heap.get? b:=λb j=>DX _ _ (BS j)
   have ad:=CJ (Obj.mapFields (·.setIfInBounds 3 Value.none)) K (EY (DS m _))
   refine D (s.heap.update t (Obj.mapFields (·.setIfInBounds 3 Value.none))) _ _ (X.of_keeps λb o j aa=>⟨o,(i b λq=>?_).trans j,rfl⟩) (CF ..).1 ((i e (BS F)).trans N) (λb o j q=>(i b (j t rfl)).trans q) (λt' o e1 q=>?_)
   .grind
   .grind
theorem aH4{e C t:Az}{od:O9 Az}{vs:Array V9}{fr:O9 Az}{Q:Unit->S9->Prop}(i:s.heap.get? e=some ⟨.ref C,od,.fields vs,#[]⟩)(j:wR s.heap vs e (some t))
  (h:∀ h',Heap.SameBut t s.heap h'->wR h' vs e (some t)->Q () {s with heap:=h'}):wpAny M A (setFlight (.ref e) fr) Q E s:=by
 obtain⟨c,d,oT,k,x,f,a,g⟩:=j
 unfold setFlight
 refine AB (B8 i rfl c ?_)
 rw[AD (show(Value.ref t != Value.none)=true from by simp)]
 have b:=(FT.mp g).1
 refine EK f a b (h _ (CF ..) ⟨c,d,_,_,_,CJ _ f (EY (DS a _)),DS a _,Array.getElem?_setIfInBounds_self_of_lt b⟩)
end
end SX
namespace L2
open PySem.Spec PyProof.Rows
def ExN(e C:Az)(od:O9 Az):HO:=.ext λh=>∃ vs,h.get? e=some ⟨.ref C,od,.fields vs,#[]⟩/\vs[1]? = some .none
def ExO(e C:Az)(od:O9 Az):HO:=.ext λh=>∃ vs,h.get? e=some ⟨.ref C,od,.fields vs,#[]⟩
section
variable{P:P9}{w:W9}{H:Hp}{h:H9}{e C:Az}{od:O9 Az}
theorem aJX{vs:Array V9}(a:h.get? e=some ⟨.ref C,od,.fields vs,#[]⟩):cR P w H h e (ExO e C od):=
 ⟨⟨vs,a⟩,⟨_,a⟩,λh1 h2 ⟨vs,a⟩ k=>⟨vs,k _ a⟩⟩
theorem tG(ok:HOk P w H h)(q:H e=some (ExO e C od)):∃ vs,h.get? e=some ⟨.ref C,od,.fields vs,#[]⟩:=(ok e _ q).1
end
structure FlyAt(X:Cx)(H:Hp)(h:Heap)(e C:Az)(od:Option Az)(traced:Bool):Prop where
 tr:H e=some (ExO e C od)
 tb:∃ vs T,h.get? e=some ⟨.ref C,od,.fields vs,#[]⟩/\SX.wR h vs e T/\(∀ t,T=some t->H t=none/\X.s₀.heap.objs.size<=t/\∀ p∈X.pn,p.1≠t)/\(traced=true->T≠none)
def Fly(X:Cx)(E:XK)(ev:V9)(s':S9):Prop:=∃ e C od σ H',ev=.ref e/\Inv X [] σ H' s'/\FlyAt X H' s'.heap e C od false/\E (.ref C) (some e) H'
abbrev Cx.fly(X:Cx)(E:XK):Cx:=X.wish (Fly X E)
def rL(X:Cx):Prop:=X.stack=X.env::X.outer/\X.env.frame=some X.env.locals
section
variable{X:Cx}{σ:St}{H:Hp}{s:S9}{e C:Az}{od:O9 Az}{b:Bool}
theorem aDC(I:Inv X [] σ H s){t:Az}{oT:Obj}{b:Array V9}(f:s.heap.get? t=some oT)(e:oT.data=.fields b):t≠X.env.locals/\(∀ x c,X.env.cells.lookup x=some c->c≠t):=by
 refine⟨λz=>?_,λx c q z=>?_⟩
 .obtain ⟨m,⟨o,es,g,d,a,_⟩,_⟩:=I.loc
  grind
 .obtain ⟨v,o,d,a⟩:=I.cell x c q
  grind
theorem rM{Q:Unit->S9->Prop}{E':V9->S9->Prop}(U:rL X)(I:Inv X [] σ H s)(f:FlyAt X H s.heap e C od b)(h:∀ s',Inv X [] σ H s'->FlyAt X H s'.heap e C od true->Q () s') :
  wpAny (model X.prog X.w) X.A (noteFrame (.ref e) X.env) Q E' s:=by
 obtain⟨i,k⟩:=U
 obtain⟨vs,T,O,E,hT,_⟩:=f.tb
 have G:X.A.frames=some (X.env::X.outer):=by rw[<-i];exact I.ok.frames
 have Z:s.heap.FunFrames X.base (X.env::X.outer):=by have:=I.stack;rw[i]at this;exact this
 have j:(X.env::X.outer).filterMap (·.frame)=X.env.locals::X.fs:=by rw[D8,k];rfl
 refine SX.aMH (T:=T) G Z k O E λh' S K N=>?_
 rw[j]at N
 have trk:∀ c u,H c=some u->c∉X.env.locals::X.fs:=λc u q z=>by
  have:=I.stkFree c (by unfold frs;rw[i,j];exact z)
  grind
 have nT:∀ c u,H c=some u->∀ t,T=some t->c≠t:=λc u q t e1 z=>by
  grind
 have l:HOk X.prog X.w H h':=λc u q=>by
  by_cases g:c=e
  .subst g
   rw[f.tr]at q;cases q
   obtain⟨d,a,_⟩:=N.exc
   exact aJX a
  .refine (I.hok c u q).stay (λc' v F a=>N.keep c' v ?_ ?_ ?_ a) (λ_ q=>q) (λ_ _ q=>q) λ_ _ q=>q
   .grind
   .rcases F with z|z
    .grind
    .intro P;rw[P,f.tr]at z;cases z
   .grind
 have M:Inv X [] σ H {s with heap:=h',gens:=s.gens,drawn:=s.drawn,toks:=s.toks}:=by
  refine I.step (ch:=T.toList) (λc g=>?_) (λc o h1 h2 D q n=>?_) (λc o h1 h2 D q n=>N.slot c o (AL _ h2) q) (λ_ _ _ _ n=>n) (λc o D q=>?_) (λ_ _ q=>q) (λ_ _ _ q=>q) (λ_ _ q=>q) (λm W=>?_) l I.bare
  .have e1:T=some c:=by cases T<;>simp at g;rw[g]
   obtain⟨t1,Y,t3⟩:=hT c e1
   rw[e1]at E
   obtain⟨_,_,oT,ts,x,J,B,_⟩:=E
   obtain⟨a1,a2⟩:=aDC I J B
   grind
  .refine N.keep c o ?_ ?_ ?_ q
   .grind
   .intro z;rw[z,f.tr]at n;cases n
   .grind
  .by_cases g:c=e
   .subst g
    obtain⟨d,a,_⟩:=N.exc
    grind
   .by_cases L:c∈X.env.locals::X.fs
    .obtain ⟨sl,a⟩:=N.slot c o L q
     grind
    .exact ⟨o,N.keep c o L g (λt e1 z=>D (by rw[e1,z];simp)) q⟩
  .obtain ⟨o,es,R,ho,r⟩:=W
   obtain⟨sl,a⟩:=N.slot _ o AV ho
   exact⟨_,es,R,a,r⟩
 refine h _ M ⟨f.tr,?_⟩
 obtain⟨d,a,t'⟩:=N.exc
 refine⟨d,S,a,t',λt e1=>?_,λ_=>K⟩
 rcases N.new with ⟨Y,e2,y⟩|⟨e2,_⟩
 .rw[e1]at e2;cases e2
  refine⟨I.hok.fresh y,BR I.sz y,λp V z=>?_⟩
  have:=AT (I.pin p (B9 _ V)).1
  grind
 .grind
theorem qB{Q:Unit->S9->Prop}{D:V9->S9->Prop}{fr:O9 Az}{A:U9}(I:Inv X [] σ H s)(f:FlyAt X H s.heap e C od true)(h:∀ s',Inv X [] σ H s'->FlyAt X H s'.heap e C od true->Q () s') :
  wpAny (model X.prog X.w) A (setFlight (.ref e) fr) Q D s:=by
 obtain⟨vs,T,i,k,E,B⟩:=f.tb
 cases T with
 | none=>exact absurd rfl (B rfl)
 | some t=>
  obtain⟨j,l,n⟩:=E t rfl
  refine SX.aH4 i k λh' m c=>?_
  obtain⟨_,g,oT,F,x,d,a,_⟩:=k
  obtain⟨v,y⟩:=aDC I d a
  have r:Inv X [] σ H {s with heap:=h'}:=I.turned (t':=s.toks) (it:=t) (λb o z q=>(m.2 b z).trans q) j v (.inr l) y λp u=>n p (by simpa using u)
  exact h _ r ⟨f.tr,vs,some t,(m.2 e (BS g)).trans i,c,λt' e1=>by cases e1;exact⟨j,l,n⟩,λ_=>by simp⟩
theorem aJY{Q:V9->S9->Prop}{d:V9->S9->Prop}{A:U9}(f:FlyAt X H s.heap e C od true)(h:∀ t,Q (.ref t) s):wpAny (model X.prog X.w) A (field (.ref e) 1) Q d s:=by
 obtain⟨vs,T,b,c,g,a⟩:=f.tb
 cases T with
 | none=>exact absurd rfl (a rfl)
 | some t=>exact B8 b rfl c.1 (h t)
theorem iQ{E:XK}(h:rL X):PassesOwn (model X.prog X.w) X.A X.env (Fly X E):=by
 rintro m s' ⟨e,C,od,σ,H,rfl,I,f,q⟩
 refine rM h I f λl i d=>?_
 unfold cameBackBy
 refine AB (aJY d λt=>?_)
 rw[AE (by simp)]
 exact qB i d λk j g=>⟨e,C,od,σ,H,rfl,j,⟨g.tr,let ⟨vs,T,a,b,c,_⟩:=g.tb;⟨vs,T,a,b,c,λz=>nomatch z⟩⟩,q⟩
end
def CXe(P:P9)(w:W9):CXT:=λouter H s E ev s'=>∃ e C od H',ev=.ref e/\s'.os=s.os/\AllBare s'.gens/\Un (frs outer) [] H H' s.heap s'.heap/\HOk P w H' s'.heap/\H' e=some (ExO e C od) /\
 (∃ vs T,s'.heap.get? e=some ⟨.ref C,od,.fields vs,#[]⟩/\SX.wR s'.heap vs e T/\∀ t,T=some t->H' t=none/\s.heap.objs.size<=t)/\E (.ref C) (some e) H'
section
variable{X:Cx}
theorem bD{E f:XK}(h:∀ c e H,E c e H->f c e H):oJ (CXe X.prog X.w) (X.fly f) E:=by
 rintro a5 σ H s m s' I ⟨e,C,od,H',rfl,os,bare,un,hok,he,⟨vs,T,q1,q2,q3⟩,q⟩
 have d:Inv X a5 σ H s:=I.unwish
 have g:Inv X [] σ H s:=d.pins_of λp a=>absurd a (by simp)
 have i:Inv X [] σ H' s':=g.call' os un hok bare (λb l=>absurd l (by simp))
 refine⟨e,C,od,σ,H',rfl,i,⟨he,vs,T,q1,q2,λt e1=>?_,λz=>nomatch z⟩,h _ _ _ q⟩
 obtain⟨j,k⟩:=q3 t e1
 refine⟨j,BR d.sz k,λp a z=>?_⟩
 have:=AT (d.pin p (B9 _ a)).1
 grind
theorem PSs.unfly{E:XK}{st:List Stmt}{t:TS}(h:PSs (X.fly E) st t)(hx:∀ e s',Fly X E e s'->X.xe e s'):PSs X st t:=λa5 s σ H D I a=>
 BO (h a5 s σ H D (I.wish _) a) (λf s' q=>SP.unwish q) hx
end
theorem aBW{P:P9}{w:W9}{K:Frag}{mg:Str->O9 V9}{base:H9}{N:List Str}{qual:Str}{scope:Scope}{f:Az}{cd:V9}{A:U9}{outer:List Env}{s:S9}{H:Hp}{E:XK}{g:V9}{s':S9}
  (h:Fly (cxOf (CXe P w) P w K mg base N qual scope f cd A outer s H E) E g s'):(cxOf (CXe P w) P w K mg base N qual scope f cd A outer s H E).xe g s':=by
 obtain⟨e,C,od,σ,H',rfl,I,j,q⟩:=h
 show wpAny (model P w) _ (leaving _ (.ref e)) _ _ s'
 unfold leaving
 have k:rL (cxOf (CXe P w) P w K mg base N qual scope f cd A outer s H E):=⟨rfl,rfl⟩
 refine AB (rM k I j λo l m=>qB l m λn d i=>?_)
 obtain⟨vs,T,a,b,c,_⟩:=i.tb
 exact⟨e,C,od,H',rfl,d.os,d.bare,d.base,d.hok,i.tr,⟨vs,T,a,b,λt e1=>⟨(c t e1).1,(c t e1).2.1⟩⟩,q⟩
section
variable{P:P9}{w:W9}{K:Frag}{mg:Str->O9 V9}{base:H9}
theorem Fun.okX{x qual:Str}{st:Stmt}{f:Az}{fd:FuncData}{N ps:List Str}{k:Nat}{sp:Sp}(F:Fun K x qual st f fd)(S:FnScope N ps (aK st))(len:∀ vs H Q E,sp vs H Q E->vs.length=ps.length)
  (a:∀ (cdv:V9) (A:U9) (outer:List Env) (s:S9) (H:Hp) (vs:List V) (Q:VK) (E:XK),Room k (A.deeper (envOfC qual (aK st) s.heap.objs.size f cdv))->sp vs H Q E->
   ∃ t,PSs ((cxOf (CXe P w) P w K mg base N qual (aK st) f cdv A outer s H E).fly E) (cX st) t/\t {nx:=λ_ H'=>Q .non H',rt:=Q} (start N vs) H):FnOk P w K mg base (CXe P w) (k+1) f fd ps sp:=by
 obtain⟨i,od,kV,doc,pm,j,cdv,ct,e,rfl,g,c⟩:=F.ex
 refine aH1 g c S len λA outer s H vs Q E d b=>?_
 obtain⟨t,h,q⟩:=a cdv A outer s H vs Q E d b
 exact⟨t,h.unfly λ_ _ z=>aBW z,q⟩
end
inductive TyX(K:Frag)(H:Hp):V->V9->Prop where
 | pl {x:V} {t:V9} (h:TyOf K H x t):TyX K H x t
 | exc {a W C:Az} {d:Az} {fs:List (Str×V)} (c:SX.ExcC K W C) (e:H a=some (ExO a C (some d))) (ed:H d=some (.xd fs)):TyX K H (.ref a) (.ref C)
 | exc0 {a W C:Az} (c:SX.ExcC K W C) (e:H a=some (ExO a C none)):TyX K H (.ref a) (.ref C)
def wS:V->O9 V9
 | .ty n=>some (.type n)
 | .ref a=>some (.ref a)
 | _=>none
theorem aAE{x:V}{u v:V9}(h:wS x=some v)(r:bO x u):u=v:=by
 cases x with
 | ty n=>cases h;exact r
 | ref a=>cases h;exact r
 | _=>cases h
theorem fG{X:Cx}:j9 X (.builtin "isinstance") (λxs H Q=>∃ x c t cv b,xs=[x,c]/\TyX X.K H x t/\wS c=some cv/\PySem.W.kitOne X.K t cv=some b/\Q (.bl b) H):=by
 intro a5 s σ H xs us Q I r h
 obtain⟨x,c,t,cv,b,rfl,f,m,e,q⟩:=h
 obtain⟨u,v,rfl,j,n⟩:=rK r
 obtain rfl:=aAE m n
 cases f with
 | pl f=>exact aJR I j f e λl=>⟨.bl b,H,I.tok _,rfl,q⟩
 | @exc a W C d fs cc ea ed=>
  cases(show u=Value.ref a from j)
  obtain⟨vs,k⟩:=tG I.hok ea
  obtain⟨mA,g,r⟩:=(show cR X.prog X.w H s.heap d (.xd fs)from I.hok d _ ed)
  obtain⟨od,i,_⟩:=tD g
  exact SX.yD (o:=some od) I.kIn cc ⟨k,rfl,rfl,i⟩ e λl=>⟨.bl b,H,I.tok _,rfl,q⟩
 | @exc0 a W C cc ea=>
  cases(show u=Value.ref a from j)
  obtain⟨vs,k⟩:=tG I.hok ea
  exact SX.yD (o:=none) I.kIn cc ⟨k,rfl,rfl,True.intro⟩ e λl=>⟨.bl b,H,I.tok _,rfl,q⟩
end L2
namespace SX
open PySem.W
structure ExcAny(K:Frag)(C:Az)(bm:List V9):Prop where
 lk:∃ nm q N bs hd sn sub ab col dd k0 k1 k2 k3 k5 newId,K.lookup C=some (excClassObj nm q C N bs bm hd sn sub ab col dd k0 k1 k2 k3 k5 newId)
 base:bm.contains (.type "BaseException")=true
theorem aFV{M:Model}{A:U9}{E:V9->S9->Prop}{K:Frag}{C W:Az}{a b:List V9}{s:S9}{e:Az}{k:Obj}{Q:Bool->S9->Prop}(X:K.In s.heap)(c:ExcAny K C a)(w:ExcAny K W b)
  (r:s.heap.get? e=some k) (h:k.cls=.ref C) (m:Q ((Value.ref C::a).contains (.ref W)) s):wpAny M A (excMatches (.ref e) (.ref W)) Q E s:=by
 obtain⟨nm,q,N,bs,T,sn,sub,ab,col,dd,k0,k1,k2,k3,k5,B,p⟩:=c.lk
 obtain⟨u,R,U,y,G,v,o,O,l,D,z,F,H,P,x,j,J⟩:=w.lk
 have L:=X _ _ p
 have n:=X _ _ J
 have i:(Value.ref W::b).contains (.type "BaseException")=true:=by rw[List.contains_cons,w.base,Bool.or_true]
 have f:=tc_notTuple
 obtain⟨S,g,d,t,os⟩:=s
 unfold excMatches
 repeat (first|(with_reducible refine ER r ?_;rw[h])|with_reducible refine ER n ?_|(with_reducible refine FH n ?_;rw[i])|with_reducible refine FH L ?_|wp_step)
 cases I:(Value.ref C::a).contains (.ref W)<;>(rw[I]at m;wp_walk;exact m)
end SX
namespace L2
open PySem.Spec PyProof.Rows
abbrev Cx.pnw(X:Cx)(pn:List (Az×Obj)):Cx:={X with pn:=pn}
noncomputable abbrev Cx.inH(X:Cx)(e:Az):Cx:={X with A:=X.A.mark (some (.ref e)),calm:=false,xe:=λ_ _=>False}
section
variable{X:Cx}{a5:List (Az×Obj)}{σ:St}{H:Hp}{s:S9}{e:Az}
theorem Cx.Ok.pnw{X:Cx}(ok:X.Ok)(pn:List (Az×Obj)):(X.pnw pn).Ok:=
 ⟨ok.mod,ok.kind,ok.glob,ok.blt,ok.above,ok.inj,ok.has,ok.cab,ok.hd,ok.frames,ok.stk,ok.exf,ok.bs,ok.bsz,ok.noex,ok.exfs,ok.funs,ok.frf⟩
theorem Cx.Ok.unpn{X:Cx}{pn:List (Az×Obj)}(ok:(X.pnw pn).Ok):X.Ok:=
 ⟨ok.mod,ok.kind,ok.glob,ok.blt,ok.above,ok.inj,ok.has,ok.cab,ok.hd,ok.frames,ok.stk,ok.exf,ok.bs,ok.bsz,ok.noex,ok.exfs,ok.funs,ok.frf⟩
theorem Inv.toPn(I:Inv X a5 σ H s):Inv (X.pnw (X.pn++a5)) [] σ H s:=
 ⟨I.ok.pnw _,I.os,I.bare,I.base,I.loc,I.cell,I.free,I.freeC,λp a=>I.pin p (by
  have z:p∈(X.pn++a5)++[]:=a
  rw[CT]at z
  exact z),I.hok,I.len⟩
theorem Inv.ofPn{pl:List (Az×Obj)}(I:Inv (X.pnw (X.pn++a5)) pl σ H s):Inv X a5 σ H s:=
 ⟨I.ok.unpn,I.os,I.bare,I.base,I.loc,I.cell,I.free,I.freeC,λp a=>I.pin p (B9 _ a),I.hok,I.len⟩
theorem SP.ofPn{pl:List (Az×Obj)}{E:V9->S9->Prop}{D:lG}{f:Flow}{s':S9}(h:SP ((X.pnw (X.pn++a5)).wish E) pl D f s'):SP X a5 D f s':=by
 cases f with
 | next=>obtain⟨a,b,c,d⟩:=h;exact⟨a,b,c.unwish.ofPn,d⟩
 | brk=>obtain⟨a,b,c,d⟩:=h;exact⟨a,b,c.unwish.ofPn,d⟩
 | cont=>obtain⟨a,b,c,d⟩:=h;exact⟨a,b,c.unwish.ofPn,d⟩
 | ret u=>obtain⟨v,a,b,c,d⟩:=h;exact⟨v,a,b,c.unwish.ofPn,d⟩
theorem Cx.Ok.inH{X:Cx}(ok:X.Ok)(e:Az):(X.inH e).Ok:=
 ⟨ok.mod,ok.kind,ok.glob,ok.blt,ok.above,ok.inj,ok.has,ok.cab,(λz=>nomatch z),ok.frames,ok.stk,ok.exf,ok.bs,ok.bsz,ok.noex,ok.exfs,ok.funs,ok.frf⟩
theorem Inv.inH(I:Inv X a5 σ H s)(e:Az):Inv (X.inH e) a5 σ H s:=
 ⟨I.ok.inH e,I.os,I.bare,I.base,I.loc,I.cell,I.free,I.freeC,I.pin,I.hok,I.len⟩
theorem Inv.ofH(ok:X.Ok)(I:Inv (X.inH e) a5 σ H s):Inv X a5 σ H s:=
 ⟨ok,I.os,I.bare,I.base,I.loc,I.cell,I.free,I.freeC,I.pin,I.hok,I.len⟩
theorem pA{i:Nat}{n:Str}{l:Pos}{Q:Unit->S9->Prop}{M:Model}{A:U9}{U:V9->S9->Prop}(I:Inv X a5 σ H s)(O:X.N.Nodup)(hi:X.N[i]? = some n)(T:X.env.kindOf n=some .local)
  (h:∀ s',Inv X a5 (σ.set i none) H s'->Q () s'):wpAny M A (do bindName X.env n .none;unbindBehindTheSuite X.env n l) Q U s:=by
 obtain⟨m,x,S⟩:=id I.loc
 have r:(X.env.scope.kind == .class || (X.env.scope.kind == .module && X.env.locals != X.env.globals))=false:=by rw[I.ok.kind];rfl
 refine wpAny_nameGoes_keeps T x r λh' v u a=>h _ ?_
 obtain⟨V,_,_,L,_⟩:=id x
 have f:∀ b o,X.s₀.heap.get? b=some o->b≠X.env.locals:=λb o e=>BP (BA (AT e) I.ok.above)
 refine⟨I.ok,I.os,I.bare,⟨λb o e n w t=>(a.2 b (f b o e)).trans (I.base.keep b o e n w t),λb o e n w t=>?_,I.base.free,λb o e t=>?_,I.base.tups,I.base.frzs,I.base.tbls⟩,⟨_,u,λj y J e1 e2 K=>?_⟩,λy c e=>?_,I.free,I.freeC,λp P=>?_,λb G e=>?_,by simpa using I.len⟩
 .obtain ⟨sl,e1⟩:=I.base.slot b o e n w t
  exact⟨sl,(a.2 b (f b o e)).trans e1⟩
 .obtain ⟨o',e1⟩:=I.base.there b o e t
  exact⟨o',(a.2 b (f b o e)).trans e1⟩
 .by_cases C:j=i
  .grind
  .rw[BT (BS C)]at e2
   obtain⟨F,R,q⟩:=S j y J e1 e2 K
   refine⟨F,R,?_⟩
   rcases q with ⟨k,e⟩|⟨k,c,e,z⟩
   .refine .inl ⟨k,?_⟩
    have:y≠n:=λe=>C (wP O e1 (e▸hi))
    grind
   .exact .inr ⟨k,c,e,z.sameBut a (I.cne y c e)⟩
 .obtain ⟨D,z⟩:=I.cell y c e
  exact⟨D,z.sameBut a (I.cne y c e)⟩
 .obtain ⟨e,n,B,E,d⟩:=I.pin p P
  exact⟨(a.2 p.1 B).trans e,n,B,E,d⟩
 .refine (I.hok b G e).stay (λc D g q=>(a.2 c ?_).trans q) (λ_ q=>q) (λ_ _ q=>q) λ_ _ q=>q
  rintro rfl
  rcases g with g|g
  .rw[<-g,I.free]at e;cases e
  .rw[I.free]at g;cases g
end
def aWC(X:Cx)(i:Nat)(Wc:Az)(body suite:List Stmt):TS:=λD σ H=>∃ E:XK,(∀ pn,∃ tb,PSs ((X.pnw pn).fly E) body tb/\tb D σ H) /\
 ∀ (C e:Az) (H':Hp) (σ':St),σ'.length=σ.length->(∃ od,H' e=some (ExO e C od))->E (.ref C) (some e) H'->∃ bm,SX.ExcAny X.K C bm/\(Value.ref C::bm).contains (.ref Wc)=true /\
  ∃ ts,PSs (X.inH e) suite ts/\ts {nx:=λσ2 H2=>D.nx (σ2.set i none) H2,rt:=D.rt,bk:=λσ2 H2=>D.bk (σ2.set i none) H2,ct:=λσ2 H2=>D.ct (σ2.set i none) H2} (σ'.set i (some (.ref e))) H'
section
variable{X:Cx}
theorem aSP{i:Nat}{n x:Str}{Wc:Az}{A:List V9}{body c:List Stmt}{P:Stmt}{np g pos:Pos}(hO:rL X)(o:X.N.Nodup)(hi:X.N[i]? = some n)(m:X.env.scope.names.lookup n=some .local)
  (hg:Gl X x) (Y:X.mg x=some (.ref Wc)) (hw:SX.ExcAny X.K Wc A) (w:(x == ("__debug__":Str))=false:=by decide) :
  PS X (.Try body [.ExceptHandler (some (.Name x np)) (some n) (P::c) g] [] [] pos) (aWC X i Wc body (P::c)):=by
 intro a5 s σ H D I h
 obtain⟨E,hb,Z⟩:=h
 obtain⟨tb,pb,qb⟩:=hb (X.pn++a5)
 have V:=I.toPn
 refine wpAny_Try_except (BO (pb [] s σ H D (V.wish _) qb) (λf s1 q=>?_) λev s1 q=>?_)
 .have r:=SP.ofPn q
  cases f with
  | next=>exact EA r
  | brk=>exact r
  | cont=>exact r
  | ret u=>exact r
 .obtain ⟨e,C,od,b,H1,rfl,I2,Q,q⟩:=q
  have J:rL (X.pnw (X.pn++a5)):=hO
  refine rM (X:=X.pnw (X.pn++a5)) J I2 Q λs3 I3 S=>qB (X:=X.pnw (X.pn++a5)) I3 S λO M y=>?_
  have d:Inv X a5 b H1 O:=M.ofPn
  have hl:b.length=σ.length:=by rw[d.len,I.len]
  obtain⟨bm,cA,p,ts,L,B⟩:=Z C e H1 b hl ⟨od,y.tr⟩ q
  refine wpAny_handleBy_cons (codeAny_handlers_test ?_) (by intro z;cases z)
  have IH:Inv (X.inH e) a5 b H1 O:=d.inH e
  refine nX (X:=X.inH e) IH hg Y ?_ w
  obtain⟨vs,W⟩:=tG d.hok y.tr
  refine SX.aFV d.kIn cA hw W rfl ?_
  rw[p]
  refine codeAny_handlers_suite_as ?_
  refine qB (X:=X.pnw (X.pn++a5)) M y λT I5 f5=>?_
  have G:Inv X a5 b H1 T:=I5.ofPn
  refine rJ (X:=X.inH e) (v:=.ref e) (G.inH e) o hi (.inl m) rfl (λs6 R=>?_) (.inr m)
  refine BO (L a5 s6 _ H1 _ R B) (λf U a=>?_) λ_ _ z=>z.elim
  show wpAny _ _ (do bindName X.env n .none;unbindBehindTheSuite X.env n g) _ _ U
  cases f with
  | next=>
   obtain⟨l,F,k,a⟩:=a
   exact pA (k.ofH I.ok) o hi m λt j=>⟨_,_,j,a⟩
  | brk=>
   obtain⟨l,F,k,a⟩:=a
   exact pA (k.ofH I.ok) o hi m λt j=>⟨_,_,j,a⟩
  | cont=>
   obtain⟨l,F,k,a⟩:=a
   exact pA (k.ofH I.ok) o hi m λt j=>⟨_,_,j,a⟩
  | ret u=>
   obtain⟨v,l,F,k,r7,a⟩:=a
   exact pA (k.ofH I.ok) o hi m λt j=>⟨v,_,_,j,r7,a⟩
end
structure DefAt(K:Frag)(mg:Str->Option V9)(x:Str)(st:Stmt)(ps:List Str):Prop where
 ex:∃ f fd,Fun K x x st f fd/\kW K fd ps []/\mg x=some (.ref f)
def Calls(P:P9)(w:W9)(K:Frag)(mg:Str->O9 V9)(base:H9)(CX:CXT)(k:Nat)(x:Str)(ps:List Str)(sp:Sp):Prop:=
 ∃ f fd,FnOk P w K mg base CX k f fd ps sp/\kW K fd ps []/\mg x=some (.ref f)/\PySem.W.keepIn K (.ref f)=true
section
variable{P:P9}{w:W9}{K:Frag}{mg:Str->O9 V9}{base:H9}{x:Str}{st:Stmt}{N ps:List Str}{k:Nat}{sp:Sp}
theorem DefAt.ok(D:DefAt K mg x st ps)(S:FnScope N ps (aK st))(len:∀ vs H Q E,sp vs H Q E->vs.length=ps.length)
  (a:∀ (f:Az) (cdv:V9) (A:U9) (outer:List Env) (s:S9) (H:Hp) (vs:List V) (Q:VK) (E:XK),Room k (A.deeper (envOfC x (aK st) s.heap.objs.size f cdv))->sp vs H Q E->
   ∃ t,PSs (cxOf CX0 P w K mg base N x (aK st) f cdv A outer s H E).nox (cX st) t/\t {nx:=λ_ H'=>Q .non H',rt:=Q} (start N vs) H):Calls P w K mg base CX0 (k+1) x ps sp:=by
 obtain⟨f,fd,F,b,m⟩:=D.ex
 exact⟨f,fd,F.ok S len (a f),b,m,F.kp⟩
theorem DefAt.okX(D:DefAt K mg x st ps)(S:FnScope N ps (aK st))(len:∀ vs H Q E,sp vs H Q E->vs.length=ps.length)
  (a:∀ (f:Az) (cdv:V9) (A:U9) (outer:List Env) (s:S9) (H:Hp) (vs:List V) (Q:VK) (E:XK),Room k (A.deeper (envOfC x (aK st) s.heap.objs.size f cdv))->sp vs H Q E->
   ∃ t,PSs ((cxOf (CXe P w) P w K mg base N x (aK st) f cdv A outer s H E).fly E) (cX st) t/\t {nx:=λ_ H'=>Q .non H',rt:=Q} (start N vs) H):Calls P w K mg base (CXe P w) (k+1) x ps sp:=by
 obtain⟨f,fd,F,b,m⟩:=D.ex
 exact⟨f,fd,F.okX S len (a f),b,m,F.kp⟩
theorem Calls.imp{CX:CXT}{a:Sp}(C:Calls P w K mg base CX k x ps sp)(h:∀ vs H Q E,a vs H Q E->sp vs H Q E):Calls P w K mg base CX k x ps a:=by
 obtain⟨f,fd,F,b,m,c⟩:=C
 exact⟨f,fd,F.imp h,b,m,c⟩
end
section
variable{X:Cx}{CX:CXT}{k:Nat}{x:Str}{ps:List Str}{sp:Sp}{E:XK}{p pos:Pos}{e:E1}{es:List E1}{t:TA}
theorem bA(C:Calls X.prog X.w X.K X.mg X.base CX k x ps sp)(d:Room k X.A)(h:Gl X x)(hx:oJ CX X E)(c:PA X (e::es) t)(a:(x == ("__debug__":Str))=false:=by decide)
  (he:starEach (e::es) X.env=(false,eval e X.env)::starEach es X.env:=by rfl) (hpl:(backTo pos (starEach es X.env)).any (·.1)=false:=by rfl):PE X (.Call (.Name x p) (e::es) [] pos) (x6 sp [] E t):=by
 obtain⟨f,fd,F,b,m,g⟩:=C
 exact aPC F d h m g b .nil hx c a he hpl
end
theorem DatV.tup_of{K:Frag}{H:Hp}{v:V}{ds:List Dz}(h:DatV K H v (.tuple ds)):∃ a xs,v=.ref a/\SqT K H a xs/\DatVs K H xs ds:=by
 cases h with
 | tup h1 h2=>exact⟨_,_,rfl,h1,h2⟩
theorem DatV.lst_of{K:Frag}{H:Hp}{v:V}{ds:List Dz}(h:DatV K H v (.list ds)):∃ a xs,v=.ref a/\SqL K H a xs/\DatVs K H xs ds:=by
 cases h with
 | lst h1 h2=>exact⟨_,_,rfl,h1,h2⟩
theorem DatV.int_of{K:Frag}{H:Hp}{v:V}{i:Int}(h:DatV K H v (.int i)):v=.int i:=by cases h;rfl
theorem DatV.str_of{K:Frag}{H:Hp}{v:V}{i:Str}(h:DatV K H v (.str i)):v=.str i:=by cases h;rfl
theorem DatVs.cons_of{K:Frag}{H:Hp}{xs:List V}{d:Dz}{ds:List Dz}(h:DatVs K H xs (d::ds)):∃ x t,xs=x::t/\DatV K H x d/\DatVs K H t ds:=by
 cases h with
 | cons h1 h2=>exact⟨_,_,rfl,h1,h2⟩
theorem DatVs.nil_of{K:Frag}{H:Hp}{xs:List V}(h:DatVs K H xs []):xs=[]:=by cases h;rfl
theorem fB.nil:fB [] []:=⟨rfl,λ_ _ h=>by simp at h⟩
theorem fB.own{τ ρ:St}{u:O9 V}(h:fB τ ρ):fB (none::τ) (u::ρ):=⟨by simp[h.1],λi v e=>by
 cases i with
 | zero=>simp at e
 | succ i=>simpa using h.2 i v (by simpa using e)⟩
theorem fB.nil_of{σ:St}(h:fB [] σ):σ=[]:=DM.mp h.1
def SqS(K:Frag)(H:Hp)(a:Az)(xs:List V):Prop:=SqL K H a xs\/SqT K H a xs
theorem PI.or{X:Cx}{tg a:E1}{w1 w2:TI}(h1:PI X tg a w1)(h2:PI X tg a w2):PI X tg a (λσ H R=>w1 σ H R\/w2 σ H R):=λa5 s σ H R I h=>h.elim (h1 a5 s σ H R I) (h2 a5 s σ H R I)
def aWD(K:Frag)(tl:TE):TI:=λσ H R=>tl σ H λx H1=>∃ a,x=.ref a/\(((∃ xs,SqL K H1 a xs)/\R (Itl K a) H1)\/((∃ xs,SqT K H1 a xs)/\R (Itt K a) H1))
theorem aJZ{X:Cx}{tg l:E1}{tl:TE}(m:PE X l tl):PI X tg l (aWD X.K tl):=by
 intro a5 s σ H R I h
 refine thn (m a5 s σ H _ I h) λv s1 g=>?_
 obtain⟨x,H1,c,r1,k⟩:=g
 obtain⟨a,e,q⟩:=k
 subst e
 cases r1
 rcases q with ⟨⟨xs,f⟩,q⟩|⟨⟨xs,f⟩,q⟩
 .obtain ⟨d,n,p,j⟩:=c.list f
  refine wpAny_pyIter_list p.isList ?_
  refine⟨s1.heap.objs.size,[s1.heap.objs.size],_,_,H1,rfl,c.kept (t':=s1.toks) λb o e=>AC _ e,aJN a _,⟨_,A9 _ rfl,rfl,rfl⟩,λb i=>?_,q⟩
  obtain rfl:=A8.mp i
  exact c.fpOk (AQ _) (c.hok.fresh (AQ _))
 .obtain ⟨d,n,p,j⟩:=c.tuple f
  refine wpAny_pyIter_tuple (show s1.heap.IsTuple a d.toArray from p) ?_
  refine⟨s1.heap.objs.size,[s1.heap.objs.size],_,_,H1,rfl,c.kept (t':=s1.toks) λb o e=>AC _ e,aHX a _,⟨_,A9 _ rfl,rfl,rfl⟩,λb i=>?_,q⟩
  obtain rfl:=A8.mp i
  exact c.fpOk (AQ _) (c.hok.fresh (AQ _))
def aVB(i j:Int):Prop:=0 < j/\j < 2 ^ 64
theorem aMI{X:Cx}:OpR X (binaryOp .FloorDiv) (rI aVB λi j=>.int (i / j)):=opI λi j _ _ _ _ _ a q=>by
 have h1:(0:Int) < j:=a.1
 have h2:j < 2 ^ 64:=a.2
 have b:j.natAbs < 2 ^ 64:=by omega
 have c:j.natAbs.log2 < 64:=(Nat.log2_lt (by omega)).mpr b
 exact floordiv_int (by omega) (by rw[Int.fdiv_eq_ediv_of_nonneg i (by omega)];exact q) (.inl (PyProof.noPylong_of_log2 (by omega)))
theorem nA{X:Cx}{P:P9}{w:W9}:oJ (CXe P w) X E0:=by
 rintro a5 σ H s a s' I ⟨e,C,od,H',rfl,os,bare,un,hok,he,hv,q⟩
 grind
section
variable{X:Cx}
def aWE(K:Frag):List V->Hp->VK->Prop:=λxs H Q=>∃ (a W C d:Az) (fs:List (Str×V)) (p:Az) (as:List Az) (b:Bool),xs=[.ref a,.ref p]/\SX.ExcC K W C/\H a=some (ExO a C (some d))/\H d=some (.xd fs)/\SqT K H p (as.map V.ref)/\PySem.W.kitAny K (.ref C) (as.map Value.ref)=some b/\Q (.bl b) H
theorem tH:∀ {as:List Az} {us:List V9},cI (as.map V.ref) us->us=as.map Value.ref
 | [],_,.nil=>rfl
 | a::as,_,.cons r t=>by rw[tH t];cases r;rfl
theorem aDD:j9 X (.builtin "isinstance") (aWE X.K):=by
 intro a5 s σ H xs us Q I r h
 obtain⟨a,W,C,d,fs,p,M,b,rfl,J,B,A,D,e,q⟩:=h
 obtain⟨u,v,rfl,m,l⟩:=rK r
 cases(show u=Value.ref a from m)
 cases(show v=Value.ref p from l)
 obtain⟨vs,F⟩:=tG I.hok B
 obtain⟨mA,f,r⟩:=(show cR X.prog X.w H s.heap d (.xd fs)from I.hok d _ A)
 obtain⟨od,j,_⟩:=tD f
 obtain⟨i,r1,E,_⟩:=I.tuple D
 obtain⟨⟨k,x,c,G⟩,t,y,n,g⟩:=E
 cases(show k=.type "tuple" from y)
 cases(show c=.seq i.toArray n from g)
 rw[<-tH r1]at e
 exact PySem.W.kia_tup (SX.wQ (vs:=vs) (od:=some d) (o:=some od) J) I.kIn ⟨F,rfl,rfl,j⟩ t e (λz=>nomatch z) λL=>⟨.bl b,H,I.tok _,rfl,q⟩
end
theorem aDE{X:Cx}:j9 X (.builtin "isinstance") (λxs H Q=>∃ a ys c cv b,xs=[.ref a,c]/\SqT X.K H a ys/\wS c=some cv/\PySem.W.kitOne X.K (.type "tuple") cv=some b/\Q (.bl b) H):=by
 intro a5 s σ H xs us Q I r h
 obtain⟨a,ys,c,cv,b,rfl,g,d,e,q⟩:=h
 obtain⟨u,v,rfl,j,i⟩:=rK r
 obtain rfl:=aAE d i
 cases(show u=Value.ref a from j)
 obtain⟨f,_,⟨o,h1,h2,_⟩,_⟩:=I.tuple g
 exact B6 PySem.W.kitx_tuple I.kIn ⟨o,h1,h2⟩ e (λz=>nomatch z) λk=>⟨.bl b,H,I.tok _,rfl,q⟩
structure RoomH(k:Nat)(A:Around):Prop where
 dp:A.depth+3 * k+5 < recursionLimit
 un:A.units+16 * k+200 < cLine
theorem Room.h{k:Nat}{A:U9}(r:Room k A):RoomH k A:=⟨r.dp,r.un⟩
theorem RoomH.deeper{k:Nat}{A:U9}(r:RoomH (k+1) A)(env:Env):RoomH k (A.deeper env):=
 ⟨by have:=r.dp;show A.depth+1+3 * k+5 < _;omega,by have:=r.un;show A.units+3+16 * k+200 < _;omega⟩
theorem RoomH.mark{k:Nat}{A:U9}(r:RoomH k A)(e:O9 V9):RoomH k (A.mark e):=⟨r.dp,r.un⟩
theorem RoomH.depth{k:Nat}{A:U9}(r:RoomH k A):A.depth < recursionLimit:=by have:=r.dp;omega
abbrev yE(P:P9)(w:W9)(K:Frag)(mg:Str->O9 V9)(base:H9)(N:List Str)(qual:Str)(scope:Scope)(f:Az)(cd:V9)(A:U9)(outer:List Env)(s:S9)(H:Hp):Cx:=
 {cxOf CX0 P w K mg base N qual scope f cd A outer s H E0 with calm:=false,xe:=λ_ _=>False}
structure FnOkH(P:Program)(w:World)(K:Frag)(mg:Str->Option V9)(base:Heap)(k:Nat)(f:Az)(fd:FuncData)(ps:List Str)(sp:Sp):Prop where
 len:∀ vs H Q E,sp vs H Q E->vs.length=ps.length
 run:∀ (A:Around) (outer:List Env) (s:S9) (H:Hp) (args:Args) (us:List V9) (vs:List V) (Q:VK),RoomH k A->Env0 P w K mg base A outer s H->BindsTo s fd args (ps.zip us)->cI vs us->sp vs H Q E0->
  codeAny (model P w) A (.call (.ref f) args) (CR CX0 outer P w H s Q E0) s
theorem FnOkH.ok{P:P9}{w:W9}{K:Frag}{mg:Str->O9 V9}{base:H9}{k:Nat}{f:Az}{fd:FuncData}{ps:List Str}{sp:Sp}(F:FnOkH P w K mg base k f fd ps sp)(c:∀ vs H Q E,sp vs H Q E->sp vs H Q E0):FnOk P w K mg base CX0 k f fd ps sp:=
 ⟨F.len,λA outer s H args us vs Q E a g i d b=>EH (F.run A outer s H args us vs Q a.h g i d (c _ _ _ _ b)) λr s' h=>by
  cases r with
  | error e=>exact h
  | ok fl=>cases fl<;>exact h⟩
theorem Fun.okH{P:P9}{w:W9}{K:Frag}{mg:Str->O9 V9}{base:H9}{x qual:Str}{st:Stmt}{f:Az}{fd:FuncData}{N ps:List Str}{k:Nat}{sp:Sp}(F:Fun K x qual st f fd)(S:FnScope N ps (aK st))(len:∀ vs H Q E,sp vs H Q E->vs.length=ps.length)
  (d:∀ (cdv:V9) (A:U9) (outer:List Env) (s:S9) (H:Hp) (vs:List V) (Q:VK),RoomH k (A.deeper (envOfC qual (aK st) s.heap.objs.size f cdv))->sp vs H Q E0->
   ∃ t,PSs (yE P w K mg base N qual (aK st) f cdv A outer s H) (cX st) t/\t {nx:=λ_ H'=>Q .non H',rt:=Q} (start N vs) H):FnOkH P w K mg base (k+1) f fd ps sp:=by
 obtain⟨Z,od,kV,doc,pm,an,cdv,ct,X,rfl,Y,B⟩:=F.ex
 refine⟨len,λA outer s H args us vs Q D e0 R r i=>?_⟩
 have T:=len _ _ _ _ i
 have C:K.In s.heap:=e0.mod.kin.keeps λb o e=>(e0.bs b o e).1
 have p:s.heap.NoLimit:=e0.mod.nolimit.keeps λb o e=>(e0.bs b o e).1
 have g:∀ y∈ps.zip us,(aK st).names.lookup y.1=some .local\/((aK st).names.lookup y.1=some .cell/\((cellsFrom (s.heap.objs.size+1) (aK st).names []).lookup y.1).isSome=true):=λl M=>by
  obtain⟨n,v⟩:=l
  rcases S.par n (EB M).1 with q|q
  .grind
  .exact .inr ⟨q,ES _ _ _ (.inl q)⟩
 refine EX D.depth (C _ _ Y) rfl S.co S.gen rfl (PySem.W.codeRec_of C B) (R _ _ _ _ ?_)
 refine FQ S.kind g λenv G s1 x=>?_
 subst G
 refine⟨p.keeps x.toInCall.keep,codeAny_func ?_⟩
 obtain⟨t,O,U⟩:=d cdv A outer s H vs Q (D.deeper _) i
 have a:Inv (cxOf CX0 P w K mg base N qual (aK st) f cdv {A with handled:=none} outer s H E0) [] (start N vs) H s1:=aBU S rfl ⟨e0.frames,e0.mod,e0.bs,e0.bsz,e0.funs,e0.frf,e0.hok,e0.bare⟩ T r x
 have I:Inv (yE P w K mg base N qual (aK st) f cdv A outer s H) [] (start N vs) H s1:=
  ⟨⟨a.ok.mod,a.ok.kind,a.ok.glob,a.ok.blt,a.ok.above,a.ok.inj,a.ok.has,a.ok.cab,(λz=>nomatch z),a.ok.frames,a.ok.stk,a.ok.exf,a.ok.bs,a.ok.bsz,a.ok.noex,a.ok.exfs,a.ok.funs,a.ok.frf⟩,a.os,a.bare,a.base,a.loc,a.cell,a.free,a.freeC,a.pin,a.hok,a.len⟩
 refine BO (O [] s1 (start N vs) H _ I U) (λL s' h=>?_) λe s' h=>h.elim
 have j:∀ {c:St} {H':Hp} {v:V} {u:V9},Inv (yE P w K mg base N qual (aK st) f cdv A outer s H) [] c H' s'->bO v u->Q v H'->CE outer P w H s Q u s':=
  λ{c H' v u} J m q=>⟨v,H',J.os,J.bare,J.base,J.hok,m,q⟩
 cases L with
 | ret u=>
  obtain⟨v,c,H',J,m,q⟩:=h
  exact j J m q
 | next=>
  obtain⟨c,H',J,q⟩:=h
  exact j (v:=V.non) (u:=Value.none) J rfl q
 | brk=>
  obtain⟨_,_,_,q⟩:=h
  grind
 | cont=>
  obtain⟨_,_,_,q⟩:=h
  grind
def aDF(P:P9)(w:W9)(K:Frag)(mg:Str->O9 V9)(base:H9)(k:Nat)(x:Str)(ps:List Str)(sp:Sp):Prop:=
 ∃ f fd,FnOkH P w K mg base k f fd ps sp/\kW K fd ps []/\mg x=some (.ref f)/\PySem.W.keepIn K (.ref f)=true
theorem DefAt.okH{P:P9}{w:W9}{K:Frag}{mg:Str->O9 V9}{base:H9}{x:Str}{st:Stmt}{N ps:List Str}{k:Nat}{sp:Sp}(D:DefAt K mg x st ps)(S:FnScope N ps (aK st))(len:∀ vs H Q E,sp vs H Q E->vs.length=ps.length)
  (a:∀ (f:Az) (cdv:V9) (A:U9) (outer:List Env) (s:S9) (H:Hp) (vs:List V) (Q:VK),RoomH k (A.deeper (envOfC x (aK st) s.heap.objs.size f cdv))->sp vs H Q E0->
   ∃ t,PSs (yE P w K mg base N x (aK st) f cdv A outer s H) (cX st) t/\t {nx:=λ_ H'=>Q .non H',rt:=Q} (start N vs) H):aDF P w K mg base (k+1) x ps sp:=by
 obtain⟨f,fd,F,b,m⟩:=D.ex
 exact⟨f,fd,F.okH S len (a f),b,m,F.kp⟩
section
variable{X:Cx}{k:Nat}{x:Str}{ps:List Str}{sp:Sp}{p pos:Pos}{e:E1}{es:List E1}{t:TA}
theorem aSQ(C:aDF X.prog X.w X.K X.mg X.base k x ps sp)(g:RoomH k X.A)(i:Gl X x)(j:PA X (e::es) t)(c:(x == ("__debug__":Str))=false:=by decide)
  (he:starEach (e::es) X.env=(false,eval e X.env)::starEach es X.env:=by rfl) (hpl:(backTo pos (starEach es X.env)).any (·.1)=false:=by rfl):PE X (.Call (.Name x p) (e::es) [] pos) (x6 sp [] E0 t):=by
 obtain⟨f,fd,F,n,m,l⟩:=C
 intro a5 s σ H Q I h
 refine CQ (nX I i m ?_ c)
 refine DO (h₀:=X.base) I.ok.mod.kin l (thn (j pos a5 s σ H _ I h) λus s1 ⟨vs,H1,b,r,q⟩=>⟨b.kIn,?_⟩) he hpl
 have r2:cI (vs++[]) (us++[]):=r.append .nil
 have d:(us++[]).length=ps.length:=by rw[<-r2.length];exact F.len _ _ _ _ q
 refine FY (EH (F.run X.A X.stack s1 H1 ⟨us,[]⟩ (us++[]) (vs++[]) Q g b.env0 (n s1 us b.kIn d) r2 q) λr s' a=>?_)
 cases r with
 | error e=>exact a.elim
 | ok fl=>
  cases fl with
  | ret u=>exact b.after a
  | next=>exact False.elim a
  | brk=>exact False.elim a
  | cont=>exact False.elim a
end
end L2
namespace Mc
open L2 PyProof.Rows
inductive Tn where
 | n (i:Int)|w (x:Str)
noncomputable def Tn.v:Tn->V
 | .n i=>.int i
 | .w x=>.str x
noncomputable def Tn.d:Tn->Dz
 | .n i=>.int i
 | .w x=>.str x
structure Rw where
 l:Tn
 c:List (Int×Int)
 r:Tn
def cL(c:Int×Int):Dz:=.tuple [.int c.1,.int c.2]
def rowD(r:Rw):Dz:=.tuple [r.l.d,.tuple (r.c.map cL),r.r.d]
def aC(rs:List Rw):Dz:=.tuple (rs.map rowD)
inductive CellsAt(K:Frag)(H:Hp):List V->List (Int×Int)->Prop
 | nil:CellsAt K H [] []
 | cons {q:Az} {a b:Int} {xs:List V} {cs:List (Int×Int)} (h:SqS K H q [.int a,.int b]) (t:CellsAt K H xs cs):CellsAt K H (.ref q::xs) ((a,b)::cs)
def aVC(K:Frag)(H:Hp)(v:V)(r:Rw):Prop:=∃ p b cs,v=.ref p/\SqS K H p [r.l.v,.ref b,r.r.v]/\SqS K H b cs/\CellsAt K H cs r.c
inductive RowsAt(K:Frag)(H:Hp):List V->List Rw->Prop
 | nil:RowsAt K H [] []
 | cons {v:V} {r:Rw} {xs:List V} {rs:List Rw} (h:aVC K H v r) (t:RowsAt K H xs rs):RowsAt K H (v::xs) (r::rs)
section
variable{K:Frag}{H H':Hp}
theorem CellsAt.len:∀ {xs:List V} {cs:List (Int×Int)},CellsAt K H xs cs->xs.length=cs.length
 | _,_,.nil=>rfl
 | _,_,.cons h t=>by simp[t.len]
theorem RowsAt.len:∀ {xs:List V} {rs:List Rw},RowsAt K H xs rs->xs.length=rs.length
 | _,_,.nil=>rfl
 | _,_,.cons h t=>by simp[t.len]
end
def aAF(K:Frag)(a:Az)(xs:List V):Prop:=∃ (o:Obj) (its:Array V9) (n:Nat),K.lookup a=some o/\(o.cls=.type "tuple"/\o.dict=none)/\o.data=.seq its n/\its.size<=sizeLine/\cI xs its.toList
theorem aAF.sq{K:Frag}{a:Az}{xs:List V}(h:aAF K a xs)(H:Hp):SqT K H a xs:=.inr h
noncomputable def Tn.ok:Tn->Prop
 | .n _=>True
 | .w x=>PyData.strOk x=true
def Rw.ok(r:Rw):Prop:=r.l.ok/\r.r.ok
theorem aAG:∀ {xs:List Dz},(∀ x∈xs,x.canLay0=true)->PyData.canLayAll0 xs=true
 | [],_=>by rfl
 | x::t,h=>by
  show(x.canLay0 && PyData.canLayAll0 t)=true
  rw[h x (AV ..),aAG λy a=>h y (AL _ a)];rfl
theorem tJ{n:Nat}:∀ {xs:List Dz},(∀ x∈xs,x.depth<=n)->PyData.depthAll xs<=n
 | [],_=>CN _
 | x::t,h=>by
  show max x.depth (PyData.depthAll t)<=n
  exact Nat.max_le.mpr ⟨h x (AV ..),tJ λy a=>h y (AL _ a)⟩
def Sh(n:Nat)(d:Dz):Prop:=d.canLay0=true/\d.depth<=n
theorem yF{n:Nat}{xs:List Dz}(h:∀ x∈xs,Sh n x):Sh (n+1) (.tuple xs):=⟨aAG λx a=>(h x a).1,by
 have:=tJ λx a=>(h x a).2
 show PyData.depthAll xs+1<=n+1
 omega⟩
theorem sh_lst{n:Nat}{xs:List Dz}(h:∀ x∈xs,Sh n x):Sh (n+1) (.list xs):=⟨aAG λx a=>(h x a).1,by
 have:=tJ λx a=>(h x a).2
 show PyData.depthAll xs+1<=n+1
 omega⟩
theorem yG(n:Nat)(i:Int):Sh n (.int i):=⟨rfl,CN _⟩
theorem yH(n:Nat){x:Str}(h:PyData.strOk x=true):Sh n (.str x):=⟨h,CN _⟩
theorem aOG(n:Nat){t:Tn}(h:t.ok):Sh n t.d:=by
 cases t with
 | n i=>exact yG n i
 | w x=>exact yH n h
theorem Sh.shaped{n:Nat}{d:Dz}(h:Sh n d)(a:n<=64):SeqAt.shaped d=true:=by
 show(d.canLay0 && decide (d.depth<=64))=true
 rw[h.1,AJ (BR h.2 a)];rfl
section
variable{K:Frag}{H:Hp}
theorem cells_of:∀ {xs:List V} {cs:List (Int×Int)},DatVs K H xs (cs.map cL)->CellsAt K H xs cs
 | xs,[],h=>by obtain rfl:=h.nil_of;exact .nil
 | xs,c::cs,h=>by
  obtain⟨x,t,rfl,h1,h2⟩:=h.cons_of
  obtain⟨a,ys,rfl,g,i⟩:=h1.tup_of
  obtain⟨l,t0,rfl,f,d⟩:=i.cons_of
  obtain⟨k,j,rfl,b,e⟩:=d.cons_of
  obtain rfl:=e.nil_of
  obtain rfl:=f.int_of
  obtain rfl:=b.int_of
  exact .cons (.inr g) (cells_of h2)
end
section
variable{K:Frag}{h:H9}{mg:Str->O9 V9}
theorem bN{x:Str}{st:Stmt}{ps:List Str}{f:Az}{i:V9}{od g:O9 Az}{e:Array (O9 V9)}{kV doc pm d ct:V9}(X:K.In h)(G:h.Ns mainGlobals mg)
  (a:PySem.W.nsIn K mainGlobals x=some (some (.ref f))) (l:K.lookup f=some ⟨i,od,.func (PySem.W.fnOf x x (iM st) (cX st) (aK st) .none kV doc pm g d ct),e⟩)
  (c:PySem.W.codeIn K d x=true) (k:PySem.W.keepIn K (.ref f)=true)
  (b:∀ (kV doc pm:V9) (g:O9 Az) (d ct:V9) (us:List V9),us.length=ps.length->bindArgs (PySem.W.fnOf x x (iM st) (cX st) (aK st) .none kV doc pm g d ct) ⟨us,[]⟩=pure (ps.zip us)):DefAt K mg x st ps:=by
 have F:=aJV (st:=st) l c k
 exact⟨f,_,F,F.binds b,CO X G a⟩
theorem aSR{a:Az}{x y:Str}{c b n:Nat}{sl:Array (O9 V9)}(l:K.lookup a=some ⟨.type "tuple",none,.seq #[.str x c,.str y b] n,sl⟩):aAF K a [.str x,.str y]:=
 ⟨_,_,_,l,⟨rfl,rfl⟩,rfl,by show 2<=sizeLine;decide,.cons ⟨_,rfl⟩ (.cons ⟨_,rfl⟩ .nil)⟩
end
section
variable{K:Frag}{h:H9}{mg:Str->O9 V9}
theorem aJ0{W N:Az}{bm bs sub:List V9}{nm q:Str}{a ab:Bool}{sn:List Str}{col:O9 Bool}{dd:O9 Az}{k0 k1 k2 k3 k5:O9 V9}{newId:String}(l:K.lookup W=some (excClassObj nm q W N bs bm a sn sub ab col dd k0 k1 k2 k3 k5 newId))(b:bm.contains (.type "BaseException")=true):SX.ExcAny K W bm:=⟨⟨_,_,_,_,_,_,_,_,_,_,_,_,_,_,_,_,l⟩,b⟩
theorem aPI{W C N:Az}{bs sub:List V9}{nm q:Str}{ab:Bool}{sn:List Str}{col:O9 Bool}{dd:O9 Az}{k0 k1 k2 k3 k5:O9 V9}(l:K.lookup C=some (excClassObj nm q C N bs (.ref W::SX.k6) true sn sub ab col dd k0 k1 k2 k3 k5 "ValueError.__new__"))
 (e:PySem.W.findIn K (.ref C) "__setattr__"=some (some (.builtin "object.__setattr__"))) (d:PySem.W.findIn K (.ref C) "__getattribute__"=some (some (.builtin "BaseException.__getattribute__"))) (f:PySem.W.findIn K (.ref C) "__getattr__"=some none) (cl:PySem.W.findIn K (.ref C) "__class__"=some (some (.builtin "object.__class__")))
 (a:PySem.W.specialIn K (.builtin "object.__class__") "__get__"=some (some (.builtin "getset_descriptor.__get__"))) (b:PySem.W.takesIn K (.builtin "object.__class__")=some true) (c:PySem.W.keepIn K (.ref C)=true):SX.ExcC K W C:=⟨⟨_,_,_,_,_,_,_,_,_,_,_,_,_,_,l⟩,e,d,f,cl,a,b,c⟩
theorem nZ{t:V9}{C:Az}{cd:ClassData}{b:Bool}(h0:(t == Value.ref C)=false)(h1:PySem.W.clsIn K C=some cd)(h2:PySem.W.typeIn K (.ref C)=some (.type "type"))(a:PySem.W.subIn K t (.ref C)=some b):PySem.W.kitOne K t (.ref C)=some b:=by
 unfold PySem.W.kitOne
 rw[h0,AE (by decide)]
 unfold PySem.W.kitCls
 grind
theorem aJ1{t:V9}{T:String}{b:Bool}(h0:(t == Value.type T)=false)(h1:PySem.W.kitMeta T=true)(a:PySem.W.subIn K t (.type T)=some b):PySem.W.kitOne K t (.type T)=some b:=by
 unfold PySem.W.kitOne
 rw[h0,AE (by decide)]
 unfold PySem.W.kitCls
 grind
theorem aDG{C:Az}:PySem.W.kitOne K (.ref C) (.ref C)=some true:=by
 unfold PySem.W.kitOne
 grind
end
noncomputable def cP(n c:Nat):Bool:=decide (97<=c/\c < 97+n)
theorem aJ2{c:Nat}(h:cP 3 c=true):∃ r,Builtin.Str.occurrences "abc" ⟨#[c]⟩ 0 ("abc":Str).length 1=(c - 97)::r:=by
 have h:=BD h
 refine⟨[],?_⟩
 obtain rfl|rfl|rfl:c=97\/c=98\/c=99:=by omega
 all_goals decide +kernel
end Mc
namespace L2
open PySem.Spec PyProof.Rows
section
variable{κ:Type}[DecidableEq κ]
theorem KV.length{a:List (κ×V)}{vs:List (κ×V9)}(r:KV a vs):a.length=vs.length:=Paired.length r
end
theorem aOH{P:P9}{w:W9}{k:Key}{u:V9}(r:bO (kV k) u):(eZ P w).is k u=true:=by
 cases k with
 | inl i=>obtain⟨t,e⟩:=(show ∃ t,u=Value.int i t from r);subst e;exact aFT P w i t
 | inr x=>obtain⟨t,e⟩:=(show ∃ t,u=Value.str x t from r);subst e;exact aFU P w x t
section
variable{X:Cx}{a5:List (Az×Obj)}{σ:St}{H:Hp}{s:S9}{a:Az}{y v:V}{u r:V9}{o:O9 V}{A:U9}{E:V9->S9->Prop}
theorem Inv.big(I:Inv X a5 σ H s):sysModules < s.heap.objs.size:=by
 have h:mainGlobals < s.heap.objs.size:=(I.mod.glob.keeps I.bk).lt
 exact Nat.lt_trans (by decide) h
theorem n4{h':H9}{t':Nat}{c:HO}(I:Inv X a5 σ H s)(f:Mut (H a))(g:Heap.SameBut a s.heap h')(d:∃ q,h'.get? a=some q)(new:cR X.prog X.w (upd H a c) h' a c) :
  Inv X a5 σ (upd H a c) {s with heap:=h',toks:=t'}:=
 I.write (x:=a) (e:=a) f (.inl rfl) (λb q h z=>(g.2 b h).trans z) d new
end
def aSS(i:E1):Prop:=∀ ov iv,subscripted i false ov iv=operate [ov,iv] (getItem ov iv)
theorem aPJ{prog:P9}{w:W9}{A:U9}{E:V9->S9->Prop}{s:S9}{env:Env}{b a:E1}{pos:Pos}{T id:String}{Q:V9->S9->Prop}
  (k:typeLookup (.type T) "__getitem__"=pure (some (.builtin id))) (l:aSS a)
  (h:wpAny (model prog w) A (eval b env) (λo s₁=>wpAny (model prog w) A (eval a env) (λi s₂=>s₂.TypeIs o T/\wpAny (model prog w) A (getItem o i) Q E s₂) E s₁) E s) :
  wpAny (model prog w) A (eval (.Subscript b a pos) env) Q E s:=by
 refine Subscript_ (BO h (λo s₁ g=>BO g (λi s₂ c=>?_) λ_ _ x=>x) λ_ _ x=>x)
 obtain⟨j,c⟩:=c
 unfold subscriptTail
 refine AB ?_
 rw[getitemInPython_of_ne j.not_modules]
 refine AB (wpAny_specialOf j k ?_)
 have e:wpAny (model prog w) A (subscripted a false o i) (λr d=>wpAny (model prog w) A (letTemporaryGo b o r >>= λ_=>pure r) Q E d) E s₂:=by
  rw[l o i]
  exact wpAny_operating (BO c (λr d f=>AB (wpAny_letTemporaryGo (AM f))) λ_ _ x=>x)
 first
  | exact AM (AB e)
  | exact AB (AM (AB e))
  | exact AB e
structure M1(X:Cx)(o:Expr)(m:Str)(apos:Pos)(e:Expr)(cpos:Pos):Prop where
 base:attributeBase o m X.env (eval o X.env)=eval o X.env
 few:((backTo cpos (starEach [e] X.env)).all (λx=>!x.1) && (backToKw cpos (keywordEach [] X.env)).all (λx=>x.1.isSome)
  && decide (([e]:List Expr).length+([]:List Keyword).length+(if ([]:List Keyword).isEmpty then 0 else 1) < 30))=true
 line:(apos.endLine == cpos.line)=true
 trees:backTo cpos (starEach [e] X.env)=[(false,eval e X.env)]
structure M2(X:Cx)(o:Expr)(m:Str)(apos:Pos)(e f:Expr)(cpos:Pos):Prop where
 base:attributeBase o m X.env (eval o X.env)=eval o X.env
 few:((backTo cpos (starEach [e,f] X.env)).all (λx=>!x.1) && (backToKw cpos (keywordEach [] X.env)).all (λx=>x.1.isSome)
  && decide (([e,f]:List Expr).length+([]:List Keyword).length+(if ([]:List Keyword).isEmpty then 0 else 1) < 30))=true
 line:(apos.endLine == cpos.line)=true
 trees:backTo cpos (starEach [e,f] X.env)=[(false,eval e X.env),(false,eval f X.env)]
def aDH(K:Frag)(H:Hp)(ks:List (List Key×Az)):Prop:=∀ p∈ks,SqT K H p.2 (p.1.map kV)
theorem SqT.ext{K:Frag}{H:Hp}{a q:Az}{φ:H9->Prop}{o:HO}{xs:List V}(h:SqT K H q xs)(b:H a=some (.ext φ)):SqT K (upd H a o) q xs:=by
 rcases h with (h|⟨u,h⟩)|h
 .refine .inl (.inl ?_)
  rw[aW (λz=>by rw[z,b]at h;cases h)];exact h
 .refine .inl (.inr ⟨u,?_⟩)
  rw[aW (λz=>by rw[z,b]at h;cases h)];exact h
 .exact .inr h
theorem SqL.ext{K:Frag}{H:Hp}{a q:Az}{φ:H9->Prop}{o:HO}{xs:List V}(h:SqL K H q xs)(b:H a=some (.ext φ)):SqL K (upd H a o) q xs:=by
 rcases h with (h|⟨u,h⟩)|h
 .refine .inl (.inl ?_)
  rw[aW (λz=>by rw[z,b]at h;cases h)];exact h
 .refine .inl (.inr ⟨u,?_⟩)
  rw[aW (λz=>by rw[z,b]at h;cases h)];exact h
 .exact .inr h
mutual
theorem DatV.ext{K:Frag}{H:Hp}{a:Az}{φ:H9->Prop}{o:HO}(ha:H a=some (.ext φ)):∀ {x:V} {d:Dz},DatV K H x d->DatV K (upd H a o) x d
 | _,_,.non=>.non
 | _,_,.bl b=>.bl b
 | _,_,.int i=>.int i
 | _,_,.str x=>.str x
 | _,_,.lst h ds=>.lst (h.ext ha) (DatVs.ext ha ds)
 | _,_,.tup h ds=>.tup (h.ext ha) (DatVs.ext ha ds)
 | _,_,.pl h=>.pl (by rw[aW (λz=>by rw[z,ha]at h;cases h)];exact h)
theorem DatVs.ext{K:Frag}{H:Hp}{a:Az}{φ:H9->Prop}{o:HO}(ha:H a=some (.ext φ)):∀ {xs:List V} {ds:List Dz},DatVs K H xs ds->DatVs K (upd H a o) xs ds
 | _,_,.nil=>.nil
 | _,_,.cons h t=>.cons (DatV.ext ha h) (DatVs.ext ha t)
end
theorem aDH.ext{K:Frag}{H:Hp}{a:Az}{φ:H9->Prop}{o:HO}{b:List (List Key×Az)}(h:aDH K H b)(c:H a=some (.ext φ)):aDH K (upd H a o) b:=λp d=>SqT.ext (h p d) c
end L2
namespace Mc
open L2 PyProof.Rows
def Tn.good(n:Int):Tn->Prop
 | .n i=>0<=i/\i < n
 | .w x=>x="by"\/x="out"
def rN(n:Int)(c:Int×Int):Prop:=0<=c.1/\c.1 < n/\(c.2=1\/c.2 = -1)
def Rw.good(n:Int)(r:Rw):Prop:=r.l.good n/\r.r.good n/\∀ c∈r.c,rN n c
theorem Tn.good.ok{n:Int}{t:Tn}(h:t.good n):t.ok:=by
 cases t with
 | n i=>trivial
 | w x=>
  rcases h with rfl|rfl
  · exact(show PyData.strOk _ = true by decide +kernel)
  · exact(show PyData.strOk _ = true by decide +kernel)
theorem Rw.good.ok{n:Int}{r:Rw}(h:r.good n):r.ok:=⟨h.1.ok,h.2.1.ok⟩
structure Mach(rs:List Rw)(sg:Nat):Prop where
 len:1<=rs.length
 len2:rs.length<=1000
 sg1:1<=sg
 sg3:sg<=3
 row:∀ r∈rs,r.good rs.length/\r.c.length=sg
def bK(sg:Nat)(z:List Nat):Prop:=z.length<=1000/\∀ c∈z,cP sg c=true
noncomputable def aO(rs:List Rw)(q:Int):Rw:=rs.getD q.toNat ⟨.n 0,[],.n 0⟩
noncomputable def cB(rs:List Rw)(z:List Nat)(st:Int×Int):Tn×Int:=
 if st.1=0 then((aO rs st.2).l,1)else if st.1=(z.length:Int)+1 then((aO rs st.2).r,-1)else
  (.n ((aO rs st.2).c.getD (z.getD (st.1.toNat - 1) 97 - 97) (0,0)).1,((aO rs st.2).c.getD (z.getD (st.1.toNat - 1) 97 - 97) (0,0)).2)
def gB(rs:List Rw)(z:List Nat)(st:Int×Int):O9 (Int×Int):=
 match (cB rs z st).1 with
 | .w _=>none
 | .n q=>some (st.1+(cB rs z st).2,q)
def kB(rs:List Rw)(z:List Nat)(st:Int×Int):Prop:=0<=st.1/\st.1<=(z.length:Int)+1/\0<=st.2/\st.2 < (rs.length:Int)
theorem dY{rs:List Rw}{q:Int}(h0:0<=q)(h1:q < rs.length):rs[q.toNat]? = some (aO rs q):=by
 have h:q.toNat < rs.length:=by omega
 unfold aO
 grind
theorem aGB{rs:List Rw}{sg:Nat}{z:List Nat}{st:Int×Int}(S:bK sg z)(V:kB rs z st)(h0:st.1≠0)(h1:st.1≠(z.length:Int)+1):∃ c,z[st.1.toNat - 1]? = some c/\cP sg c=true/\z.getD (st.1.toNat - 1) 97=c:=by
 obtain⟨a,b,_,_⟩:=V
 have d:st.1.toNat - 1 < z.length:=by omega
 refine⟨z[st.1.toNat - 1],by simp[d],S.2 _ (GD d),by rw[AI,AW d];rfl⟩
theorem aDI{rs:List Rw}{sg:Nat}{z:List Nat}{st:Int×Int}(M:Mach rs sg)(S:bK sg z)(V:kB rs z st)(h0:st.1≠0)(h1:st.1≠(z.length:Int)+1) :
  ∃ c,(aO rs st.2).c[z.getD (st.1.toNat - 1) 97 - 97]? = some c/\(aO rs st.2).c.getD (z.getD (st.1.toNat - 1) 97 - 97) (0,0)=c/\rN rs.length c:=by
 obtain⟨c,_,d,e⟩:=aGB S V h0 h1
 rw[e]
 have d:=BD d
 have b:=M.row _ (AH (dY V.2.2.1 V.2.2.2))
 have a:c - 97 < (aO rs st.2).c.length:=by rw[b.2];omega
 refine⟨(aO rs st.2).c[c - 97],by simp[a],by rw[AI,AW a];rfl,b.1.2.2 _ (GD a)⟩
theorem yI{rs:List Rw}{sg:Nat}{z:List Nat}{st st':Int×Int}(M:Mach rs sg)(S:bK sg z)(V:kB rs z st)(h:gB rs z st=some st'):kB rs z st':=by
 have i:=M.row _ (AH (dY V.2.2.1 V.2.2.2))
 obtain⟨a,b,c,d⟩:=id V
 unfold gB cB at h
 by_cases f:st.1=0
 .simp only[AD f]at h
  have g:=i.1.1
  cases e:(aO rs st.2).l with
  | w x=>rw[e]at h;cases h
  | n q=>
   rw[e]at h g
   cases h
   exact⟨by show 0<=st.1+1;omega,by show st.1+1<=_;omega,g.1,g.2⟩
 .by_cases h1:st.1=(z.length:Int)+1
  .simp only[AE f,AD h1]at h
   have g:=i.1.2.1
   cases e:(aO rs st.2).r with
   | w x=>rw[e]at h;cases h
   | n q=>
    rw[e]at h g
    cases h
    exact⟨by show 0<=st.1 + -1;omega,by show st.1 + -1<=_;omega,g.1,g.2⟩
  .obtain ⟨o,_,e,g⟩:=aDI M S V f h1
   simp only[AE f,AE h1]at h
   rw[e]at h
   cases h
   obtain⟨j,k,m⟩:=g
   refine⟨?_,?_,j,k⟩
   .grind
   .grind
theorem tK:∀ (N:Nat) (l:List Nat),l.Nodup->(∀ x∈l,x < N)->l.length<=N
 | 0,l,_,h=>by
  cases l with
  | nil=>exact AQ _
  | cons a t=>exact absurd (h a (by simp)) (by omega)
 | N+1,l,hn,h=>by
  have ih:=tK N (l.erase N) (hn.erase N) (λx b=>by
   have:=(hn.mem_erase_iff).mp b
   have h2:=h x this.2
   omega)
  grind
theorem aH5{rs:List Rw}{z:List Nat}{l:List (Int×Int)}(n:l.Nodup)(d:∀ st∈l,kB rs z st):l.length<=(z.length+2) * rs.length:=by
 have h:=tK ((z.length+2) * rs.length) (l.map λst=>st.1.toNat * rs.length+st.2.toNat) ?_ ?_
 .grind
 .unfold List.Nodup
  rw[List.pairwise_map]
  refine GE (λ{a b} ha hb hab e=>hab ?_) n
  obtain⟨k,m,p,o⟩:=d a ha
  obtain⟨t,r,q,s⟩:=d b hb
  have i:0 < rs.length:=by omega
  have e1:(a.1.toNat * rs.length+a.2.toNat) / rs.length=(b.1.toNat * rs.length+b.2.toNat) / rs.length:=by rw[e]
  have e2:(a.1.toNat * rs.length+a.2.toNat) % rs.length=(b.1.toNat * rs.length+b.2.toNat) % rs.length:=by rw[e]
  have g:a.2.toNat < rs.length:=by omega
  have c:b.2.toNat < rs.length:=by omega
  rw[GF,Nat.mul_add_div i,GF b.1.toNat,Nat.mul_add_div i,Nat.div_eq_of_lt g,Nat.div_eq_of_lt c]at e1
  grind
 .intro x j
  obtain⟨st,f,rfl⟩:=AX.mp j
  obtain⟨k,m,p,o⟩:=d st f
  have h1:st.1.toNat+1<=z.length+2:=by omega
  have h2:st.2.toNat < rs.length:=by omega
  calc st.1.toNat * rs.length+st.2.toNat < st.1.toNat * rs.length+rs.length:=by omega
   _=(st.1.toNat+1) * rs.length:=by rw[Nat.add_mul];omega
   _<=(z.length+2) * rs.length:=Nat.mul_le_mul_right _ h1
noncomputable def uX(rs:List Rw)(z:List Nat):Nat->List (Int×Int)->Int×Int->List (Int×Int)
 | 0,ps,st=>ps++[st]
 | k+1,ps,st=>if st∈ps then ps++[st]else match gB rs z st with
  | none=>ps++[st]
  | some st'=>uX rs z k (ps++[st]) st'
def uY(rs:List Rw)(z:List Nat):Nat:=(z.length+2) * rs.length
def nU(rs:List Rw)(z:List Nat):List (Int×Int):=uX rs z (uY rs z) [] (0,0)
structure Way(rs:List Rw)(z:List Nat)(ps:List (Int×Int))(st:Int×Int)(k:Nat):Prop where
 nd:ps.Nodup
 val:∀ s∈ps++[st],kB rs z s
 num:ps.length+k=uY rs z
 res:uX rs z k ps st=nU rs z
theorem Way.start{rs:List Rw}{sg:Nat}{z:List Nat}(M:Mach rs sg):Way rs z [] (0,0) (uY rs z) where
 nd:=D4
 val:=λs a=>by
  obtain rfl:s=(0,0):=by simpa using a
  have:=M.len
  exact⟨DY _,by show(0:Int)<=_;omega,DY _,by show(0:Int) < _;omega⟩
 num:=by simp
 res:=rfl
theorem Way.here{rs:List Rw}{z:List Nat}{ps:List (Int×Int)}{st:Int×Int}{k:Nat}(W:Way rs z ps st k):kB rs z st:=W.val st (by simp)
theorem Way.stop{rs:List Rw}{z:List Nat}{ps:List (Int×Int)}{st:Int×Int}{k:Nat}(W:Way rs z ps st k)(h:st∈ps):ps++[st]=nU rs z:=by
 rw[<-W.res]
 cases k with
 | zero=>rfl
 | succ k=>unfold uX;rw[AD h]
theorem Way.more{rs:List Rw}{z:List Nat}{ps:List (Int×Int)}{st:Int×Int}{k:Nat}(W:Way rs z ps st k)(h:st∉ps):∃ j,k=j+1:=by
 have c:(ps++[st]).Nodup:=by
  rw[DH]
  exact⟨W.nd,by simp,λa d b g e=>by rw[A8.mp g]at e;exact h (e▸d)⟩
 have:=aH5 c W.val
 rw[AS]at this
 have f:=W.num
 unfold uY at f
 simp only[A5,BF]at this
 exact⟨k - 1,by omega⟩
theorem Way.ends{rs:List Rw}{z:List Nat}{ps:List (Int×Int)}{st:Int×Int}{k:Nat}(W:Way rs z ps st k)(h:st∉ps)(e:gB rs z st=none):ps++[st]=nU rs z:=by
 obtain⟨j,rfl⟩:=W.more h
 rw[<-W.res]
 unfold uX
 grind
theorem Way.next{rs:List Rw}{sg:Nat}{z:List Nat}{ps:List (Int×Int)}{st st':Int×Int}{k:Nat}(M:Mach rs sg)(S:bK sg z)(W:Way rs z ps st (k+1))(h:st∉ps)(e:gB rs z st=some st'):Way rs z (ps++[st]) st' k where
 nd:=by
  rw[DH]
  exact⟨W.nd,by simp,λa c b f e=>by rw[A8.mp f]at e;exact h (e▸c)⟩
 val:=λs d=>by
  rcases BX.mp d with q|q
  · exact W.val s q
  · rw [A8.mp q]; exact yI M S W.here e
 num:=by rw[AS];have:=W.num;simp;omega
 res:=by
  rw[<-W.res]
  conv=>rhs;unfold uX
  grind
noncomputable def one(c:Nat):Str:=⟨#[c]⟩
section
variable{S O:Type}
inductive Ex(st:S->Option (S⊕O)):Nat->S->O->Prop
 | out {s:S} {o:O} (h:st s=some (.inr o)):Ex st 0 s o
 | go {s s':S} {o:O} {n:Nat} (h:st s=some (.inl s')) (t:Ex st n s' o):Ex st (n+1) s o
inductive Rc(st:S->Option (S⊕O)):Nat->S->S->Prop
 | nil {s:S}:Rc st 0 s s
 | cons {s s' s'':S} {n:Nat} (h:st s=some (.inl s')) (t:Rc st n s' s''):Rc st (n+1) s s''
variable{st:S->O9 (S⊕O)}
theorem Ex.det{n c:Nat}{s:S}{o o':O}(a:Ex st n s o)(b:Ex st c s o'):n=c/\o=o':=by
 induction a generalizing c o' with
 | out h=>
  cases b with
  | out h'=>rw[h]at h';cases h';exact⟨rfl,rfl⟩
  | go h' t=>rw[h]at h';cases h'
 | go h t ih=>
  cases b with
  | out h'=>rw[h]at h';cases h'
  | go h' t'=>
   grind
theorem Rc.ex{k n:Nat}{s s':S}{o:O}(a:Rc st k s s')(b:Ex st n s o):∃ n',n=n'+k/\Ex st n' s' o:=by
 induction a generalizing n with
 | nil=>exact⟨n,rfl,b⟩
 | cons h t ih=>
  cases b with
  | out h'=>rw[h]at h';cases h'
  | go h' t'=>
   grind
theorem Rc.to{k n:Nat}{s s':S}{o:O}(a:Rc st k s s')(b:Ex st n s' o):Ex st (n+k) s o:=by
 induction a with
 | nil=>exact b
 | cons h t ih=>exact .go h (ih b)
theorem Rc.snoc{k:Nat}{s s' b:S}(a:Rc st k s s')(h:st s'=some (.inl b)):Rc st (k+1) s b:=by
 induction a with
 | nil=>exact .cons h .nil
 | cons h' t ih=>exact .cons h' (ih h)
theorem Rc.round{m n:Nat}{s:S}{o:O}(a:Rc st (m+1) s s):¬ Ex st n s o:=λb=>by
 obtain⟨c,e,q⟩:=a.ex b
 have:=(b.det q).1
 omega
def Res(st:S->O9 (S⊕O))(s:S)(r:O9 O):Prop:=∀ o,r=some o↔∃ n,Ex st n s o
theorem Res.det{s:S}{r c:O9 O}(a:Res st s r)(b:Res st s c):r=c:=by
 apply Option.ext
 intro o
 exact(a o).trans (b o).symm
theorem Res.out{s:S}{o:O}(h:st s=some (.inr o)):Res st s (some o):=λo'=>by
 constructor
 · intro e; cases e; exact⟨0, .out h⟩
 · rintro ⟨n, q⟩; rw [((Ex.out h).det q).2]
theorem Res.step{s s':S}{r:O9 O}(h:st s=some (.inl s'))(a:Res st s' r):Res st s r:=λo=>by
 rw[a o]
 constructor
 .rintro ⟨n,q⟩;exact⟨n+1,.go h q⟩
 .rintro ⟨n,q⟩
  cases q with
  | out h'=>rw[h]at h';cases h'
  | go h' t=>rw[h]at h';cases h';exact⟨_,t⟩
theorem Res.round{s:S}{m:Nat}(a:Rc st (m+1) s s):Res st s none:=λo=>by
 constructor
 · grind
 · rintro ⟨n, q⟩; exact absurd q a.round
open Classical in
noncomputable def bU(st:S->O9 (S⊕O))(s:S):O9 O:=if h:∃ o n,Ex st n s o then some h.choose else none
theorem lL(st:S->O9 (S⊕O))(s:S):Res st s (bU st s):=λo=>by
 unfold bU
 by_cases h:∃ o n,Ex st n s o
 .rw[dif_pos h]
  obtain⟨n,q⟩:=h.choose_spec
  constructor
  · grind
  · rintro ⟨n', q'⟩; rw [(q.det q').2]
 .grind
theorem Res.eq{s:S}{r:O9 O}(a:Res st s r):r=bU st s:=a.det (lL st s)
theorem wI{a:Type}{st':a->O9 (a⊕O)}{s:S}{s':a}(h:∀ o,(∃ n,Ex st n s o)↔∃ n,Ex st' n s' o):bU st s=bU st' s':=
 Option.ext λo=>((lL st s) o).trans ((h o).trans ((lL st' s') o).symm)
structure Und2(st:S->Option (S⊕O))(s0:S)(ps:List S)(s:S):Prop where
 nd:ps.Nodup
 back:∀ p∈ps,∃ m,Rc st (m+1) p s
 res:∀ r,Res st s r->Res st s0 r
theorem Und2.start{a:S}:Und2 st a [] a:=⟨D4,λp b=>by simp at b,λr h=>h⟩
theorem Und2.next{c s s':S}{ps:List S}(U:Und2 st c ps s)(f:s∉ps)(h:st s=some (.inl s')):Und2 st c (ps++[s]) s' where
 nd:=by
  rw[DH]
  exact⟨U.nd,by simp,λa d b i e=>by rw[A8.mp i]at e;exact f (e▸d)⟩
 back:=λp g=>by
  rcases BX.mp g with q|q
  · obtain⟨m, r⟩ := U.back p q; exact⟨m + 1, r.snoc h⟩
  · rw [A8.mp q]; exact⟨0, .cons h .nil⟩
 res:=λr a=>U.res r (a.step h)
theorem Und2.met{a s:S}{ps:List S}(U:Und2 st a ps s)(h:s∈ps):bU st a=none:=by
 obtain⟨m,r⟩:=U.back s h
 exact((U.res _ (Res.round r)).eq).symm
theorem Und2.outs{a s:S}{ps:List S}{o:O}(U:Und2 st a ps s)(h:st s=some (.inr o)):bU st a=some o:=((U.res _ (Res.out h)).eq).symm
end
abbrev Th:=O9 (Int×Int)
structure Tb where
 f:List Th
 a:List Th
theorem tL{S:Type}(f:S->Nat)(N:Nat)(l:List S)(c:l.Nodup)(d:∀ s∈l,f s < N)(hi:∀ a∈l,∀ b∈l,f a=f b->a=b):l.length<=N:=by
 have h:=tK N (l.map f) ?_ ?_
 .grind
 .unfold List.Nodup
  rw[List.pairwise_map]
  exact GE (λ{a b} ha hb hab e=>hab (hi a ha b hb e)) c
 .grind
theorem aDJ{S O:Type}{st:S->O9 (S⊕O)}{s s':S}(h:st s=some (.inl s')):bU st s=bU st s':=(((lL st s').step h).eq).symm
theorem hR{S O:Type}{st:S->O9 (S⊕O)}{s:S}{o:O}(h:st s=some (.inr o)):bU st s=some o:=((Res.out h).eq).symm
end Mc
namespace L2
open PySem.Spec PyProof.Rows
def Its(z:Str):It:=⟨λi _=>i < z.cps.size,λi H x H'=>H'=H/\∃ c,z.cps[i]? = some c/\x=.str ⟨#[c]⟩,λi _=>i=z.cps.size⟩
theorem aDK{P:P9}{w:W9}{K:Frag}{tg:E1}(z:Str)(t:Tok)(T:String)(J:∀ A:U9,A.handled=none->∀ it,Walks P w A it [it] [it] z.cps.size (SignAt z) λi h=>h.IsStrIter it T z t i)
  (a:∀ (A:U9) (it:Az) (i:Nat) (s:S9) (Q E:V9->S9->Prop),s.heap.IsStrIter it T z t i->Q (.ref it) s->wpAny (model P w) A (pyIter (.ref it)) Q E s)
  (q:["enumerate","zip","dict_itemiterator","dict_reverseitemiterator","odict_iterator","itertools.zip_longest","itertools.pairwise"].contains T=false) (it:Az):Turn P w K tg (Its z) [it] it (λi h=>h.IsStrIter it T z t i) where
 mem:=by simp
 obj:=λi h st b f=>by
  obtain rfl:b=it:=by simpa using f
  obtain⟨o,e,c,d⟩:=st
  grind
 keep:=λi h h' st k=>by
  obtain⟨o,e,c,d⟩:=st
  exact⟨o,k it (by simp) o e,c,d⟩
 item:=by
  intro X u F B C i a5 s σ H E I m st g
  subst u F B
  obtain⟨r,x,L,y,D,G⟩:=m it (by simp)
  refine(J X.A (I.ok.hd C) it).item i s _ E g st λv h' l M j p=>?_
  obtain⟨c,tc,n,rfl⟩:=M
  have N:Inv X a5 σ H {s with heap:=h',toks:=l}:=I.turned (t':=l) (it:=it) (λb o f e=>p b o (by simpa using f) e) r x y D G
  obtain⟨o,e,O,d⟩:=id j
  exact⟨_,rfl,aCU (s:={s with heap:=h',toks:=l}) e O d q ⟨.str ⟨#[c]⟩,H,N,⟨_,rfl⟩,⟨rfl,c,n,rfl⟩,j,λb f=>(m b f).1⟩⟩
 done:=by
  intro X u F B C i a5 s σ H E I m st g
  subst u F B
  obtain⟨r,x,L,y,D,G⟩:=m it (by simp)
  have g:i=z.cps.size:=g
  subst g
  exact(J X.A (I.ok.hd C) it).done s _ E st λh' l p=>⟨rfl,I.turned (t':=l) (it:=it) (λb o f e=>p b o (by simpa using f) e) r x y D G⟩
 self:=λA i s Q E st h=>a A it i s Q E st h
def aWF(te:TE):TI:=λσ H R=>te σ H λx H1=>∃ z,x=.str z/\R (Its z) H1
theorem aJ3{X:Cx}{tg l:E1}{tl:TE}(p:PE X l tl):PI X tg l (aWF tl):=by
 intro a5 s σ H R I h
 refine thn (p a5 s σ H _ I h) λv s1 g=>?_
 obtain⟨x,H1,d,r1,n⟩:=g
 obtain⟨z,e,q⟩:=n
 subst e
 obtain⟨t,rfl⟩:=r1
 refine wpAny_pyIter_strU ?_
 have c:Inv X a5 σ H1 {s1 with heap:=s1.heap.push {cls:=.type (strIterType z),data:=.fields #[.str z t,.int 0 0]}}:=d.kept (t':=s1.toks) λb o e=>AC _ e
 have st:(s1.heap.push {cls:=.type (strIterType z),data:=.fields #[.str z t,.int 0 0]}).IsStrIter s1.heap.objs.size (strIterType z) z t 0:=⟨_,A9 _ rfl,rfl,rfl⟩
 have a:∀ b∈[s1.heap.objs.size],kL X a5 H1 b:=λb m=>by
  obtain rfl:=A8.mp m
  exact d.fpOk (AQ _) (d.hok.fresh (AQ _))
 by_cases k:(z.cps.all λx=>decide (x < 128))=true
 .have j:strIterType z="str_ascii_iterator":=by unfold strIterType;rw[AD k]
  rw[j]at st c ⊢
  exact⟨s1.heap.objs.size,[s1.heap.objs.size],_,_,H1,rfl,c,aDK z t "str_ascii_iterator" (λA f it=>Walks.strAscii f it z t) (λA it i s Q E st h=>wpAny_pyIter_striter_ascii st h) (by decide) _,st,a,q⟩
 .have j:strIterType z="str_iterator":=by unfold strIterType;rw[AE k]
  rw[j]at st c ⊢
  exact⟨s1.heap.objs.size,[s1.heap.objs.size],_,_,H1,rfl,c,aDK z t "str_iterator" (λA f it=>Walks.strWide f it z t) (λA it i s Q E st h=>wpAny_pyIter_striter_wide st h) (by decide) _,st,a,q⟩
structure InK(env:Env)(s₀:S9)(m cm:Str->Option V9)(s:S9):Prop where
 ic:InCall s₀ env.locals m s
 cell:∀ n c,env.cells.lookup n=some c->s.heap.IsCell c (cm n)
 inj:∀ n n' c,env.cells.lookup n=some c->env.cells.lookup n'=some c->n=n'
 ne:∀ n c,env.cells.lookup n=some c->c≠env.locals
 up:∀ n c,env.kindOf n=some .cell->env.cells.lookup n=some c->env.locals < c
section
variable{M:Model}{A:U9}{E:V9->S9->Prop}{s₀ s:S9}{m cm:Str->O9 V9}{env:Env}
theorem InK.stL{n:Str}{v:V9}{Q:Unit->S9->Prop}(x:InK env s₀ m cm s)(j:env.scope.kind=.function)(i:env.kindOf n=some .local)
  (h:∀ s',InK env s₀ (λy=>if y=n then some v else m y) cm s'->Q () s'):wpAny M A (storeName env n v) Q E s:=by
 refine wpAny_storeName_local i x.ic.ns (λh' d a=>h _ ⟨⟨?_,d,λb o e=>?_,x.ic.fresh⟩,λk c f=>?_,x.inj,x.ne,x.up⟩) (by rw[j];rfl)
 .obtain ⟨g,l,rfl⟩:=x.ic.same
  grind
 .exact a.extBut b o (BP (BA (AT e) x.ic.fresh)) (x.ic.keep b o e)
 .exact (x.cell k c f).sameBut a (x.ne k c f)
theorem InK.stC{n:Str}{c:Az}{v:V9}{Q:Unit->S9->Prop}(x:InK env s₀ m cm s)(r:env.scope.kind=.function)(j:env.kindOf n=some .cell)
  (i:env.cells.lookup n=some c)
  (h:∀ s',InK env s₀ m (λy=>if y=n then some v else cm y) s'->Q () s'):wpAny M A (storeName env n v) Q E s:=by
 have d:=x.up n c j i
 refine wpAny_storeName_cell r j i (x.cell n c i) λh' q a=>h _ ⟨⟨?_,x.ic.ns.sameBut a (BP d),λb o e=>?_,x.ic.fresh⟩,λk l g=>?_,x.inj,x.ne,x.up⟩
 .obtain ⟨p,t,rfl⟩:=x.ic.same
  grind
 .exact a.extBut b o (BP (Nat.lt_trans (BA (AT e) x.ic.fresh) d)) (x.ic.keep b o e)
 .by_cases f:k=n
  .grind
  .rw[AE f]
   exact(x.cell k l g).sameBut a λe=>f (x.inj k n l g (e▸i))
theorem InK.binds(f:Str×V9->PUnit->Sem (ForInStep PUnit))(k:∀ n v u,f (n,v) u=(do storeName env n v;pure (.yield ⟨⟩)))(g:env.scope.kind=.function) :
  ∀ (binds:List (Str×V9)) (m cm:Str->O9 V9) (s:S9) (Q:PUnit->S9->Prop),InK env s₀ m cm s->
   (∀ x∈binds,env.kindOf x.1=some .local\/(env.kindOf x.1=some .cell/\(env.cells.lookup x.1).isSome=true))->
   (∀ s',InK env s₀ (bindL env.kindOf binds m) (bindC env.kindOf binds cm) s'->Q ⟨⟩ s')->wpAny M A (forIn binds ⟨⟩ f) Q E s
 | [],m,cm,s,Q,x,_,h=>by rw[FJ];exact AM (h s x)
 | (n,v)::r,m,cm,s,Q,x,hkind,h=>by
  rw[DR,k]
  have hr:∀ y∈r,env.kindOf y.1=some .local\/(env.kindOf y.1=some .cell/\(env.cells.lookup y.1).isSome=true):=λy l=>hkind y (AL _ l)
  rcases hkind (n,v) AV with d|⟨d,i⟩
  .refine AB (AB (x.stL g d λs' j=>AM (InK.binds f k g r _ _ s' Q j hr λa b=>h a ?_)))
   unfold bindL bindC;rw[AD d,AD d];exact b
  .obtain ⟨c,i⟩:=F9.mp i
   have e:¬ env.kindOf n=some .local:=by rw[d];decide
   refine AB (AB (x.stC g d i λs' j=>AM (InK.binds f k g r _ _ s' Q j hr λa b=>h a ?_)))
   unfold bindL bindC;rw[AE e,AE e];exact b
end
theorem lM:∀ (names:List (Str×NameKind)) (n:Nat) (a7:List (Str×Az)),cellsFrom n names a7=cellsFrom n names []++a7
 | [],_,_=>rfl
 | (x,k)::r,n,a7=>by
  unfold cellsFrom
  split
  · rw [lM r (n + 1) ((x, n) :: a7), lM r (n + 1) [(x, n)], DZ]; rfl
  · exact lM r n a7
theorem pB:∀ (names:List (Str×NameKind)) (n:Nat) {x:Str} {c:Az},(x,c)∈cellsFrom n names []->(x,NameKind.cell)∈names
 | [],_,_,_,h=>by simp[cellsFrom]at h
 | (y,k)::r,n,x,c,h=>by
  unfold cellsFrom at h
  split at h
  .rename_i a
   rw[lM]at h
   rcases BX.mp h with h|h
   · exact AL _ (pB r _ h)
   · grind
  .exact AL _ (pB r _ h)
theorem aDL{α:Type}{x:Str}:∀ {l l':List (Str×α)},(l++l').lookup x=(l.lookup x).or (l'.lookup x)
 | [],l'=>by simp
 | (y,v)::r,l'=>by
  grind
theorem tM{α:Type}{x:Str}{l:List (Str×α)}(h:∀ v,(x,v)∉l):l.lookup x=none:=by grind
noncomputable def dB(qual:Str)(scope:Scope)(L f:Az)(cd:V9)(cl:List (Str×Az)):Env:=newEnv scope L mainGlobals (cellsFrom (L+1) scope.names cl) (qual++".<locals>.") (some f) cd none builtinsNs
structure ClAt(h:Heap)(scope:Scope)(cl:List (Str×Az))(cm:Str->Option V9):Prop where
 cell:∀ n c,cl.lookup n=some c->h.IsCell c (cm n)
 inj:∀ n n' c,cl.lookup n=some c->cl.lookup n'=some c->n=n'
 off:∀ y∈scope.names,y.2=.cell->cl.lookup y.1=none
section
variable{M:Model}{A:U9}{E:V9->S9->Prop}{s:S9}
theorem aGC{scope:Scope}{binds:List (Str×V9)}{qual:Str}{f:Az}{cd:V9}{cl:List (Str×Az)}{cm:Str->O9 V9}{Q:Env->S9->Prop}
  (z:scope.kind=.function) (C:ClAt s.heap scope cl cm)
  (j:∀ x∈binds,scope.names.lookup x.1=some .local\/scope.names.lookup x.1=some .cell)
  (y:∀ s',InK (dB qual scope s.heap.objs.size f cd cl) s (bindL (dB qual scope s.heap.objs.size f cd cl).kindOf binds λ_=>none) (bindC (dB qual scope s.heap.objs.size f cd cl).kindOf binds λn=>if (cl.lookup n).isSome then cm n else none) s'->Q (dB qual scope s.heap.objs.size f cd cl) s') :
  wpAny M A (newFunctionEnv scope mainGlobals cl binds (qual++".<locals>.") (some f) cd none builtinsNs) Q E s:=by
 simp only[newFunctionEnv,Option.isSome_none,CA,D6]
 refine AB (wpAny_alloc ?_)
 refine AB (wpAny_layCells _ (λname kind cells=>by cases m:kind == NameKind.cell<;>simp[m]) _ _ _ _ ?_)
 have ok:=cellsFrom_ok scope.names (s.heap.push {cls:=.type "frame",data:=.dict #[]}) (s.heap.objs.size+1) [] ⟨λ_ _ w=>(nomatch w),List.Pairwise.nil⟩ (by rw[B4];exact AQ _)
 rw[B4]at ok
 rw[show({s with heap:=s.heap.push {cls:=.type "frame",data:=.dict #[]}}:S9).heap.objs.size=s.heap.objs.size+1 from B4 ..]
 have i:∀ b o,s.heap.get? b=some o->(pushCells (s.heap.push {cls:=.type "frame",data:=.dict #[]}) scope.names).get? b=some o:=λb o e=>pushCells_keeps _ _ b o (AC _ e)
 have h:(dB qual scope s.heap.objs.size f cd cl).cells=cellsFrom (s.heap.objs.size+1) scope.names []++cl:=lM _ _ _
 have g:∀ n c,(dB qual scope s.heap.objs.size f cd cl).cells.lookup n=some c->((cellsFrom (s.heap.objs.size+1) scope.names []).lookup n=some c/\cl.lookup n=none)\/((cellsFrom (s.heap.objs.size+1) scope.names []).lookup n=none/\cl.lookup n=some c):=λn c e=>by
  rw[h,aDL]at e
  cases q:(cellsFrom (s.heap.objs.size+1) scope.names []).lookup n with
  | none=>rw[q]at e;exact .inr ⟨rfl,by simpa using e⟩
  | some d=>
   rw[q]at e
   have k:some d=some c:=by simpa using e
   cases k
   exact .inl ⟨rfl,C.off (n,.cell) (pB _ _ (BG q)) rfl⟩
 have big:∀ n c,(cellsFrom (s.heap.objs.size+1) scope.names []).lookup n=some c->s.heap.objs.size < c:=λn c e=>(ok.empty n c (BG e)).2
 have l:∀ n c,cl.lookup n=some c->c < s.heap.objs.size:=λn c e=>(C.cell n c e).lt
 refine AB (InK.binds (s₀:=s) (env:=dB qual scope s.heap.objs.size f cd cl)
  _ (λ_ _ _=>rfl) z binds (λ_=>none) (λn=>if (cl.lookup n).isSome then cm n else none) _ _
  ⟨⟨⟨_,_,rfl⟩,(Heap.Ns.new s.heap (.type "frame")).keeps (pushCells_keeps _ _),i,AQ _⟩,λn c e=>?_,λn t c e k=>?_,λn c e=>?_,λn c u e=>?_⟩
  (λx v=>?_) λs' x=>AM (y s' x))
 .rcases g n c e with ⟨q,a⟩|⟨q,a⟩
  .rw[a];exact(ok.empty n c (BG q)).1
  .rw[a];exact(C.cell n c a).keeps i
 .rcases g n c e with ⟨q,a⟩|⟨q,a⟩<;>rcases g t c k with ⟨r,p⟩|⟨r,p⟩
  .exact name_of_addr ok.apart (BG q) (BG r)
  .grind
  .grind
  .exact C.inj n t c a p
 .show c≠s.heap.objs.size
  grind
 .show s.heap.objs.size < c
  rcases g n c e with ⟨q,a⟩|⟨q,a⟩
  .grind
  .rw[C.off (n,.cell) (BG u) rfl]at a;cases a
 .rcases j x v with q|q
  .exact .inl q
  .refine .inr ⟨q,?_⟩
   obtain⟨c,e⟩:=oK (n:=s.heap.objs.size+1) q
   grind
end
noncomputable def hid(cs:List Az)(H:Hp):Hp:=λb=>if b∈cs then none else H b
noncomputable def shw(cs:List Az)(H H':Hp):Hp:=λb=>if b∈cs then H b else H' b
theorem qD{cs:List Az}{H:Hp}{b:Az}(h:b∈cs):hid cs H b=none:=AD h
theorem cC{cs:List Az}{H:Hp}{b:Az}(h:b∉cs):hid cs H b=H b:=AE h
theorem tN{cs:List Az}{H H':Hp}{b:Az}(h:b∈cs):shw cs H H' b=H b:=AD h
theorem fU{cs:List Az}{H H':Hp}{b:Az}(h:b∉cs):shw cs H H' b=H' b:=AE h
theorem jU{cs:List Az}{H:Hp}{b:Az}(h:H b=none):hid cs H b=none:=by
 by_cases q:b∈cs
 · exact qD q
 · rw [cC q]; exact h
theorem rO{cs:List Az}{H:Hp}{b:Az}{o:HO}(h:hid cs H b=some o):H b=some o/\b∉cs:=by
 by_cases q:b∈cs
 · rw [qD q]at h; cases h
 · rw [cC q]at h; exact⟨h, q⟩
def FnO(f:Az)(o:Obj):HO:=.ext λh=>h.get? f=some o
def fV(c:Az)(o:Obj)(v:V):HO:=.frz o (.ext λh=>∃ u,bO v u/\h.IsCell c (some u))
section
variable{P:P9}{w:W9}{H:Hp}{h:H9}
theorem FnO.get{f:Az}{o:Obj}(x:HOk P w H h)(e:H f=some (FnO f o)):h.get? f=some o:=(x f _ e).1
theorem fV.get{c:Az}{o:Obj}{v:V}(x:HOk P w H h)(e:H c=some (fV c o v)):h.get? c=some o/\∃ u,bO v u/\h.IsCell c (some u):=⟨(x c _ e).1,(x c _ e).2.1⟩
theorem FnO.ok{f:Az}{o:Obj}(e:h.get? f=some o):cR P w H h f (FnO f o):=⟨e,⟨o,e⟩,λh1 h2 q k=>k o q⟩
theorem fV.ok{c:Az}{o:Obj}{v:V}{u:V9}(r:bO v u)(e:h.get? c=some o)(a:o.data=.cell (some u)):cR P w H h c (fV c o v):=
 ⟨e,⟨u,r,o,e,a⟩,⟨o,e⟩,λh1 h2 ⟨u,r,o,b,a⟩ k=>⟨u,r,o,k o b,a⟩⟩
end
def Celd(cs:List Az)(H:Hp):Prop:=∀ c∈cs,∃ o v,H c=some (fV c o v)
theorem Celd.out{cs:List Az}{H:Hp}(h:Celd cs H){b:Az}{o:HO}(e:H b=some o)(n:∀ o' v,o≠fV b o' v):b∉cs:=λz=>by
 obtain⟨o',v,q⟩:=h b z
 grind
theorem HOk.hid{P:P9}{w:W9}{H:Hp}{h:H9}{cs:List Az}(x:HOk P w H h)(a:Celd cs H):HOk P w (hid cs H) h:=λb u e=>by
 obtain⟨e1,_⟩:=rO e
 exact(x b u e1).stay (λ_ _ _ q=>q) (λc q=>by rw[cC (a.out q λ_ v z=>nomatch z)];exact q) (λc _ q=>by rw[cC (a.out q λ_ v z=>nomatch z)];exact q) λc _ q=>by rw[cC (a.out q λ_ v z=>nomatch z)];exact q
structure CloScope(N ps fr:List Str)(sc:Scope):Prop where
 kind:sc.kind=.function
 co:sc.isCoroutine=false
 gen:sc.isGenerator=false
 nd:N.Nodup
 pre:N.take (ps++fr).length=ps++fr
 par:∀ x∈ps,sc.names.lookup x=some .local\/sc.names.lookup x=some .cell
 cap:∀ x∈fr,sc.names.lookup x=some .free
 only:∀ y∈sc.names,y.2=.free->y.1∈fr
 off:∀ y∈sc.names,y.2=.cell->y.1∉fr
structure CapAt(H:Hp)(fr:List Str)(cl:List (Str×Az))(vs:List V):Prop where
 len:vs.length=fr.length
 only:∀ n c,cl.lookup n=some c->n∈fr
 inj:∀ n n' c,cl.lookup n=some c->cl.lookup n'=some c->n=n'
 at':∀ (i:Nat) x v,fr[i]? = some x->vs[i]? = some v->∃ c o,cl.lookup x=some c/\H c=some (fV c o v)
theorem CapAt.get{H:Hp}{fr:List Str}{cl:List (Str×Az)}{vs:List V}(a:CapAt H fr cl vs){n:Str}{c:Az}(e:cl.lookup n=some c):∃ o v,H c=some (fV c o v):=by
 obtain⟨i,hi,b⟩:=E3.mp (a.only n c e)
 obtain⟨f,o,d,q⟩:=a.at' i n (vs[i]'(by rw[a.len];exact hi)) (by rw[AW hi,b]) (AW _)
 grind
noncomputable def bG(fr:List Str)(cl:List (Str×Az)):List Az:=fr.filterMap λx=>cl.lookup x
theorem CapAt.celd{H:Hp}{fr:List Str}{cl:List (Str×Az)}{vs:List V}(a:CapAt H fr cl vs):Celd (bG fr cl) H:=λc b=>by
 obtain⟨x,_,e⟩:=C8.mp b
 exact a.get e
theorem CapAt.same{H H':Hp}{fr:List Str}{cl:List (Str×Az)}{vs:List V}(a:CapAt H fr cl vs)(s:aT H H'):CapAt H' fr cl vs:=⟨a.len,a.only,a.inj,λi x v h1 h2=>let ⟨c,o,e,q⟩:=a.at' i x v h1 h2;⟨c,o,e,s _ _ q⟩⟩
noncomputable def kC(CX:CXT)(P:P9)(w:W9)(K:Frag)(mg:Str->O9 V9)(base:H9)(N fr:List Str)(qual:Str)(scope:Scope)(f:Az)(cd:V9)(cl:List (Str×Az))(A:U9)(outer:List Env)(s:S9)(H:Hp)(E:XK):Cx where
 prog:=P
 w:=w
 K:=K
 mg:=mg
 base:=base
 A:=A.deeper (dB qual scope s.heap.objs.size f cd cl)
 N:=N
 s₀:=s
 H₀:=hid (bG fr cl) H
 env:=dB qual scope s.heap.objs.size f cd cl
 outer:=outer
 stack:=dB qual scope s.heap.objs.size f cd cl::outer
 ex:=[]
 calm:=true
 fn:=λx=>(cl.lookup x).isNone
 pn:=[]
 xe:=λe s'=>wpAny (model P w) (A.deeper (dB qual scope s.heap.objs.size f cd cl)) (leaving (dB qual scope s.heap.objs.size f cd cl) e) (λ_ s''=>CX outer H s E e s'') (λe' s''=>CX outer H s E e' s'') s'
section
variable{CX:CXT}{P:P9}{w:W9}{K:Frag}{mg:Str->O9 V9}{base:H9}{N ps fr:List Str}{qual:Str}{scope:Scope}{f:Az}{cd:V9}{cl:List (Str×Az)}{A:U9}{outer:List Env}{s s1:S9}{H:Hp}{E:XK}{us:List V9}{vs cvs:List V}
theorem aGD{h:H9}(hok:HOk P w H h)(C:CapAt H fr cl cvs):∃ cm:Str->O9 V9,(∀ n c,cl.lookup n=some c->∃ v u,(∃ o,H c=some (fV c o v))/\bO v u/\cm n=some u/\h.IsCell c (some u)):=by
 have a:∀ n,∃ x:O9 V9,∀ c,cl.lookup n=some c->∃ v u,(∃ o,H c=some (fV c o v))/\bO v u/\x=some u/\h.IsCell c (some u):=λn=>by
  cases e:cl.lookup n with
  | none=>exact⟨none,λc z=>nomatch z⟩
  | some c=>
   obtain⟨o,v,q⟩:=C.get e
   obtain⟨_,u,r,z⟩:=fV.get hok q
   exact⟨some u,λd b=>by cases b;exact⟨v,u,⟨o,q⟩,r,rfl,z⟩⟩
 exact⟨λn=>(a n).choose,λn c e=>(a n).choose_spec c e⟩
theorem rP{n:Str}{L:Nat}:(dB qual scope L f cd cl).cells.lookup n=((cellsFrom (L+1) scope.names []).lookup n).or (cl.lookup n):=by
 rw[show(dB qual scope L f cd cl).cells=cellsFrom (L+1) scope.names []++cl from lM _ _ _,aDL]
theorem uZ{n:Str}{c:Az}{L:Nat}(S:CloScope N ps fr scope)(C:CapAt H fr cl cvs)(e:cl.lookup n=some c):(dB qual scope L f cd cl).cells.lookup n=some c:=by
 rw[rP,tM λv a=>S.off (n,.cell) (pB _ _ a) rfl (C.only n c e)]
 grind
theorem yJ{cm:Str->O9 V9}(S:CloScope N ps fr scope)(C:CapAt H fr cl cvs)(V:A.handled=none)(e0:Env0 P w K mg base A outer s H)(M:vs.length=ps.length)(r:cI vs us)
  (R:∀ n c,cl.lookup n=some c->∃ v u,(∃ o,H c=some (fV c o v))/\bO v u/\cm n=some u/\s.heap.IsCell c (some u))
  (x:InK (dB qual scope s.heap.objs.size f cd cl) s (bindL (dB qual scope s.heap.objs.size f cd cl).kindOf (ps.zip us) λ_=>none) (bindC (dB qual scope s.heap.objs.size f cd cl).kindOf (ps.zip us) λn=>if (cl.lookup n).isSome then cm n else none) s1) :
  Inv (kC CX P w K mg base N fr qual scope f cd cl A outer s H E) [] (start N (vs++cvs)) (hid (bG fr cl) H) s1:=by
 have Z:(ps++fr).length<=N.length:=by have:=DF List.length S.pre;rw[CL]at this;omega
 have U:(vs++cvs).length=(ps++fr).length:=by rw[AS,AS,M,C.len]
 obtain⟨h1,tk,rfl,I⟩:=x.ic.done
 have j:∀ b:Az,b∉(kC CX P w K mg base N fr qual scope f cd cl A outer s H E).ex:=λb z=>absurd (show b∈([]:List Az)from z) (by simp)
 have m:∀ y c,cl.lookup y=none->(dB qual scope s.heap.objs.size f cd cl).cells.lookup y=some c->s.heap.objs.size < c:=λy c n e=>by
  rw[rP,n]at e
  have l:(cellsFrom (s.heap.objs.size+1) scope.names []).lookup y=some c:=by simpa using e
  have ok:=cellsFrom_ok scope.names (s.heap.push {cls:=.type "frame",data:=.dict #[]}) (s.heap.objs.size+1) [] ⟨λ_ _ X=>(nomatch X),List.Pairwise.nil⟩ (by rw[B4];exact AQ _)
  rw[B4]at ok
  exact(ok.empty y c (BG l)).2
 refine⟨⟨e0.mod,S.kind,rfl,rfl,AQ _,λy z c h1 h2=>x.inj y z c h1 h2,λy g=>?_,λy c G h=>?_,λ_=>V,Around.frames_deeper e0.frames,.inr ⟨rfl,rfl⟩,λb z=>absurd z (j b),λb o e=>⟨(e0.bs b o e).1,jU (e0.bs b o e).2⟩,e0.bsz,λb _ _=>j b,λb z=>absurd z (j b),e0.funs,λb Y=>jU (e0.frf b Y)⟩,
  rfl,e0.bare,Un.kept I,⟨_,x.ic.ns,λi y v h1 h2 h3=>?_⟩,λy c h=>⟨_,x.cell y c h⟩,jU (e0.hok.fresh (AQ _)),λy c h=>?_,λp a=>absurd (show p∈([]:List (Az×Obj))from a) (by simp),(e0.hok.hid C.celd).kept I,?_⟩
 .have g:scope.names.lookup y=some .cell\/scope.names.lookup y=some .free:=g
  rcases g with g|g
  .obtain ⟨c,e⟩:=oK (n:=s.heap.objs.size+1) g
   exact⟨c,by show(dB qual scope s.heap.objs.size f cd cl).cells.lookup y=_;rw[rP,e];rfl⟩
  .obtain ⟨i,hi,W⟩:=E3.mp (S.only _ (BG g) rfl)
   obtain⟨c,_,e,_⟩:=C.at' i y (cvs[i]'(by rw[C.len];exact hi)) (by rw[AW hi,W]) (AW _)
   exact⟨c,uZ S C e⟩
 .have G:(cl.lookup y).isNone=true:=G
  exact DK (m y c (Option.isNone_iff_eq_none.mp G) h)
 .have hi:i < (vs++cvs).length:=by
   unfold start at h2
   grind
  have t:(vs++cvs)[i]? = some v:=by
   unfold start at h2
   grind
  have a:(ps++fr)[i]? = some y:=by
   rw[<-S.pre,EI (by omega)];exact h1
  have D:(ps++fr).Nodup:=by rw[<-S.pre];exact S.nd.sublist (List.take_sublist _ _)
  have B:ps.Nodup:=(DH.mp D).1
  by_cases F:i < ps.length
  .rw[CC (by omega)]at t
   rw[CC F]at a
   obtain⟨u,J,O⟩:=r.get t
   refine⟨u,O,?_⟩
   rcases S.par y (AH a)with k|k
   .exact .inl ⟨k,tE B a J k⟩
   .obtain ⟨c,e⟩:=oK (n:=s.heap.objs.size+1) k
    have l:(dB qual scope s.heap.objs.size f cd cl).cells.lookup y=some c:=by rw[rP,e];rfl
    refine .inr ⟨.inl k,c,l,?_⟩
    have q:=x.cell y c l
    rw[tF B a J (by show scope.names.lookup y≠_;rw[k];decide)]at q
    exact q
  .rw[B1 (by omega)]at t
   rw[B1 (by omega)]at a
   rw[M]at t
   obtain⟨c,o,e,q⟩:=C.at' _ y v a t
   obtain⟨_,T,r2,Q⟩:=fV.get e0.hok q
   have l:=uZ (qual:=qual) (f:=f) (cd:=cd) (L:=s.heap.objs.size) S C e
   have d:scope.names.lookup y=some .free:=S.cap y (AH a)
   refine⟨T,r2,.inr ⟨.inr d,c,l,?_⟩⟩
   exact Q.keeps I
 .cases e:cl.lookup y with
  | none=>exact jU (e0.hok.fresh (DK (m y c e h)))
  | some c'=>
   have h':=uZ (qual:=qual) (f:=f) (cd:=cd) (L:=s.heap.objs.size) S C e
   have h:(dB qual scope s.heap.objs.size f cd cl).cells.lookup y=some c:=h
   rw[h]at h';cases h'
   exact qD (C8.mpr ⟨y,C.only y c e,e⟩)
 .unfold start
  show _=N.length
  grind
theorem wU{a5:List (Az×Obj)}{σ:St}{H':Hp}{s':S9}(S:CloScope N ps fr scope)(C:CapAt H fr cl cvs)(e0:Env0 P w K mg base A outer s H)(J:Inv (kC CX P w K mg base N fr qual scope f cd cl A outer s H E) a5 σ H' s') :
  (∀ c∈bG fr cl,H' c=none)/\Un (frs outer) [] H (shw (bG fr cl) H H') s.heap s'.heap/\HOk P w (shw (bG fr cl) H H') s'.heap:=by
 have un:Un (frs outer) [] (hid (bG fr cl) H) H' s.heap s'.heap:=J.base
 have d:∀ c∈bG fr cl,H' c=none:=λc j=>by
  obtain⟨x,_,e⟩:=C8.mp j
  exact J.freeC x c (uZ S C e)
 have out:∀ b,H b=none->b∉bG fr cl:=λb n z=>by
  obtain⟨o,v,q⟩:=C.celd b z
  grind
 refine⟨d,⟨λb o e n h1 h2=>un.keep b o e (jU n) h1 h2,λb o e n h1 h2=>un.slot b o e (jU n) h1 h2,λb o e n h2=>by rw[fU (out b n)];exact un.free b o e (jU n) h2,un.there,
  λb xs q=>?_,λb o u q=>?_,λb ps q=>?_⟩,λb u e=>?_⟩
 .have a:=C.celd.out q λ_ v z=>nomatch z
  rw[fU a];exact un.tups b xs (by rw[cC a];exact q)
 .by_cases a:b∈bG fr cl
  .rw[tN a];exact q
  .rw[fU a];exact un.frzs b o u (by rw[cC a];exact q)
 .have a:=C.celd.out q λ_ v z=>nomatch z
  rw[fU a];exact un.tbls b ps (by rw[cC a];exact q)
 .by_cases a:b∈bG fr cl
  .rw[tN a]at e
   obtain⟨o,v,q⟩:=C.celd b a
   rw[q]at e;cases e
   obtain⟨i,u,r,l,g,k⟩:=fV.get e0.hok q
   rw[i]at g;cases g
   exact fV.ok r (un.keep b o i (qD a) (λz=>by have:=e0.frf b z;rw[q]at this;cases this) (by simp)) k
  .rw[fU a]at e
   have h:∀ c o,H' c=some o->c∉bG fr cl:=λc o q z=>by rw[d c z]at q;cases q
   exact(J.hok b u e).stay (λ_ _ _ q=>q) (λc q=>by rw[fU (h c _ q)];exact q) (λc _ q=>by rw[fU (h c _ q)];exact q) λc _ q=>by rw[fU (h c _ q)];exact q
end
section
variable{P:P9}{w:W9}{K:Frag}{mg:Str->O9 V9}{base:H9}{N ps fr:List Str}{qual:Str}{scope:Scope}{f:Az}{cd:V9}{cl:List (Str×Az)}{A:U9}{outer:List Env}{s:S9}{H:Hp}{E:XK}{cvs:List V}
theorem yK{j:V9}{s':S9}(S:CloScope N ps fr scope)(C:CapAt H fr cl cvs)(e0:Env0 P w K mg base A outer s H)
  (h:Fly (kC (CXe P w) P w K mg base N fr qual scope f cd cl A outer s H E) (λc e H'=>(∀ a∈bG fr cl,H' a=none)->E c e (shw (bG fr cl) H H')) j s'):(kC (CXe P w) P w K mg base N fr qual scope f cd cl A outer s H E).xe j s':=by
 obtain⟨e,r,od,σ,H',rfl,I,n,q⟩:=h
 show wpAny (model P w) _ (leaving _ (.ref e)) _ _ s'
 unfold leaving
 have k:rL (kC (CXe P w) P w K mg base N fr qual scope f cd cl A outer s H E):=⟨rfl,rfl⟩
 refine AB (rM k I n λu p m=>qB p m λx i g=>?_)
 obtain⟨vs,T,a,b,c,_⟩:=g.tb
 obtain⟨d,un,hok⟩:=wU S C e0 i
 have l:∀ c o,H' c=some o->c∉bG fr cl:=λc o q z=>by rw[d c z]at q;cases q
 refine⟨e,r,od,_,rfl,i.os,i.bare,un,hok,by rw[fU (l _ _ g.tr)];exact g.tr,⟨vs,T,a,b,λt e1=>⟨?_,(c t e1).2.1⟩⟩,q d⟩
 rw[fU]
 .grind
 .intro z
  obtain⟨o,v,q⟩:=C.celd t z
  exact absurd (BA (e0.hok.lt q) (c t e1).2.1) (CI _)
end
structure ClSt where
 name:Str
 qual:Str
 params:Arguments
 body:FuncBody
 scope:Scope
noncomputable def ClSt.fd(S:ClSt)(cl:List (Str×Az))(doc pm:V9)(c:Az)(ct:V9):FuncData:=
 {name:=S.name,qualname:=S.qual,params:=S.params,body:=S.body,scope:=S.scope,globals:=mainGlobals,closure:=cl,defaults:=.none,kwdefaults:=.none,doc:=doc,pyModule:=pm,annotations:=none,code:=.ref c,closureTuple:=ct,builtins:=builtinsNs}
abbrev ClSt.obj(S:ClSt)(cl:List (Str×Az))(doc pm:V9)(c:Az)(ct:V9):Obj:={cls:=.type "function",data:=.func (S.fd cl doc pm c ct)}
section
variable{P:P9}{w:W9}{K:Frag}{mg:Str->O9 V9}{base:H9}{N ps fr:List Str}{S:ClSt}{f c:Az}{cl:List (Str×Az)}{A:U9}{outer:List Env}{s:S9}{H:Hp}{E:XK}{Q:VK}{cvs vs:List V}{us:List V9}{args:Args}{doc pm ct:V9}{k:Nat}
theorem aDM(Sc:CloScope N ps fr S.scope):∀ y∈ps.zip us,S.scope.names.lookup y.1=some .local\/S.scope.names.lookup y.1=some .cell:=λ⟨n,v⟩ a=>Sc.par n (EB a).1
theorem aJ4{h:H9}(hok:HOk P w H h)(Sc:CloScope N ps fr S.scope)(C:CapAt H fr cl cvs){cm:Str->O9 V9}(b:∀ n c,cl.lookup n=some c->∃ v u,(∃ o,H c=some (fV c o v))/\bO v u/\cm n=some u/\h.IsCell c (some u)):ClAt h S.scope cl cm where
 cell:=λn c e=>by
  grind
 inj:=C.inj
 off:=λy d a=>by
  cases e:cl.lookup y.1 with
  | none=>rfl
  | some c=>exact absurd (C.only _ _ e) (Sc.off y d a)
theorem aJ5{body:List Stmt}(G:S.body=.stmts body)(L:H f=some (FnO f (S.obj cl doc pm c ct)))(D:H c=some (.cod S.qual))(Sc:CloScope N ps fr S.scope)(C:CapAt H fr cl cvs)(B:Room (k+1) A)
  (e0:Env0 P w K mg base A outer s H) (l:BindsTo s (S.fd cl doc pm c ct) args (ps.zip us)) (r:cI vs us) (R:vs.length=ps.length)
  (g:Room k (A.deeper (dB S.qual S.scope s.heap.objs.size f (.ref c) cl))->∃ t,PSs ((kC (CXe P w) P w K mg base N fr S.qual S.scope f (.ref c) cl A outer s H E).fly λc e H'=>(∀ a∈bG fr cl,H' a=none)->E c e (shw (bG fr cl) H H')) body t /\
   t {nx:=λ_ H'=>(∀ a∈bG fr cl,H' a=none)->Q .non (shw (bG fr cl) H H'),rt:=λv H'=>(∀ a∈bG fr cl,H' a=none)->Q v (shw (bG fr cl) H H')} (start N (vs++cvs)) (hid (bG fr cl) H)) :
  codeAny (model P w) A (.call (.ref f) args) (CR (CXe P w) outer P w H s Q E) s:=by
 have p:s.heap.NoLimit:=e0.mod.nolimit.keeps λb o e=>(e0.bs b o e).1
 obtain⟨cm,j⟩:=aGD e0.hok C
 have m:s.heap.CodeRec (.ref c) S.qual:=e0.hok c _ D
 refine EX B.depth (FnO.get e0.hok L) rfl Sc.co Sc.gen G m (l _ _ _ _ ?_)
 refine aGC (cm:=cm) Sc.kind (aJ4 e0.hok Sc C j) (aDM Sc) λs1 x=>?_
 refine⟨p.keeps x.ic.keep,codeAny_func ?_⟩
 obtain⟨t,F,T⟩:=g (B.deeper _)
 have I:Inv (kC (CXe P w) P w K mg base N fr S.qual S.scope f (.ref c) cl A outer s H E) [] (start N (vs++cvs)) (hid (bG fr cl) H) s1:=yJ Sc C B.hd e0 R r j x
 have y:=F.unfly λ_ _ z=>yK Sc C e0 z
 refine BO (y [] s1 _ _ _ I T) (λM s' h=>?_) λe s' h=>h
 have i:∀ {d:St} {H':Hp} {v:V} {u:V9},Inv (kC (CXe P w) P w K mg base N fr S.qual S.scope f (.ref c) cl A outer s H E) [] d H' s'->bO v u->((∀ a∈bG fr cl,H' a=none)->Q v (shw (bG fr cl) H H'))->CE outer P w H s Q u s':=
  λ{d H' v u} J n q=>by
   obtain⟨O,un,hok⟩:=wU Sc C e0 J
   exact⟨v,_,J.os,J.bare,un,hok,n,q O⟩
 cases M with
 | ret u=>
  obtain⟨v,d,H',J,n,q⟩:=h
  exact i J n q
 | next=>
  obtain⟨d,H',J,q⟩:=h
  exact i (v:=V.non) (u:=Value.none) J rfl q
 | brk=>
  obtain⟨_,_,_,q⟩:=h
  grind
 | cont=>
  obtain⟨_,_,_,q⟩:=h
  grind
theorem aMJ{body:E1}(z:S.body=.expr body)(B:H f=some (FnO f (S.obj cl doc pm c ct)))(n:H c=some (.cod S.qual))(Sc:CloScope N ps fr S.scope)(C:CapAt H fr cl cvs)(m:Room (k+1) A)
  (e0:Env0 P w K mg base A outer s H) (h:BindsTo s (S.fd cl doc pm c ct) args (ps.zip us)) (r:cI vs us) (F:vs.length=ps.length)
  (d:Room k (A.deeper (dB S.qual S.scope s.heap.objs.size f (.ref c) cl))->∃ t,PE ((kC (CXe P w) P w K mg base N fr S.qual S.scope f (.ref c) cl A outer s H E).fly λc e H'=>(∀ a∈bG fr cl,H' a=none)->E c e (shw (bG fr cl) H H')) body t /\
   t (start N (vs++cvs)) (hid (bG fr cl) H) λv H'=>(∀ a∈bG fr cl,H' a=none)->Q v (shw (bG fr cl) H H')) :
  codeAny (model P w) A (.call (.ref f) args) (CR (CXe P w) outer P w H s Q E) s:=by
 have l:s.heap.NoLimit:=e0.mod.nolimit.keeps λb o e=>(e0.bs b o e).1
 obtain⟨cm,g⟩:=aGD e0.hok C
 have j:s.heap.CodeRec (.ref c) S.qual:=e0.hok c _ n
 refine PySem.W.kla_callFunE m.depth (FnO.get e0.hok B) rfl Sc.co Sc.gen z j (h _ _ _ _ ?_)
 refine aGC (cm:=cm) Sc.kind (aJ4 e0.hok Sc C g) (aDM Sc) λs1 x=>?_
 refine⟨l.keeps x.ic.keep,PySem.W.kla_codeExpr ?_⟩
 obtain⟨t,y,G⟩:=d (m.deeper _)
 have I:Inv (kC (CXe P w) P w K mg base N fr S.qual S.scope f (.ref c) cl A outer s H E) [] (start N (vs++cvs)) (hid (bG fr cl) H) s1:=yJ Sc C m.hd e0 F r g x
 refine BO (y [] s1 _ _ _ (I.wish _) G) (λu s' i=>?_) λe s' i=>yK Sc C e0 i
 obtain⟨v,H',J,p,q⟩:=i
 obtain⟨D,un,hok⟩:=wU Sc C e0 J.unwish
 exact⟨v,_,J.os,J.bare,un,hok,p,q D⟩
end
theorem aH6{env:Env}:∀ (names:List (Str×NameKind)) (a7:List (Str×Az)),(∀ x∈names,x.2=.free->∃ c,env.cells.lookup x.1=some c)->
  (∀ x c,a7.lookup x=some c->env.cells.lookup x=some c)->
  ∃ cl,(forIn names a7 λx r=>(if (x.2 == NameKind.free)=true then(do let a <-cellOf env x.1;pure (ForInStep.yield ((x.1,a)::r)))else pure (ForInStep.yield r)):Sem (List (Str×Az)))=pure cl /\
   (∀ x c,cl.lookup x=some c->env.cells.lookup x=some c)/\(∀ x∈names,x.2=.free->∃ c,cl.lookup x.1=some c)/\(∀ x c,a7.lookup x=some c->∃ c',cl.lookup x=some c') /\
   (∀ x c,cl.lookup x=some c->(∃ c',a7.lookup x=some c')\/(x,NameKind.free)∈names):=by
 intro names
 induction names with
 | nil=>intro a7 _ h;exact⟨a7,rfl,h,λx j=>absurd j (by simp),λx c e=>⟨c,e⟩,λx c e=>.inl ⟨c,e⟩⟩
 | cons x r ih=>
  intro a7 g h
  obtain⟨n,k⟩:=x
  by_cases l:k=.free
  .subst l
   obtain⟨c,f⟩:=g (n,.free) AV rfl
   have f:env.cells.lookup n=some c:=f
   obtain⟨cl,e1,e2,o,i,m⟩:=ih ((n,c)::a7) (λy b=>g y (AL _ b)) (λy d e=>by
    rw[CM]at e
    cases q:y == n with
    | true=>rw[q]at e;cases e;have:=eq_of_beq q;subst this;exact f
    | false=>rw[q]at e;exact h y d e)
   refine⟨cl,?_,e2,λy b p=>?_,λy d e=>?_,λy d e=>?_⟩
   .rw[DR]
    simp only[beq_self_eq_true,BU]
    unfold cellOf
    simp only[f,pure_bind]
    exact e1
   .rcases A6.mp b with z|z
    · simp_all
    · grind
   .by_cases q:y=n
    · simp_all
    · exact i y d (by rw [CM, E2 q]; exact e)
   .grind
  .obtain ⟨cl,e1,e2,o,i,m⟩:=ih a7 (λy b=>g y (AL _ b)) h
   grind
structure ClOf(cells:List (Str×Az))(sc:Scope)(cl:List (Str×Az)):Prop where
 of:∀ x c,cl.lookup x=some c->cells.lookup x=some c
 all:∀ x∈sc.names,x.2=.free->∃ c,cl.lookup x.1=some c
 only:∀ x c,cl.lookup x=some c->(x,NameKind.free)∈sc.names
theorem aDN{env:Env}{scope:Scope}(b:∀ x∈scope.names,x.2=.free->∃ c,env.cells.lookup x.1=some c) :
  ∃ cl,closureFor scope env=pure cl/\ClOf env.cells scope cl:=by
 obtain⟨cl,e1,e2,a,_,d⟩:=aH6 scope.names [] b (λx c e=>by simp at e)
 refine⟨cl,?_,e2,a,λx c e=>?_⟩
 .unfold closureFor
  grind
 .grind
theorem aJ6{pos:Pos}{r:List V9}(l:List V9)(h:TriplesOk l):codeAmong pos (l++r)=(codeAmong pos l).or (codeAmong pos r):=by
 fun_induction TriplesOk l with
 | case1=>simp[codeAmong]
 | case2 a t b u x rest ih=>
  simp only[B7,codeAmong]
  grind
 | case3 l h1 h2=>exact h.elim
structure Tb(mg:Str->Option V9)(base:Heap)(c0 P0:Az):Prop where
 hd:PySem.W.CodeHd base c0 P0
 bt:∃ bm ob,mg "__builtins__"=some (.ref bm)/\bm≠builtinsNs/\base.get? bm=some ob/\ob.cls=.type "module"/\ob.dict=some builtinsNs/\ob.data=.plain
section
variable{X:Cx}{a5:List (Az×Obj)}{σ:St}{H:Hp}{s:S9}{c0 P0:Az}{qs:List (Pos×Str)}{pos:Pos}{q:Str}
theorem aJ7{ps:Array V9}{c:Az}{h h':H9}(A:HOk X.prog X.w H h)(s:H P0=some (.tbl qs))(B:h.get? P0=some (PySem.W.tabObj ps))(n:TriplesOk ps.toList)(f:∀ p∈qs,codeAmong p.1 ps.toList=none\/∃ c,codeAmong p.1 ps.toList=some (.ref c)/\H c=some (.cod p.2))
  (t:∀ p∈qs,p.1.line=pos.line->p.1.col=pos.col->p.2=q) (x:codeAmong pos ps.toList=none) (a:H c=none) (hx:Heap.ExtBut P0 h h') (i:h'.CodeRec (.ref c) q) (j:h'.get? P0=some (PySem.W.tabObj (ps ++ #[rawInt pos.line,rawInt pos.col,.ref c]))) :
  HOk X.prog X.w (upd H c (.cod q)) h':=λb u e=>by
 have y:P0≠c:=λz=>by rw[<-z,s]at a;cases a
 by_cases o:b=c
 .subst o;rw[bL]at e;cases e;exact i
 .rw[aW o]at e
  by_cases k:b=P0
  .subst k
   rw[s]at e;cases e
   refine⟨_,j,?_,λp m=>?_⟩
   .rw[Array.toList_append];exact TriplesOk_snoc _ _ _ _ n
   .rw[Array.toList_append,aJ6 _ n]
    rcases f p m with z|⟨d,z,l⟩
    .rw[z]
     show(codeAmong p.1 [rawInt pos.line,rawInt pos.col,.ref c])=none\/_
     by_cases g:p.1.line=pos.line/\p.1.col=pos.col
     .refine .inr ⟨c,?_,?_⟩
      .show codeAmong p.1 [rawInt pos.line,rawInt pos.col,.ref c]=_
       rw[<-g.1,<-g.2]
       exact codeAmong_snoc [] trivial rfl
      .rw[t p m g.1 g.2];exact bL
     .refine .inl ?_
      simp only[codeAmong,rawInt]
      grind
    .refine .inr ⟨d,by rw[z];rfl,?_⟩
     rw[aW (bQ l a)];exact l
  .refine (A b u e).stay (λd v C r=>hx d v ?_ r) (λd r=>by rw[aW (bQ r a)];exact r) (λd _ r=>by rw[aW (bQ r a)];exact r) λd _ r=>by rw[aW (bQ r a)];exact r
   grind
def Mkd(H:Hp)(q:Str)(c:Az)(H1:Hp):Prop:=(H c=some (.cod q)/\H1=H)\/(H c=none/\H1=upd H c (.cod q))
theorem aGE {S : ClSt} {M : Model} {A : U9} {E : V9 -> S9 -> Prop} {Q : V9 -> S9 -> Prop} {g : Nat} (I : Inv X a5 σ H s) (d : X.env.code = .ref c0) (T : Tb X.mg X.base c0 P0) (hP : H P0 = some (.tbl qs)) (hq : (pos, S.qual) ∈ qs)
    (hu : ∀ p ∈ qs, p.1.line = pos.line -> p.1.col = pos.col -> p.2 = S.qual) (v : ∀ x ∈ S.scope.names, x.2 = .free -> ∃ c, X.env.cells.lookup x.1 = some c)
    (h : ∀ f c cl doc pm ct H1 s', Mkd H S.qual c H1 -> H1 f = none -> ClOf X.env.cells S.scope cl -> Inv X a5 σ (upd H1 f (FnO f (S.obj cl doc pm c ct))) s' -> Q (.ref f) s') :
    wpAny M A (makeFunction S.name S.qual S.params S.body S.scope X.env [] [] [] pos g) Q E s := by
  obtain⟨cl, q, P⟩ := aDN v
  obtain⟨ps, j, O, t⟩ := (show cR X.prog X.w H s.heap P0 (.tbl qs)from I.hok P0 _ hP)
  have C : PySem.W.CodeHd s.heap c0 P0 := T.hd.keeps I.bk
  have G : s.heap.Ns mainGlobals X.mg := I.mod.glob.keeps I.bk
  have J : mainGlobals ≠ P0 := λz => by
    obtain⟨o, es, ep, e, hd, _⟩ := G
    grind
  obtain⟨bm, ob, b1, b2, b3, b4, b5, b6⟩ := T.bt
  have y := I.bk _ _ b3
  have aa : bm ≠ P0 := λz => by rw [z, j]at y; cases y; cases b4
  have Z : bm ≠ mainGlobals := λz => by
    obtain⟨o, es, ep, e, hd, _⟩ := G
    grind
  have U : s.heap.BuiltinsAt X.mg P0 := ⟨bm, ob, b1, b2, Z, aa, y, b4, b5, b6⟩
  rcases t _ hq with B | ⟨c, hf, hc⟩
  · have k : ∀ (i : Az) (a doc : V9) (h' : H9) (m : Tok), Heap.ExtBut P0 s.heap h' -> s.heap.objs.size <= i -> i < h'.objs.size -> h'.CodeRec (.ref i) S.qual -> h'.get? P0 = some (PySem.W.tabObj (ps ++ #[rawInt pos.line, rawInt pos.col, .ref i])) ->
        Q (.ref h'.objs.size) { s with heap := h'.push (S.obj cl doc ((X.mg "__name__").getD .none) i a), toks := m } := by
      intro i a doc h' m V D N R L
      have Y : H i = none := I.hok.fresh D
      have r : HOk X.prog X.w (upd H i (.cod S.qual)) h' := aJ7 I.hok hP j O t hu B Y V R L
      have l : (upd H i (.cod S.qual)) h'.objs.size = none := r.fresh (AQ _)
      refine h h'.objs.size i cl doc ((X.mg "__name__").getD .none) a _ _ (.inr ⟨Y, rfl⟩) l P ?_
      have F : ∀ b o, H b = some o -> b ≠ i /\ b ≠ h'.objs.size := λb o e => ⟨bQ e Y, λz => by
        rw [z]at e
        rw [aW (DL N), e]at l; cases l⟩
      have nP : ∀ b, H b = none -> b ≠ P0 := λb n z => by rw [z, hP]at n; cases n
      refine I.un ⟨λb o e n _ _ => AC _ (V b o (nP b n) e), λb o e n _ _ => ⟨o.slots, AC _ (V b o (nP b n) e)⟩, λb o e n _ => ?_, λb o e _ => ?_, λb xs e => ?_, λb o u e => ?_, λb qs e => ?_⟩ ?_
      · have hb := AT e
        rw [aW (BP (BA hb (BR D (DK N)))), aW (BP (BA hb D))]; exact n
      · by_cases z : b = P0
        · subst z; exact⟨_, AC _ L⟩
        · exact⟨o, AC _ (V b o z e)⟩
      · rw [aW (F b _ e).2, aW (F b _ e).1]; exact e
      · rw [aW (F b _ e).2, aW (F b _ e).1]; exact e
      · rw [aW (F b _ e).2, aW (F b _ e).1]; exact e
      · exact r.laid (λb u e => AC _ e) (AQ _) (FnO.ok (A9 _ rfl))
    obtain⟨name, qual, params, body, scope⟩ := S
    cases body with
    | stmts body => exact PySem.W.makeFunction_K q I.ok.glob G d C j O B J U k
    | expr body => exact PySem.W.kla_makeFunction q I.ok.glob G d C j O B J U λi a h' m => k i a .none h' m
  · have k : ∀ (a doc : V9) (h' : H9) (m : Tok), (∀ b o, s.heap.get? b = some o -> h'.get? b = some o) -> s.heap.objs.size <= h'.objs.size ->
        Q (.ref h'.objs.size) { s with heap := h'.push (S.obj cl doc ((X.mg "__name__").getD .none) c a), toks := m } := by
      intro a doc h' m hk K
      refine h h'.objs.size c cl doc ((X.mg "__name__").getD .none) a H _ (.inl ⟨hc, rfl⟩) (I.hok.fresh K) P ?_
      exact I.laid (λb u e => AC _ (hk b u e)) K (FnO.ok (A9 _ rfl))
    obtain⟨name, qual, params, body, scope⟩ := S
    cases body with
    | stmts body => exact PySem.W.makeFunction_hit q I.ok.glob G d C j O hf U k
    | expr body => exact PySem.W.kla_makeFunctionHit q I.ok.glob G d C j O hf U λa h' m => k a .none h' m
def tMk(cells:List (Str×Az))(S:ClSt)(P0:Az)(qs:List (Pos×Str)):TE:=λσ H Q=>H P0=some (.tbl qs)/\∀ f c cl doc pm ct H1,Mkd H S.qual c H1->H1 f=none->ClOf cells S.scope cl->Q (.ref f) (upd H1 f (FnO f (S.obj cl doc pm c ct)))
theorem aJ8{i:Nat}{x:Str}{params:Arguments}{body:List Stmt}{scope:Scope}(b:X.env.code=.ref c0)(T:Tb X.mg X.base c0 P0)(e:qualnameIn X.env x x=q)(w:(pos,q)∈qs)
  (n:∀ p∈qs,p.1.line=pos.line->p.1.col=pos.col->p.2=q) (a:∀ y∈scope.names,y.2=.free->X.env.kindOf y.1=some .cell\/X.env.kindOf y.1=some .free)
  (d:params.defaults=[]) (j:params.kw_defaults=[]) (o:annTrees params none X.env=[])
  (C:X.N.Nodup) (hi:X.N[i]? = some x) (hx:Loc X.env.scope x) (t:X.fn x=true\/X.env.scope.names.lookup x=some .local:=by exact .inl rfl) :
  PS X (.FunctionDef x params body [] none [] scope none x pos) (nO (tMk X.env.cells ⟨x,q,params,.stmts body,scope⟩ P0 qs) (lV i)):=by
 intro a5 s σ H D I h
 obtain⟨z,h⟩:=h
 refine PySem.W.nestDef_K d j o ?_
 rw[e]
 refine aGE (S:=⟨x,q,params,.stmts body,scope⟩) I b T z w n (λy B g=>I.ok.has _ (a y B g)) λf c cl doc pm ct H1 s' r u l m=>?_
 exact rJ m C hi hx (v:=.ref f) rfl (λA k=>⟨_,_,k,h f c cl doc pm ct H1 r u l⟩) t
theorem aST{params:Arguments}{body:E1}{scope:Scope}(b:X.env.code=.ref c0)(T:Tb X.mg X.base c0 P0)(e:X.env.qual++("<lambda>":Str)=q)(n:(pos,q)∈qs)
  (k:∀ p∈qs,p.1.line=pos.line->p.1.col=pos.col->p.2=q) (a:∀ y∈scope.names,y.2=.free->X.env.kindOf y.1=some .cell\/X.env.kindOf y.1=some .free)
  (d:defaultsOf params X.env=([],[])) :
  PE X (.Lambda params body scope pos) (tMk X.env.cells ⟨"<lambda>",q,params,.expr body,scope⟩ P0 qs):=by
 intro a5 s σ H Q I h
 obtain⟨o,h⟩:=h
 refine PySem.W.kla_eval d ?_
 rw[e]
 exact aGE (S:=⟨"<lambda>",q,params,.expr body,scope⟩) I b T o n k (λy r g=>I.ok.has _ (a y r g)) λf c cl doc pm ct H1 s' l m i j=>⟨.ref f,_,j,rfl,h f c cl doc pm ct H1 l m i⟩
end
abbrev Cv:=List (Az×Obj×V)
noncomputable def pub(cv:Cv)(H:Hp):Hp:=λb=>match cv.lookup b with
 | some p=>some (fV b p.1 p.2)
 | none=>H b
noncomputable def dZ(cv:Cv):List Az:=cv.map (·.1)
theorem jI{c:Cv}{b:Az}:b∈dZ c↔∃ p,c.lookup b=some p:=by
 unfold dZ
 induction c with
 | nil=>simp
 | cons a r ih=>
  obtain⟨x,p⟩:=a
  rw[A4,A6,ih,CM]
  by_cases h:b=x
  · simp_all
  · grind
theorem tO{a:Cv}{H:Hp}{b:Az}{p:Obj×V}(h:a.lookup b=some p):pub a H b=some (fV b p.1 p.2):=by unfold pub;rw[h]
theorem fW{a:Cv}{H:Hp}{b:Az}(h:b∉dZ a):pub a H b=H b:=by
 unfold pub
 cases e:a.lookup b with
 | none=>rfl
 | some p=>exact absurd (jI.mpr ⟨p,e⟩) h
theorem mR{a:Cv}{H:Hp}(c:∀ b∈dZ a,H b=none):aT H (pub a H):=λb o e=>by
 rw[fW λz=>by rw[c b z]at e;cases e];exact e
theorem aOI{P:P9}{w:W9}{fs:List Az}{d:Cv}{H H1:Hp}{h h':H9}(l:∀ b∈dZ d,H b=none)(k:HOk P w (pub d H) h)(un:Un fs [] (pub d H) H1 h h')(hk1:HOk P w H1 h') :
  Un fs [] H (hid (dZ d) H1) h h'/\HOk P w (hid (dZ d) H1) h':=by
 have inn:∀ b,b∈dZ d->∃ o v,h.get? b=some o/\h'.get? b=some o/\H1 b=some (fV b o v):=λb a=>by
  obtain⟨⟨o,v⟩,e⟩:=jI.mp a
  have z:=tO (H:=H) e
  have i:=un.frzs b o _ z
  exact⟨o,v,(fV.get k z).1,(fV.get hk1 i).1,i⟩
 have out:∀ b u,H b=some u->b∉dZ d:=λb u e z=>by rw[l b z]at e;cases e
 refine⟨⟨λb o e n h1 h2=>?_,λb o e n h1 h2=>?_,λb o e n h2=>?_,un.there,λb xs q=>?_,λb o u q=>?_,λb ps q=>?_⟩,λb u e=>?_⟩
 .by_cases a:b∈dZ d
  .grind
  .exact un.keep b o e (by rw[fW a];exact n) h1 h2
 .by_cases a:b∈dZ d
  .obtain ⟨o',v,g,j,_⟩:=inn b a
   rw[e]at g;cases g;exact⟨o.slots,j⟩
  .exact un.slot b o e (by rw[fW a];exact n) h1 h2
 .by_cases a:b∈dZ d
  .exact qD a
  .rw[cC a];exact un.free b o e (by rw[fW a];exact n) h2
 .have a:=out b _ q
  rw[cC a];exact un.tups b xs (by rw[fW a];exact q)
 .have a:=out b _ q
  rw[cC a];exact un.frzs b o u (by rw[fW a];exact q)
 .have a:=out b _ q
  rw[cC a];exact un.tbls b ps (by rw[fW a];exact q)
 .obtain ⟨e1,a⟩:=rO e
  have f:∀ c o,H1 c=some o->(∀ o' v,o≠fV c o' v)->c∉dZ d:=λc o q n z=>by
   grind
  exact(hk1 b u e1).stay (λ_ _ _ q=>q) (λc q=>by rw[cC (f c _ q λ_ _ z=>nomatch z)];exact q) (λc _ q=>by rw[cC (f c _ q λ_ _ z=>nomatch z)];exact q) λc _ q=>by rw[cC (f c _ q λ_ _ z=>nomatch z)];exact q
structure PubRel(X:Cx)(σ:St)(H:Hp)(js:List Nat)(cv:Cv):Prop where
 at':∀ b o v,cv.lookup b=some (o,v)->∃ x j,j∈js/\X.N[j]? = some x/\X.env.cells.lookup x=some b/\σ[j]? = some (some v)
 all:∀ j∈js,∃ x c o v,X.N[j]? = some x/\X.env.cells.lookup x=some c/\σ[j]? = some (some v)/\cv.lookup c=some (o,v)
 free:∀ b∈dZ cv,H b=none
 inj:∀ x y c,X.env.cells.lookup x=some c->X.env.cells.lookup y=some c->x=y
section
variable{X:Cx}{a5:List (Az×Obj)}{σ:St}{H:Hp}{s:S9}
def aDO(X:Cx)(σ:St)(j:Nat):Prop:=∃ x v,X.N[j]? = some x/\X.env.kindOf x=some .cell/\X.fn x=true/\σ[j]? = some (some v)
theorem aJ9(I:Inv X a5 σ H s):∀ (js:List Nat),(∀ j∈js,aDO X σ j)->∃ cv,PubRel X σ H js cv/\∀ b o v,cv.lookup b=some (o,v)->(∃ u,s.heap.get? b=some o/\o.data=.cell (some u)/\bO v u)/\X.s₀.heap.objs.size<=b/\∃ x,X.env.cells.lookup x=some b
 | [],_=>⟨[],⟨λb o v e=>by simp at e,λj hj=>by simp at hj,λb hb=>by simp[dZ]at hb,I.ok.inj⟩,λb o v e=>by simp at e⟩
 | j::js,hj=>by
  obtain⟨cv,R,ok⟩:=aJ9 I js λw h'=>hj w (AL _ h')
  obtain⟨x,v,L,f,O,G⟩:=hj j AV
  obtain⟨m,U,C⟩:=I.loc
  obtain⟨u,r,l⟩:=C j x v L G (.inr (.inl f))
  rcases l with ⟨Q,_⟩|⟨_,c,p,o,P,N⟩
  .grind
  .have A:=I.ok.cab x c O p
   by_cases d:c∈dZ cv
   .obtain ⟨⟨o',a⟩,e⟩:=jI.mp d
    obtain⟨g,w,J,y,t,h⟩:=R.at' c o' a e
    have q:x=g:=I.ok.inj x g c p t
    subst q
    refine⟨cv,⟨λb o v e=>?_,λk f=>?_,R.free,R.inj⟩,ok⟩
    .obtain ⟨x,j,h1,h2⟩:=R.at' b o v e
     grind
    .rcases A6.mp f with z|z
     .subst z
      obtain⟨V,r2,T⟩:=C w x a y h (.inr (.inl (by assumption)))
      obtain⟨⟨M,B,D,S⟩,_⟩:=ok c o' a e
      rw[P]at B;cases B
      rw[N]at D
      have:u=M:=by cases D;rfl
      subst this
      have F:v=a:=bO.inj r S
      grind
     .exact R.all k z
   .refine ⟨(c,o,v)::cv,⟨λb o' a e=>?_,λk f=>?_,λb hb=>?_,R.inj⟩,λb o' a e=>?_⟩
    .rw[CM]at e
     by_cases hb:b=c
     .grind
     .rw[E2 hb]at e
      obtain⟨x,j,h1,h2⟩:=R.at' b o' a e
      grind
    .rcases A6.mp f with z|z
     .grind
     .obtain ⟨g,E,o',a,h1,h2,K,n⟩:=R.all k z
      refine⟨g,E,o',a,h1,h2,K,?_⟩
      rw[CM,E2 (show E≠c from λz=>by rw[z]at n;exact d (jI.mpr ⟨_,n⟩))];exact n
    .have i:b=c\/b∈dZ cv:=by simpa[dZ] using hb
     rcases i with z|z
     .subst z;exact I.freeC x b p
     .exact R.free b z
    .grind
theorem aPK(I:Inv X a5 σ H s){js:List Nat}{d:Cv}(R:PubRel X σ H js d)(ok:∀ b o v,d.lookup b=some (o,v)->(∃ u,s.heap.get? b=some o/\o.data=.cell (some u)/\bO v u)/\X.s₀.heap.objs.size<=b/\∃ x,X.env.cells.lookup x=some b) :
  Env0 X.prog X.w X.K X.mg X.base X.A X.stack s (pub d H) where
 frames:=I.ok.frames
 mod:=I.ok.mod
 bs:=λb o e=>⟨(I.bs b o e).1,by
  rw[fW]
  .exact (I.bs b o e).2
  .intro z
   obtain⟨⟨o',v⟩,q⟩:=jI.mp z
   have h1:=(ok b o' v q).2.1
   have h2:=AT e
   exact absurd (BA h2 (BR I.ok.bsz h1)) (CI _)⟩
 bsz:=BR I.ok.bsz I.sz
 funs:=I.stack
 frf:=λb a=>by
  rw[fW]
  .exact I.stkFree b a
  .intro z
   obtain⟨⟨o',v⟩,q⟩:=jI.mp z
   obtain⟨_,h1,x,h⟩:=ok b o' v q
   rcases A6.mp (I.stkSub b a)with f|f
   .exact I.cne x b h f
   .obtain ⟨_,o,g,_⟩:=I.ok.funs.mem f
    exact absurd (BA (AT g) h1) (CI _)
 hok:=λb u e=>by
  by_cases a:b∈dZ d
  .obtain ⟨⟨o,v⟩,q⟩:=jI.mp a
   rw[tO q]at e;cases e
   obtain⟨⟨u,h1,h2,i⟩,_⟩:=ok b o v q
   exact fV.ok i h1 h2
  .rw[fW a]at e
   exact(I.hok b u e).stay (λ_ _ _ q=>q) (λc q=>mR R.free _ _ q) (λc _ q=>mR R.free _ _ q) λc _ q=>mR R.free _ _ q
 bare:=I.bare
def aKA(X:Cx)(js:List Nat)(sp:Sp)(E:XK)(t:TA):TE:=λσ H Q=>t σ H λvs H1=>(∀ j∈js,aDO X σ j)/\∀ cv,PubRel X σ H1 js cv->sp vs (pub cv H1) (λv H2=>Q v (hid (dZ cv) H2)) (λc e H2=>E c e (hid (dZ cv) H2)/\∀ a,e=some a->a∉dZ cv)
theorem aKB{k:Nat}{x:Str}{ps:List Str}{sp:Sp}{E:XK}{p pos:Pos}{e:E1}{es:List E1}{t:TA}{js:List Nat}(C:Calls X.prog X.w X.K X.mg X.base (CXe X.prog X.w) k x ps sp)(O:Room k X.A)(G:Gl X x)(hx:oJ (CXe X.prog X.w) X E)(S:PA X (e::es) t)(n:(x == ("__debug__":Str))=false:=by decide)
  (he:starEach (e::es) X.env=(false,eval e X.env)::starEach es X.env:=by rfl) (hpl:(backTo pos (starEach es X.env)).any (·.1)=false:=by rfl):PE X (.Call (.Name x p) (e::es) [] pos) (aKA X js sp E t):=by
 obtain⟨f,fd,F,b,m,L⟩:=C
 intro a5 s σ H Q I h
 refine CQ (nX I G m ?_ n)
 refine DO (h₀:=X.base) I.ok.mod.kin L (thn (S pos a5 s σ H _ I h) λus s1 ⟨vs,H1,g,r,o,q⟩=>⟨g.kIn,?_⟩) he hpl
 obtain⟨z,R,ok⟩:=aJ9 g js o
 have i:=q z R
 have e0:=aPK g R ok
 have W:us.length=ps.length:=by rw[<-r.length];exact F.len _ _ _ _ i
 have B:=b s1 us g.kIn (by simpa using W)
 rw[CT]at B
 refine FY (EH (F.run X.A X.stack s1 _ ⟨us,[]⟩ us vs _ _ O e0 B r i) λU s' j=>?_)
 cases U with
 | error ev=>
  obtain⟨e,C,od,H',rfl,os,a,un,hok,y,⟨l,T,V,Y,D⟩,P,M⟩:=j
  obtain⟨d,c⟩:=aOI R.free e0.hok un hok
  refine hx a5 σ H1 s1 (.ref e) s' g ⟨e,C,od,hid (dZ z) H',rfl,os,a,d,c,?_,⟨l,T,V,Y,λt e1=>?_⟩,P⟩
  .rw[cC (M e rfl)];exact y
  .exact ⟨jU (D t e1).1,(D t e1).2⟩
 | ok fl=>
  cases fl with
  | ret u=>
   obtain⟨v,H',os,a,un,hok,J,N⟩:=j
   obtain⟨d,c⟩:=aOI R.free e0.hok un hok
   exact g.after ⟨v,hid (dZ z) H',os,a,d,c,J,N⟩
  | next=>exact False.elim j
  | brk=>exact False.elim j
  | cont=>exact False.elim j
end
noncomputable def aDP(Ps:List Az)(qs:List (Pos×Str)):Hp:=λb=>if b∈Ps then some (.tbl qs)else none
def aDQ(mg:Str->O9 V9)(h base:H9)(T:Hp)(qs:List (Pos×Str))(xs:List Str):Prop:=
 ∀ x∈xs,∃ c0 P0,T P0=some (.tbl qs)/\Tb mg base c0 P0/\∀ f o fd,mg x=some (.ref f)->h.get? f=some o->o.data=.func fd->fd.code=.ref c0
theorem aKC{P:P9}{w:W9}{K:Frag}{mg mb:Str->O9 V9}{CX:CXT}{k:Nat}{fa a:Az}{fd:FuncData}{x:Str}{c:S9}{vs:List V9}{ns:List Int}{qs:List (Pos×Str)}{xs:List Str}{tb:Str->Az×Az}
  (Z:∀ x∈xs,PySem.W.CodeHd c.heap (tb x).1 (tb x).2/\c.heap.get? (tb x).2=some (PySem.W.tabObj #[])) (aa:∀ x∈xs,∀ f o fd,mg x=some (.ref f)->c.heap.get? f=some o->o.data=.func fd->fd.code=.ref (tb x).1)
  (aj:∃ bm ob,mg "__builtins__"=some (.ref bm)/\bm≠builtinsNs/\c.heap.get? bm=some ob/\ob.cls=.type "module"/\ob.dict=some builtinsNs/\ob.data=.plain) (hNT:PySem.W.noTabs K=true)
  (KX:K.In c.heap) (O:c.heap.Ns mainGlobals mg) (g:c.heap.Ns builtinsNs mb) (ag:∀ x:Str,x≠"__name__"->mb x=bootBuiltins x) (N:c.heap.NoLimit) (hg:c.gens = #[])
  (Y:c.heap.get? a=some {cls:=.type "list",data:=.seq vs.toArray}) (hi:IntsAre vs ns) (hl:ns.length<=sizeLine) (hr:Room k callerA)
  (F:∀ (base:H9) (T:Hp),K.In base->base.Ns mainGlobals mg->aDQ mg c.heap base T qs xs->∃ sp,FnOk P w K mg base CX k fa fd [x] sp/\∀ H:Hp,aT T H->SqL K H a (ns.map V.int)->sp [.ref a] H (λv _=>v=.bl true) λ_ _ _=>False) (hbind:∀ (s:S9) (u:V9),BindsTo s fd ⟨[u],[]⟩ [(x,u)])
  (hCX:∀ H e s',CX [] H c (λ_ _ _=>False) e s'->False) :
  codeAny (model P w) callerA (.call (.ref fa) ⟨[.ref a],[]⟩) (λr s'=>r=.ok (.ret (.bool true))/\OldK c.heap s'.heap/\s'.os=c.os/\AllBare s'.gens) c:=by
 have rv:=aBV hi
 have U:=hi.length
 let Ps:List Az:=xs.map λx=>(tb x).2
 have B:∀ b∈Ps,c.heap.get? b=some (PySem.W.tabObj #[])/\isCodeTable c.heap b:=λb g=>by
  obtain⟨y,I,rfl⟩:=AX.mp g
  exact⟨(Z y I).2,((Z y I).1.tab (Z y I).2).isCodeTable⟩
 have G:a∉Ps:=λz=>by have:=(B a z).1;rw[Y]at this;cases this
 have ad:∀ b∈Ps,K.lookup b=none:=λb g=>by
  cases e:K.lookup b with
  | none=>rfl
  | some o=>
   have e2:=KX b o e
   rw[(B b g).1]at e2
   cases e2
   have h2:=CB.mp hNT (b,_) (PySem.W.mem_of_lookupK e)
   grind
 have E:∀ H:Hp,(∀ b∈Ps,H b=some (.tbl qs))->(∀ b,H b≠none->b=a\/b∈Ps)->(H a=none\/∃ o xs,H a=some (.frz o (.lst xs)))->SqL K H a (ns.map V.int)->HOk P w H c.heap->(H a≠none->K.lookup a=none)->
   codeAny (model P w) callerA (.call (.ref fa) ⟨[.ref a],[]⟩) (λr s'=>r=.ok (.ret (.bool true))/\OldK c.heap s'.heap/\s'.os=c.os/\AllBare s'.gens) c:=by
  intro H hP hA hO hS R hK
  have i:∀ {b:Az} {o:Obj},c.heap.get? b=some o->H b=none->(pW c.heap H).get? b=some o:=λe n=>aL8 e n
  have j:∀ {b:Az} {o:Obj},c.heap.get? b=some o->(∀ vs,o.data≠.seq vs)->o≠PySem.W.tabObj #[]->H b=none:=λ{b o} e d d2=>by
   grind
  have ah:∀ {b:Az} {o:Obj} {es:Array DictEntry} {ep:Nat},c.heap.get? b=some o->o.data=.dict es ep->H b=none:=λ{b o es ep} e d=>j e (λvs z=>by rw[d]at z;cases z) λz=>by rw[z]at d;cases d
  have C:∀ {b:Az} {m:Str->O9 V9},c.heap.Ns b m->(pW c.heap H).Ns b m:=λ{b m} ⟨o,es,ep,e,d,r⟩=>⟨o,es,ep,i e (ah e d),d,r⟩
  have Q:K.In (pW c.heap H):=λb o e=>i (KX b o e) (by
   cases q:H b with
   | none=>rfl
   | some u=>
    rcases hA b (by rw[q];simp)with e'|e'
    .grind
    .rw[ad b e']at e;cases e)
  have hM:Mod K mg (pW c.heap H):=⟨Q,C O,⟨mb,C g,ag⟩,let ⟨mc,h1,h2⟩:=N;⟨mc,C h1,h2⟩⟩
  have e0:Env0 P w K mg (pW c.heap H) callerA [] c H:=⟨rfl,hM,λb o e=>aO9 e,E4 (aJL _ _),trivial,λb g=>absurd (show b∈([]:List Az)from g) (by simp),R,.of_eq hg⟩
  have ai:aDQ mg c.heap (pW c.heap H) (aDP Ps qs) qs xs:=λy I=>by
   refine⟨(tb y).1,(tb y).2,AD (AX.mpr ⟨y,I,rfl⟩),⟨?_,?_⟩,aa y I⟩
   .obtain ⟨o,vs,L,tf,J,tg,ac,X,tt,e1,r1,r2,r3⟩:=(Z y I).1
    exact⟨o,vs,L,tf,J,tg,ac,X,tt,i e1 (j e1 (λvs z=>by rw[r2]at z;cases z) λz=>by rw[z]at r1;cases r1),r1,r2,r3⟩
   .grind
  have af:aT (aDP Ps qs) H:=λb o e=>by
   unfold aDP at e
   grind
  obtain⟨sp,FO,ae⟩:=F _ _ Q (C O) ai
  refine EH (FO.run callerA [] c H ⟨[.ref a],[]⟩ [.ref a] [.ref a] _ _ hr e0 (hbind c (.ref a)) (.cons rfl .nil) (ae H af hS)) λr s' h=>?_
  cases r with
  | error e=>exact(hCX H e s' h).elim
  | ok fl=>
   cases fl with
   | next=>exact False.elim h
   | brk=>exact False.elim h
   | cont=>exact False.elim h
   | ret u=>
    obtain⟨v,H',os,S,un,t,r',q⟩:=h
    have q':v=.bl true:=q
    subst q'
    obtain rfl:u=Value.bool true:=r'
    have kept:∀ b o,c.heap.get? b=some o->b∉Ps->s'.heap.get? b=some o:=λb o e g=>by
     cases q:H b with
     | none=>exact un.keep b o e q (by intro z;exact absurd (show b∈([]:List Az)from z) (by simp)) (by simp)
     | some u=>
      rcases hA b (by rw[q];simp)with z|z
      .subst z
       rcases hO with z|⟨ob,xs,z⟩
       .grind
       .have M:=un.frzs b ob _ z
        obtain⟨e1,_⟩:=R b _ z
        obtain⟨e2,_⟩:=t b _ M
        grind
      .grind
    refine⟨rfl,⟨λb o e=>?_,λb o e=>?_⟩,os,S⟩
    .by_cases g:b∈Ps
     .obtain ⟨ps,e2,_⟩:=(show cR P w H' s'.heap b (.tbl qs)from t b _ (un.tbls b _ (hP b g)))
      have e1:=(B b g).1
      rw[e]at e1;cases e1
      exact .inr (.inl ⟨(B b g).2,rfl,#[],ps,rfl,by rw[Array.empty_append];exact e2⟩)
     .exact .inl (kept b o e g)
    .by_cases g:b∈Ps
     .obtain ⟨ps,e2,_⟩:=(show cR P w H' s'.heap b (.tbl qs)from t b _ (un.tbls b _ (hP b g)))
      grind
     .grind
 have A:∀ (H:Hp) b,b∈Ps->cR P w H c.heap b (.tbl qs):=λH b g=>⟨#[],(B b g).1,trivial,λp _=>.inl rfl⟩
 cases hk:K.lookup a with
 | some o=>
  have e:=KX a o hk
  rw[Y]at e
  cases e
  refine E (aDP Ps qs) (λb g=>AD g) (λb z=>?_) (.inl (AE G)) (.inr ⟨_,vs.toArray,_,hk,rfl,rfl,rfl,by rw[BK,U];exact hl,by simpa using rv⟩) (λb u z=>?_) λz=>absurd (AE G) z
  .by_cases g:b∈Ps
   .grind
   .exact absurd (AE g) z
  .by_cases g:b∈Ps
   .have D:=(AD g).symm.trans z
    cases D
    exact A _ b g
   .have D:=(AE g).symm.trans z
    cases D
 | none=>
  refine E (λb=>if b=a then some (.frz {cls:=.type "list",data:=.seq vs.toArray} (.lst (ns.map V.int)))else aDP Ps qs b) (λb g=>?_) (λb z=>?_) (.inr ⟨_,_,AD rfl⟩) (.inl (.inr ⟨{cls:=.type "list",data:=.seq vs.toArray},AD rfl⟩)) (λb u z=>?_) λ_=>hk
  .rw[AE (show ¬ b=a from λz=>G (by rw[<-z];exact g))];exact AD g
  .by_cases g:b=a
   .exact .inl g
   .rw[AE g]at z
    by_cases l:b∈Ps
    .exact .inr l
    .exact absurd (AE l) z
  .by_cases g:b=a
   .have D:=(AD g).symm.trans z
    cases D
    subst g
    exact⟨Y,by rw[AA];exact hl,vs,_,rv,Y⟩
   .have D:=(AE g).symm.trans z
    by_cases l:b∈Ps
    .have M:=(AD l).symm.trans D
     cases M
     exact A _ b l
    .have M:=(AE l).symm.trans D
     cases M
theorem aPL{p:P9}{b:List Str}{g:ExcName->O9 V9}{mg q:Str->O9 V9}{h:H9}(T:Top p b g mg q h)(xs:List Str)(hx:∀ x∈xs,∃ d∈recsOf p,d.name=x) :
  ∃ tb:Str->Az×Az,(∀ x∈xs,PySem.W.CodeHd h (tb x).1 (tb x).2/\h.get? (tb x).2=some (PySem.W.tabObj #[]))/\∀ x∈xs,∀ f o fd,mg x=some (.ref f)->h.get? f=some o->o.data=.func fd->fd.code=.ref (tb x).1:=by
 have e:∀ x,∃ t:Az×Az,x∈xs->(PySem.W.CodeHd h t.1 t.2/\h.get? t.2=some (PySem.W.tabObj #[]))/\∀ f o fd,mg x=some (.ref f)->h.get? f=some o->o.data=.func fd->fd.code=.ref t.1:=λx=>by
  by_cases m:x∈xs
  .obtain ⟨d,k,rfl⟩:=hx x m
   obtain⟨a,o,fd,c,n,h1,h2,u,r,l,i⟩:=T.tab d k
   refine⟨(c,n),λ_=>⟨⟨PySem.W.CodeHd.of l i,i.2⟩,λf o' j e1 e2 s=>?_⟩⟩
   grind
  .simp_all
 exact⟨λx=>(e x).choose,λx hx=>((e x).choose_spec hx).1,λx hx=>((e x).choose_spec hx).2⟩
theorem walk_ofT{l:PySem.W.OpenLaw}{n k:Nat}{q:P9}{c:List Str}{P:(Str->O9 V9)->H9->Prop}{D:W9->H9->Prop}{d:DefRec}{K:Params->Frag}{CX:W9->CXT}{x:Str}{qs:List (Pos×Str)}{xs:List Str}
  (t:∀ x∈xs,∃ d∈recsOf q,d.name=x) (hNT:∀ w:W9,PySem.W.noTabs (K w.params)=true)
  (I:l.most=some n) (r:n<=sizeLine) (z:d.params.defaults=[]) (J:Room k callerA)
  (L:∀ (w:W9) (h:H9),D w h->(K w.params).In h)
  (F:∀ (w:W9) (mg:Str->O9 V9) (fa:Az) (h:H9),(K w.params).In h->h.Ns mainGlobals mg->mg d.name=some (.ref fa)->
   ∃ fd:FuncData,(∀ (s:S9) (u:V9),BindsTo s fd ⟨[u],[]⟩ [(x,u)]) /\
    ∀ (base:H9) (T:Hp),(K w.params).In base->base.Ns mainGlobals mg->aDQ mg h base T qs xs->∃ sp,FnOk l.prog w (K w.params) mg base (CX w) k fa fd [x] sp /\
     ∀ (H:Hp) (a:Az) (ns:List Int),ns.length<=n->aT T H->SqL (K w.params) H a (ns.map V.int)->sp [.ref a] H (λv _=>v=.bl true) λ_ _ _=>False)
  (A:∀ (w:W9) (H:Hp) (s:S9) (e:V9) (s':S9),CX w [] H s (λ_ _ _=>False) e s'->False) :
  PySem.W.WalkO q c P D l.row.toRowW d [] (λf vs=>PySem.call f vs):=by
 refine Att.attach_call I z λw s₀ m mg R fa o pm cd doc a vs ns G Y ho Z M B j i p E=>?_
 have C:=L w _ Y
 obtain⟨fd,N,X⟩:=F w mg fa _ C G.T.g B
 obtain⟨tb,O,y⟩:=aPL G.T xs t
 refine aKC (qs:=qs) O y G.T.bmain (hNT w) C G.T.g G.T.b G.T.builtins G.T.nolimit E j i (BR p r) J (λbase T Q U S=>?_) N λH e s'=>A w H m e s'
 grind
end L2
namespace Fl
open L2 PyProof.Rows
mutual
noncomputable def gL:Dz->Bool
 | .none=>true
 | .int _=>true
 | .str x=>PyData.strOk x
 | .tuple xs=>dS xs
 | _=>false
noncomputable def dS:List Dz->Bool
 | []=>true
 | x::t=>gL x && dS t
end
mutual
noncomputable def jP(w:W9):Dz->Int
 | .none=>reduceHash 0xFCA86420
 | .int i=>hashInt i
 | .str x=>hashStr w x
 | .tuple xs=>reduceHash (Builtin.Tuple.tupleHashOf (n5 w xs))
 | _=>0
noncomputable def n5(w:W9):List Dz->List Int
 | []=>[]
 | x::t=>jP w x::n5 w t
end
mutual
noncomputable def iR:Dz->Nat
 | .tuple xs=>oM xs+1
 | _=>1
noncomputable def oM:List Dz->Nat
 | []=>0
 | x::t=>iR x+oM t
end
mutual
theorem qE:∀ {d:Dz},gL d=true->d.canLay0=true
 | .none,_=>rfl
 | .int _,_=>rfl
 | .str x,h=>h
 | .tuple xs,h=>by
  have h':dS xs=true:=h
  exact aDR h'
theorem aDR:∀ {xs:List Dz},dS xs=true->PyData.canLayAll0 xs=true
 | [],_=>rfl
 | x::t,h=>by
  have h':(gL x && dS t)=true:=h
  rw[BE]at h'
  show(x.canLay0 && PyData.canLayAll0 t)=true
  rw[qE h'.1,aDR h'.2];rfl
end
mutual
theorem aAH:∀ {d e:Dz},gL d=true->gL e=true->(PyData.eqv d e=true↔d=e)
 | .none,e,_,he=>by cases e<;>simp[PyData.eqv]<;>cases he
 | .int i,e,_,he=>by cases e<;>simp[PyData.eqv]<;>cases he
 | .str x,e,_,he=>by cases e<;>simp[PyData.eqv]<;>cases he
 | .tuple xs,e,hd,he=>by
  have hd':dS xs=true:=hd
  cases e with
  | tuple ys=>
   have a:dS ys=true:=he
   have:=aDS hd' a
   show PyData.eqvAll xs ys=true↔_
   rw[this]
   exact⟨λz=>by rw[z],λz=>by cases z;rfl⟩
  | _=>simp[PyData.eqv]<;>cases he
theorem aDS:∀ {xs ys:List Dz},dS xs=true->dS ys=true->(PyData.eqvAll xs ys=true↔xs=ys)
 | [],ys,_,_=>by cases ys<;>simp[PyData.eqvAll]
 | x::t,ys,hx,hy=>by
  have hx':(gL x && dS t)=true:=hx
  rw[BE]at hx'
  cases ys with
  | nil=>simp[PyData.eqvAll]
  | cons y u=>
   have c:(gL y && dS u)=true:=hy
   rw[BE]at c
   rw[PyData.eqvAll,BE,aAH hx'.1 c.1,aDS hx'.2 c.2]
   exact⟨λ⟨a,b⟩=>by rw[a,b],λz=>by cases z;exact⟨rfl,rfl⟩⟩
end
noncomputable instance decPyData:DecidableEq Dz:=λa b=>Classical.propDecidable (a=b)
theorem aPM{d e:Dz}(b:gL d=true)(a:gL e=true):PyData.eqv d e=decide (d=e):=by
 by_cases h:d=e
 .rw[AJ h,(aAH b a).mpr h]
 .rw[A1 h]
  cases q:PyData.eqv d e with
  | false=>rfl
  | true=>exact absurd ((aAH b a).mp q) h
theorem aH7(xs:List Dz):iR (.tuple xs)=oM xs+1:=by rw[iR]
theorem aBX(A:U9):A.in1.units=A.units+1:=rfl
def nJ(prog:P9)(w:W9)(E:V9->S9->Prop)(d:Dz):Prop:=∀ (v:V9) (as:List Az) (A:U9) (s:S9) (Q:Int->S9->Prop),gL d=true->Reads s.heap v d as->A.units+d.depth < cLine->Q (jP w d) {s with toks:=s.toks+iR d}->
 wpAny (model prog w) A (pyHash v) Q E s
theorem aSU{prog:P9}{w:W9}{E:V9->S9->Prop}:∀ (xs:List Dz) (ih:∀ x∈xs,nJ prog w E x) (vs:List V9) (as:List Az) (A:U9) (s:S9) (b:Array Int) (Q:Array Int->S9->Prop),dS xs=true->ReadsAll s.heap vs xs as->A.units+PyData.depthAll xs < cLine->
  (∀ b',b'.toList=b.toList++n5 w xs->Q b' {s with toks:=s.toks+oM xs})->
  wpAny (model prog w) A (forIn vs b λx r=>do let h <-pyHash x;pure PUnit.unit;pure (ForInStep.yield (r.push h))) Q E s:=by
 intro xs
 induction xs with
 | nil=>
  intro ih vs as A s b Q _ x _ h
  cases x
  exact AM (h b (by simp[n5]))
 | cons k xs ih0=>
  intro ih vs as A s b Q d x c h
  cases x with
  | @cons v vs _ _ as bs x1 x2=>
   have a:(gL k && dS xs)=true:=d
   rw[BE]at a
   have f:A.units+max k.depth (PyData.depthAll xs) < cLine:=c
   rw[DR]
   refine AB (AB (ih k AV _ _ A s _ a.1 x1 (by omega) ?_))
   refine AB (AM (AM ?_))
   refine ih0 (λx e=>ih x (AL _ e)) _ _ A {s with toks:=s.toks+iR k} _ Q a.2 x2 (by omega) λb' g=>?_
   have q:=h b' (by rw[g];simp[n5])
   rw[show oM (k::xs)=iR k+oM xs by rw[oM],<-Nat.add_assoc]at q
   exact q
theorem aBY(w:W9)(i:Int):jP w (.int i)=hashInt i:=by rw[jP]
theorem aBZ(w:W9)(i:Str):jP w (.str i)=hashStr w i:=by rw[jP]
theorem aKD(w:W9)(xs:List Dz):jP w (.tuple xs)=reduceHash (Builtin.Tuple.tupleHashOf (n5 w xs)):=by rw[jP]
theorem aH8(i:Int):iR (.int i)=1:=by unfold iR;rfl
theorem aH9(i:Str):iR (.str i)=1:=by unfold iR;rfl
theorem aMK{prog:P9}{w:W9}{E:V9->S9->Prop}(i:Int):nJ prog w E (.int i):=λv a A s Q _ r _ h=>by
 rw[aBY,aH8]at h
 cases r
 exact wpAny_pyHash_int h
theorem aML{prog:P9}{w:W9}{E:V9->S9->Prop}(i:Str):nJ prog w E (.str i):=λv a A s Q _ r _ h=>by
 rw[aBZ,aH9]at h
 cases r
 exact wpAny_pyHash_str h
theorem aMM{prog:P9}{w:W9}{E:V9->S9->Prop}(xs:List Dz)(e:∀ x∈xs,nJ prog w E x):nJ prog w E (.tuple xs):=λv d A s Q i r g h=>by
 rw[aKD,aH7]at h
 cases r with
 | @tuple a o vs n _ d h1 h2 h3 h4=>
  have c:dS xs=true:=i
  have j:A.units+(PyData.depthAll xs+1) < cLine:=g
  refine PySem.W.pyHash_slot (T:="tuple") ⟨o,h1,h2⟩ F.slot_tuple_hash F.entry_tuple_hash (F.args_tuple_hash_1 _) (beq_builtin_none _) (.inr (by omega)) ?_
  show wpAny _ _ (Builtin.Tuple.tupleItemsOf (.ref a) >>= _) _ _ s
  refine AB (wpAny_tupleItemsOf h1 h3 ?_)
  refine AB ?_
  rw[<-Array.forIn_toList]
  refine aSU xs e vs.toList d A.in1 s #[] _ c h4 (by rw[aBX];omega) λb f=>?_
  show wpAny _ _ (retInt (Builtin.Tuple.tupleHashOf b.toList)) _ _ _
  rw[f]
  exact AB (wpAny_mkInt (AM ⟨_,_,rfl,h⟩))
theorem aIA(w:W9):jP w .none=reduceHash 0xFCA86420:=by rw[jP]
theorem aFW:iR .none=1:=by unfold iR;rfl
theorem aMN{prog:P9}{w:W9}{E:V9->S9->Prop}:nJ prog w E .none:=λv a A s Q _ r c h=>by
 rw[aIA,aFW]at h
 generalize b:reduceHash 0xFCA86420=g at h
 cases r
 refine PySem.W.pyHash_slot (T:="NoneType") rfl F.slot_NoneType_hash F.entry_NoneType_hash (F.args_NoneType_hash_1 _) (beq_builtin_none _) (.inr (by omega)) (AB (AM (AB (wpAny_mkInt (AM ⟨0xFCA86420,_,rfl,?_⟩)))))
 grind
theorem aSV{prog:P9}{w:W9}{E:V9->S9->Prop}:∀ (n:Nat) (d:Dz),sizeOf d<=n->nJ prog w E d:=by
 intro n
 induction n with
 | zero=>intro d h;cases d<;>simp at h
 | succ n ih=>
  intro d h
  cases d with
  | none=>exact aMN
  | int i=>exact aMK i
  | str x=>exact aML x
  | tuple xs=>
   refine aMM xs λx e=>ih x ?_
   have:=List.sizeOf_lt_of_mem e
   grind
  | bool b=>exact λv c A s Q a=>nomatch a
  | list xs=>exact λv c A s Q a=>nomatch a
  | dict xs=>exact λv c A s Q a=>nomatch a
theorem aSW{prog:P9}{w:W9}{E:V9->S9->Prop}(d:Dz):nJ prog w E d:=aSV (sizeOf d) d (AQ _)
theorem aPN{M:Model}{A:U9}{E:V9->S9->Prop}{s:S9}:∀ (n:Nat) (d:Dz) (v:V9) (as:List Az) (Q:Bool->S9->Prop),gL d=true->Reads s.heap v d as->d.depth<=n->Q true s->wpAny M A (eqIsQuiet n v) Q E s:=by
 intro n
 induction n with
 | zero=>
  intro d v as Q c r g h
  cases d with
  | none=>cases r;rw[DI _ rfl];exact AM h
  | int i=>cases r;rw[DI _ rfl];exact AM h
  | str x=>cases r;rw[DI _ rfl];exact AM h
  | tuple xs=>
   have f:PyData.depthAll xs+1<=0:=g
   omega
  | bool b=>exact nomatch c
  | list xs=>exact nomatch c
  | dict xs=>exact nomatch c
 | succ n ih=>
  intro d v as Q c r g h
  cases d with
  | none=>cases r;rw[DI _ rfl];exact AM h
  | int i=>cases r;rw[DI _ rfl];exact AM h
  | str x=>cases r;rw[DI _ rfl];exact AM h
  | bool b=>exact nomatch c
  | list xs=>exact nomatch c
  | dict xs=>exact nomatch c
  | tuple xs=>
   cases r with
   | @tuple a o vs m _ as h1 h2 h3 h4=>
    have j:dS xs=true:=c
    have f:PyData.depthAll xs+1<=n+1:=g
    have l:s.TypeIs (.ref a) "tuple":=⟨o,h1,h2⟩
    unfold eqIsQuiet
    refine AB (wpAny_specialOf l F.slot_tuple_eq.lookup ?_)
    show wpAny _ _ (isInstance (.ref a) (.type "tuple") >>= _) _ _ s
    refine AB (wpAny_isInstance l isSubtype_tuple_tuple ?_)
    simp only[Bool.not_true,CA,D6]
    refine AB (CS h1 h3 ?_)
    refine AB ?_
    show wpAny _ _ (forIn vs _ _) _ _ s
    rw[<-Array.forIn_toList]
    refine wpAny_forIn_list _ (λrest r s'=>r.1=none/\s'=s/\∃ ys bs,dS ys=true/\PyData.depthAll ys<=n/\ReadsAll s.heap rest ys bs) _ ?_ ?_ _ _ ⟨rfl,rfl,xs,_,j,by omega,h4⟩
    .rintro v rest r s' ⟨hr,rfl,ys,bs,hy,hdy,ry⟩
     cases ry with
     | @cons _ _ y yt cs ds r1 r2=>
      have e:(gL y && dS yt)=true:=hy
      rw[BE]at e
      have k:max y.depth (PyData.depthAll yt)<=n:=hdy
      refine AB (ih y v _ _ e.1 r1 (by omega) ?_)
      simp only[Bool.not_true,CA,D6]
      exact AM ⟨rfl,rfl,yt,_,e.2,by omega,r2⟩
    .rintro ⟨r1,r2⟩ s' ⟨hr,rfl,_⟩
     simp only at hr
     subst hr
     exact AM h
def aWG(h:H9)(d:Dz)(a:Az):Prop:=gL d=true/\d.depth<=8/\∃ as,Reads h (.ref a) d as
theorem aIB{h h':H9}{a:Az}{o:Obj}{es:Array DictEntry}{ep:Nat}(s:h.get? a=some o)(p:o.data=.dict es ep)(m:Heap.SameBut a h h'){v:V9}{d:Dz}{e:List Az}(c:gL d=true)(r:Reads h v d e):Reads h' v d e:=by
 refine Reads.rec (motive_1:=λv d e _=>gL d=true->Reads h' v d e) (motive_2:=λvs xs e _=>dS xs=true->ReadsAll h' vs xs e) ?_ ?_ ?_ ?_ ?_ ?_ ?_ ?_ ?_ r c
 .exact λ_=>.none
 .intro b c;cases c
 .exact λi t _=>.int i t
 .exact λi t _=>.str i t
 .intro b o' vs n xs e h1 h2 f j l c;cases c
 .intro b o' vs n xs e h1 h2 f j l c
  exact .tuple ((m.2 b (λz=>by subst z;rw[s]at h1;cases h1;rw[p]at f;cases f)).trans h1) h2 f (l c)
 .intro b o' u n q e bs h1 h2 f j w k g c;cases c
 .exact λ_=>.nil
 .intro v vs d ds e bs r1 r2 k g c
  exact .cons (k ((BE ..).mp c).1) (g ((BE ..).mp c).2)
noncomputable def k7(prog:P9)(w:W9):HeapKind prog w Dz where
 is:=aWG
 hash:=jP w
 draws:=iR
 room:=λA=>A.units+9 < cLine
 inj:=λ{h a x y} hx hy=>by
  obtain⟨k1,_,as,r1⟩:=hx
  obtain⟨k2,_,bs,r2⟩:=hy
  exact PySem.SeqAt.Reads.unique x y _ _ _ (qE k1) r1 r2
 keeps:=λ{h h' k a d o es ep} hx ho hd hs=>by
  obtain⟨k1,k2,as,r1⟩:=hx
  exact⟨k1,k2,as,aIB ho hd hs k1 r1⟩
 pyHash:=λ{A E s k a Q} hu hk h=>by
  obtain⟨k1,k2,as,r1⟩:=hk
  exact aSW k _ as A s Q k1 r1 (by omega) h
 eqBool:=λ{A E s x y a b Q} hu hx hy h=>by
  obtain⟨k1,k2,as,r1⟩:=hx
  obtain⟨l1,l2,bs,r2⟩:=hy
  refine PySem.SeqAt.eqAt_reads x y A s _ _ as bs r1 r2 (qE k1) (qE l1) ?_ prog w E Q ?_
  .have:min x.depth y.depth<=8:=BR (Nat.min_le_left _ _) k2
   omega
  .rw[aPM k1 l1];exact h
 quiet:=λ{A E s k a Q} hk h=>by
  obtain⟨k1,k2,as,r1⟩:=hk
  exact aPN 8 k _ as Q k1 r1 k2 h
abbrev Ent:=Dz×V×V
def u0(w:W9)(p:Ent)(en:DictEntry):Prop:=en.hash=jP w p.1/\bO p.2.1 en.key/\bO p.2.2 en.val
def fI(w:W9)(a:Az)(es:List Ent)(ep:Nat):HO:=.ext λh=>(a == sysModules)=false/\∃ o ar,h.get? a=some o/\o.ExactDict/\o.data=.dict ar ep/\Paired (u0 w) es ar.toList
theorem lN{P:P9}{w:W9}{H:Hp}{h:H9}{a:Az}{es:List Ent}{ep:Nat}(d:(a == sysModules)=false)(b:∃ o ar,h.get? a=some o/\o.ExactDict/\o.data=.dict ar ep/\Paired (u0 w) es ar.toList):cR P w H h a (fI w a es ep):=
 ⟨⟨d,b⟩,let ⟨o,_,e,_⟩:=b;⟨o,e⟩,λh1 h2 ⟨q,o,es,e,r⟩ c=>⟨q,o,es,c _ e,r⟩⟩
noncomputable def k8:Dz->Bool
 | .tuple xs=>gL (.tuple xs) && decide ((PyData.tuple xs).depth<=8)
 | _=>false
noncomputable def tP:Dz->Bool
 | .int _=>true
 | .str _=>true
 | _=>false
def eD(k:Dz)(ks:List Dz):Bool:=(k8 k && ks.all k8) || (tP k && ks.all tP)
theorem aPO{d:Dz}(h:k8 d=true):∃ xs,d=.tuple xs/\gL d=true/\d.depth<=8:=by
 cases d with
 | tuple xs=>
  have h':(gL (.tuple xs) && decide ((PyData.tuple xs).depth<=8))=true:=h
  grind
 | _=>cases h
def jQ:Key->Dz
 | .inl i=>.int i
 | .inr x=>.str x
theorem aGF{d:Dz}(h:tP d=true):∃ k,d=jQ k:=by
 cases d with
 | int i=>exact⟨.inl i,rfl⟩
 | str i=>exact⟨.inr i,rfl⟩
 | _=>cases h
theorem aB0{a b:Key}(h:jQ a=jQ b):a=b:=by
 cases a<;>cases b<;>cases h<;>rfl
theorem aGG{K:Frag}{H:Hp}{v:V}{k:Key}(h:DatV K H v (jQ k)):v=kV k:=by
 cases k with
 | inl i=>exact h.int_of
 | inr x=>exact h.str_of
theorem aDT{P:P9}{w:W9}(k:Key):jP w (jQ k)=(eZ P w).hash k:=by
 cases k with
 | inl i=>exact aBY w i
 | inr x=>exact aBZ w x
def aAI:Ent->(Dz×Az×V9)->Prop:=λe x=>e.1=x.1/\e.2.1=.ref x.2.1/\bO e.2.2 x.2.2
def aAJ:Ent->(Key×V9)->Prop:=λe x=>e.1=jQ x.1/\e.2.1=kV x.1/\bO e.2.2 x.2
theorem aKE{P:P9}{w:W9}:∀ {es:List Ent} {ens:List DictEntry},Paired (u0 w) es ens->(∀ e∈es,∃ b,e.2.1=.ref b)->∃ xs,ens=xs.map (entryOfKey (k7 P w))/\Paired aAI es xs
 | _,_,.nil,_=>⟨[],rfl,.nil⟩
 | e::es,en::ens,.cons h t,hb=>by
  obtain⟨xs,h1,h2⟩:=aKE (P:=P) t λe k=>hb e (AL _ k)
  obtain⟨b,a⟩:=hb e AV
  obtain⟨l,j,m⟩:=h
  rw[a]at j
  obtain⟨c,i,g⟩:=en
  have f:i=Value.ref b:=j
  have d:c=jP w e.1:=l
  subst f d
  exact⟨(e.1,b,g)::xs,by rw[A4,h1];rfl,.cons ⟨rfl,a,m⟩ h2⟩
theorem rQ{P:P9}{w:W9}:∀ {es:List Ent} {xs:List (Dz×Az×V9)},Paired aAI es xs->Paired (u0 w) es (xs.map (entryOfKey (k7 P w)))
 | _,_,.nil=>.nil
 | _,_,.cons h t=>.cons ⟨by rw[h.1];rfl,by rw[h.2.1];rfl,h.2.2⟩ (rQ t)
theorem aKF{P:P9}{w:W9}:∀ {es:List Ent} {ens:List DictEntry},Paired (u0 w) es ens->(∀ e∈es,∃ k,e.1=jQ k/\e.2.1=kV k)->∃ xs,Pairs (eZ P w) ens xs/\Paired aAJ es xs/\∀ en∈ens,∃ k,(eZ P w).is k en.key=true/\en.hash=(eZ P w).hash k
 | _,_,.nil,_=>⟨[],.nil,.nil,λ_ h=>by cases h⟩
 | e::es,en::ens,.cons h t,hb=>by
  obtain⟨xs,h1,h2,h3⟩:=aKF (P:=P) t λe g=>hb e (AL _ g)
  obtain⟨k,b,a⟩:=hb e AV
  obtain⟨d,f,j⟩:=h
  have hi:(eZ P w).is k en.key=true:=aOH (by rw[<-a];exact f)
  refine⟨(k,en.val)::xs,.cons hi rfl h1,.cons ⟨b,a,j⟩ h2,λi c=>?_⟩
  rcases A6.mp c with z|z
  · subst z; exact⟨k, hi, by rw [d, b, aDT (P := P)]⟩
  · grind
theorem aPP{P:P9}{w:W9}{k:Key}{v:V9}(h:(eZ P w).is k v=true):bO (kV k) v:=by
 rcases keyIs_shape h with ⟨i,t,rfl,rfl⟩|⟨x,t,rfl,rfl⟩
 · exact⟨t, rfl⟩
 · exact⟨t, rfl⟩
theorem rR{P:P9}{w:W9}:∀ {es:List Ent} {xs:List (Key×V9)} {ens:List DictEntry},Paired aAJ es xs->Pairs (eZ P w) ens xs->(∀ en∈ens,∃ k,(eZ P w).is k en.key=true/\en.hash=(eZ P w).hash k)->Paired (u0 w) es ens
 | _,_,_,.nil,.nil,_=>.nil
 | _,_,_,.cons h t,.cons p1 p2 ps,hk=>by
  obtain⟨k,hk1,hk2⟩:=hk _ AV
  obtain rfl:=(eZ P w).inj _ _ _ hk1 p1
  refine .cons ⟨by rw[hk2,h.1,aDT (P:=P)],by rw[h.2.1];exact aPP hk1,by rw[p2];exact h.2.2⟩ (rR t ps λen a=>hk en (AL _ a))
noncomputable def atE(es:List Ent)(k:Dz):O9 V:=(es.find? λe=>decide (e.1=k)).map (·.2.2)
noncomputable def oN(es:List Ent)(k:Dz)(kv v:V):List Ent:=if (atE es k).isSome then es.map (λe=>if e.1=k then(e.1,e.2.1,v)else e)else es++[(k,kv,v)]
theorem qF{k:Dz}:∀ {es:List Ent} {xs:List (Dz×Az×V9)},Paired aAI es xs->pV (atE es k) ((atKey xs k).map (·.2))
 | _,_,.nil=>trivial
 | e::es,x::xs,.cons h t=>by
  have ih:=qF (k:=k) t
  unfold atE atKey at ih ⊢
  rw[E5,E5,h.1]
  by_cases q:x.1=k
  · rw [AJ q]; exact h.2.2
  · grind
theorem qG{k:Key}:∀ {es:List Ent} {xs:List (Key×V9)},Paired aAJ es xs->pV (atE es (jQ k)) (valueAt xs k)
 | _,_,.nil=>trivial
 | e::es,x::xs,.cons h t=>by
  have ih:=qG (k:=k) t
  unfold atE valueAt at ih ⊢
  rw[E5,E5,h.1]
  by_cases q:x.1=k
  · rw [AJ q, AJ (by rw [q])]; exact h.2.2
  · rw [A1 q, A1 (λz => q (aB0 z))]; exact ih
theorem lO{o:O9 V}{u:O9 V9}(h:pV o u):o.isSome=u.isSome:=by
 cases o<;>cases u<;>first|rfl|exact h.elim
theorem rS{α β:Type}{f:α->β->Prop}{g:α->α}{k:β->β}(hg:∀ a b,f a b->f (g a) (k b)):∀ {xs:List α} {ys:List β},Paired f xs ys->Paired f (xs.map g) (ys.map k)
 | _,_,.nil=>.nil
 | _,_,.cons h t=>.cons (hg _ _ h) (rS hg t)
theorem rT{α β:Type}{f:α->β->Prop}{a:α}{b:β}(h:f a b):∀ {xs:List α} {ys:List β},Paired f xs ys->Paired f (xs++[a]) (ys++[b])
 | _,_,.nil=>.cons h .nil
 | _,_,.cons q t=>.cons q (rT h t)
theorem aIC{k:Dz}{b:Az}{v:V}{u:V9}{es:List Ent}{xs:List (Dz×Az×V9)}(r:bO v u)(h:Paired aAI es xs):Paired aAI (oN es k (.ref b) v) (storedH xs k b u):=by
 have q:=lO (qF (k:=k) h)
 rw[FW]at q
 unfold oN storedH
 rw[q]
 cases(atKey xs k).isSome with
 | true=>
  rw[AD rfl,AD rfl]
  refine rS (λe x a=>?_) h
  unfold putAt
  rw[a.1]
  by_cases z:x.1=k
  · rw [AD z, AD z]; exact⟨rfl, a.2.1, r⟩
  · grind
 | false=>rw[AE (by decide),AE (by decide)];exact rT ⟨rfl,rfl,r⟩ h
theorem aOJ{k:Key}:∀ {xs:List (Key×V9)},xs.any (λkv=>decide (kv.1=k))=(valueAt xs k).isSome
 | []=>rfl
 | x::xs=>by
  have ih:=aOJ (k:=k) (xs:=xs)
  unfold valueAt at ih ⊢
  grind
theorem aID{k:Key}{v:V}{u:V9}{es:List Ent}{xs:List (Key×V9)}(r:bO v u)(h:Paired aAJ es xs):Paired aAJ (oN es (jQ k) (kV k) v) (stored xs k u):=by
 have q:=lO (qG (k:=k) h)
 unfold oN stored
 rw[q,aOJ]
 cases(valueAt xs k).isSome with
 | true=>
  rw[AD rfl,AD rfl]
  refine rS (λe x a=>?_) h
  by_cases z:x.1=k
  · rw [AD z, AD (by rw [a.1, z])]; exact⟨by rw [a.1], a.2.1, r⟩
  · rw [AE z, AE (λy => z (aB0 (a.1.symm.trans y)))]; exact a
 | false=>rw[AE (by decide),AE (by decide)];exact rT ⟨rfl,rfl,r⟩ h
section
variable{X:Cx}{a5:List (Az×Obj)}{σ:L2.St}{H:Hp}{s:S9}{a:Az}{es:List Ent}{k:Dz}{kv v:V}{ku u:V9}{A:U9}{E:V9->S9->Prop}
structure DicAt(X:Cx)(H:Hp)(a:Az)(es:List Ent)(k:Dz)(kv:V):Prop where
 o:∃ ep,H a=some (fI X.w a es ep)
 ks:∀ e∈es,DatV X.K H e.2.1 e.1
 nd:(es.map (·.1)).Nodup
 dk:DatV X.K H kv k
 one:eD k (es.map (·.1))=true
theorem yL{α β:Type}{f:α->β->Prop}{y:β}:∀ {xs:List α} {ys:List β},Paired f xs ys->y∈ys->∃ x,x∈xs/\f x y
 | _,_,.nil,h=>by cases h
 | _,_,.cons q t,h=>by
  rcases A6.mp h with z|z
  .grind
  .obtain ⟨x,h1,h2⟩:=yL t z
   grind
theorem rW{α β γ:Type}{f:α->β->Prop}{g:α->γ}{k:β->γ}(h:∀ a b,f a b->g a=k b):∀ {xs:List α} {ys:List β},Paired f xs ys->xs.map g=ys.map k
 | _,_,.nil=>rfl
 | _,_,.cons q t=>by rw[A4,A4,h _ _ q,rW h t]
theorem DicAt.cases (D : DicAt X H a es k kv) (I : Inv X a5 σ H s) (J : bO kv ku) : (a == sysModules) = false /\
    ((∃ b xs, kv = .ref b /\ ku = .ref b /\ Paired aAI es xs /\ (k7 X.prog X.w).is s.heap k b /\ s.heap.DictOfH (k7 X.prog X.w) a xs) \/
     (∃ kk xs, k = jQ kk /\ kv = kV kk /\ Paired aAJ es xs /\ (eZ X.prog X.w).is kk ku = true /\ s.heap.DictOf (eZ X.prog X.w) a xs)) := by
  obtain⟨A, S⟩ := D.o
  obtain⟨⟨B, o, G, h1, h2, N, L⟩, _, _⟩ := (show cR X.prog X.w H s.heap a (fI X.w a es A)from I.hok a _ S)
  refine⟨B, ?_⟩
  have f := D.one
  unfold eD at f
  rw [EC, BE, BE, CB, CB]at f
  rcases f with ⟨F, y⟩ | ⟨F, y⟩
  · have m : ∀ (d : Dz) (v : V), k8 d = true -> DatV X.K H v d -> ∃ l, v = .ref l /\ (k7 X.prog X.w).is s.heap d l := λd v B M => by
      obtain⟨ws, rfl, O, U⟩ := aPO B
      obtain⟨l, vs, rfl, _, _⟩ := M.tup_of
      obtain⟨W, r⟩ := M.reads I (qE O) (u := .ref l) rfl
      exact⟨l, rfl, O, U, W, r⟩
    obtain⟨b, rfl, C⟩ := m _ _ F D.dk
    cases(show ku = Value.ref b from J)
    obtain⟨xs, j, c⟩ := aKE (P := X.prog) L λe i => by
      obtain⟨l, e1, _⟩ := m e.1 e.2.1 (y _ (FI i)) (D.ks e i)
      grind
    refine .inl ⟨b, xs, rfl, rfl, c, C, o, G, A, h1, h2, N, j, λx T => ?_, ?_⟩
    · obtain⟨e, i, p⟩ := yL c T
      obtain⟨l, e1, q⟩ := m e.1 e.2.1 (y _ (FI i)) (D.ks e i)
      rw [p.2.1]at e1
      cases e1
      rw [<- p.1]; exact q
    · rw [<- rW (g := λe : Ent => e.1) (λa b h => h.1) c]; exact D.nd
  · obtain⟨kk, rfl⟩ := aGF F
    have n := aGG D.dk
    obtain⟨xs, j, c, E⟩ := aKF (P := X.prog) L λe i => by
      obtain⟨Q, t⟩ := aGF (y _ (FI i))
      have q := D.ks e i
      rw [t]at q
      exact⟨Q, t, aGG q⟩
    refine .inr ⟨kk, xs, rfl, n, c, aOH (by rw [<- n]; exact J), o, G, A, h1, h2, N, λR z => E R (by simpa using z), j, ?_⟩
    have : es.map (·.1) = (xs.map (·.1)).map jQ := by rw [AZ]; exact rW (g := λe : Ent => e.1) (λa b h => h.1) c
    have nd := D.nd
    grind
theorem nK{A:U9}(a:A.units+64 < cLine):(k7 X.prog X.w).room A.in1:=by show A.in1.units+9 < cLine;rw[aBX];omega
theorem aSX{Q:V9->S9->Prop}(f:A.units+64 < cLine)(D:DicAt X H a es k kv)(I:Inv X a5 σ H s)(i:bO kv ku)(h:∀ s',Inv X a5 σ H s'->Q (.bool (atE es k).isSome) s'):wpAny (model X.prog X.w) A (compareOp .In ku (.ref a)) Q E s:=by
 obtain⟨e,⟨b,xs,rfl,rfl,d,c,dd⟩|⟨g,xs,rfl,rfl,d,c,dd⟩⟩:=D.cases I i
 .refine wpAny_in_heap (nK f) c e dd ?_
  have q:=lO (qF (k:=k) d)
  rw[FW]at q
  rw[<-q];exact h _ (I.tok _)
 .refine wpAny_in_of c e dd.mapOf ?_
  rw[<-lO (qG (k:=g) d)];exact h _ (I.tok _)
theorem aPQ{Q:V9->S9->Prop}(f:A.units+64 < cLine)(D:DicAt X H a es k kv)(I:Inv X a5 σ H s)(i:bO kv ku)(h:∀ s',Inv X a5 σ H s'->Q (.bool (!(atE es k).isSome)) s'):wpAny (model X.prog X.w) A (compareOp .NotIn ku (.ref a)) Q E s:=by
 obtain⟨e,⟨b,xs,rfl,rfl,d,c,dd⟩|⟨g,xs,rfl,rfl,d,c,dd⟩⟩:=D.cases I i
 .refine wpAny_notIn_heap (nK f) c e dd ?_
  have q:=lO (qF (k:=k) d)
  rw[FW]at q
  rw[<-q];exact h _ (I.tok _)
 .refine wpAny_notIn_of c e dd.mapOf ?_
  rw[<-lO (qG (k:=g) d)];exact h _ (I.tok _)
theorem aPR{Q:V9->S9->Prop}(j:A.units+64 < cLine)(D:DicAt X H a es k kv)(I:Inv X a5 σ H s)(n:bO kv ku)(i:atE es k=some v)(h:∀ w' s',Inv X a5 σ H s'->bO v w'->Q w' s'):wpAny (model X.prog X.w) A (getItem (.ref a) ku) Q E s:=by
 obtain⟨o,⟨b,xs,rfl,rfl,g,f,dd⟩|⟨m,xs,rfl,rfl,g,f,dd⟩⟩:=D.cases I n
 .have q:=qF (k:=k) g
  rw[i]at q
  obtain⟨w',e,c⟩:=pV.some_of q
  obtain⟨p,l,d⟩:=Option.map_eq_some_iff.mp e
  refine wpAny_getItem_heap (nK j) f dd l ?_
  rw[d];exact h w' _ (I.tok _) c
 .have q:=qG (k:=m) g
  rw[i]at q
  obtain⟨w',e,c⟩:=pV.some_of q
  exact wpAny_getItem_of f dd.mapOf e (h w' _ (I.tok _) c)
theorem aPS{Q:Unit->S9->Prop}(B:A.units+64 < cLine)(D:DicAt X H a es k kv)(I:Inv X a5 σ H s)(C:bO kv ku)(t:bO v u)(hz:es.length<=sizeLine)(h:∀ ep s',Inv X a5 σ (upd H a (fI X.w a (oN es k kv v) ep)) s'->Q () s') :
  wpAny (model X.prog X.w) A (setItem (.ref a) ku u) Q E s:=by
 obtain⟨x,⟨b,xs,rfl,rfl,d,q,dd⟩|⟨F,xs,rfl,rfl,d,q,dd⟩⟩:=D.cases I C
 .have p:xs.length<=sizeLine:=by rw[<-Paired.length d];exact hz
  refine wpAny_setItem_heap (hsz:=p) (nK B) q dd λh' c j=>?_
  obtain⟨e,i,ep,f,h2,r,l,_,y⟩:=c
  obtain⟨m,g⟩:=D.o
  refine h ep _ (n4 I (by rw[g];exact True.intro) j ⟨e,f⟩ (lN x ⟨e,i,f,h2,r,?_⟩))
  rw[l]
  exact rQ (aIC t d)
 .have p:xs.length<=sizeLine:=by rw[<-Paired.length d];exact hz
  refine wpAny_setItem_pairs (hsz:=p) q dd λh' c j=>?_
  obtain⟨e,i,ep,f,h2,r,l,y,_⟩:=c
  obtain⟨m,g⟩:=D.o
  refine h ep _ (n4 I (by rw[g];exact True.intro) j ⟨e,f⟩ (lN x ⟨e,i,f,h2,r,?_⟩))
  exact rR (aID t d) y λz n=>l z (by simpa using n)
end
structure Er where
 c:Str
 fs:List (Str×Dz)
inductive R(α:Type) where
 | bad|ok (a:α)|ex (e:Er)
noncomputable def R.bind{α β:Type}:R α->(α->R β)->R β
 | .bad,_=>.bad
 | .ok a,f=>f a
 | .ex e,_=>.ex e
@[simp] theorem R.bind_ok{α β:Type}(a:α)(f:α->R β):(R.ok a).bind f=f a:=id rfl
@[simp] theorem R.bind_bad{α β:Type}(f:α->R β):(R.bad:R α).bind f=.bad:=id rfl
@[simp] theorem R.bind_ex{α β:Type}(e:Er)(f:α->R β):(R.ex e:R α).bind f=.ex e:=id rfl
inductive A where
 | d (x:Dz)|l (xs:List Dz)|m (a6:List (Dz×Dz))|x (e:Er)|g (k n:Nat) (f:List Dz->R Dz)|k (q:Str)|f (a6:List (Dz×Dz))|o (e:Er)
abbrev Sg:=List (O9 A)
structure Gb where
 B:Az->Hp->Nat->Nat->(List Dz->R Dz)->Prop
 T:Hp
 w:World
structure Ct where
 K:Frag
 mg:Str->Option V9
 w:World
 F0:Hp
 H0:Hp
 g:Gb
 cells:List (Str×Az)
 cls:Str->Option ClSt
theorem aDU{w:W9}{p:Az}{es:List Ent}{ep:Nat}{q:Str}(h:fI w p es ep=.cod q):False:=by unfold fI at h;cases h
theorem cG(H:Hp):aT H H:=λ_ _ h=>h
theorem cH{H H':Hp}(s:aT H H'){a:Az}(h:H' a=none):H a=none:=by
 cases e:H a with
 | none=>rfl
 | some o=>rw[s a o e]at h;cases h
def pC(H:Hp)(a:Az):Prop:=H a=none\/∃ q,H a=some (.cod q)
theorem pC.back{H H1:Hp}{a:Az}(s:aT H H1)(h:pC H1 a):pC H a:=by
 cases e:H a with
 | none=>exact .inl e
 | some o=>
  have e1:=s a o e
  rcases h with z|⟨q,z⟩
  · grind
  · rw [e1]at z; cases z; exact .inr ⟨q, e⟩
structure Ext(F H F' H':Hp):Prop where
 hh:aT H H'
 ff:aT F F'
 fh:aT F' H'
 nw:∀ a,F a=none->F' a≠none->pC H a
theorem Ext.refl{F H:Hp}(h:aT F H):Ext F H F H:=⟨cG H,cG F,h,λa e n=>absurd e n⟩
theorem Ext.trans{F H c H1 d H2:Hp}(a:Ext F H c H1)(b:Ext c H1 d H2):Ext F H d H2:=
 ⟨λx o e=>b.hh x o (a.hh x o e),λx o e=>b.ff x o (a.ff x o e),b.fh,λx e n=>by
  cases q:c x with
  | none=>exact(b.nw x q n).back a.hh
  | some o=>exact a.nw x e (by rw[q];exact λz=>nomatch z)⟩
theorem Ext.stay{F H a H':Hp}(s:Ext F H a H'){p:Az}{o:HO}(c:F p=none)(h2:H p=some o)(b:∀ q,o≠.cod q):a p=none:=by
 cases q:a p with
 | none=>rfl
 | some o=>
  rcases s.nw p c (by rw[q];exact λz=>nomatch z)with z|⟨d,z⟩
  · grind
  · grind
theorem aMO{F H:Hp}{p:Az}{o:HO}(s:aT F H):aT (upd F p o) (upd H p o):=λa u e=>by
 by_cases q:a=p
 · subst q; rw [bL]at e ⊢; exact e
 · rw [aW q]at e ⊢; exact s a u e
theorem Ext.new{F H:Hp}{p:Az}{o:HO}(s:aT F H)(b:H p=none):Ext F H (upd F p o) (upd H p o):=
 ⟨aT.upd b,aT.upd (cH s b),aMO s,λa e n=>by
  by_cases q:a=p
  · subst q; exact .inl b
  · rw [aW q]at n; exact absurd e n⟩
theorem Ext.own{F H:Hp}{p:Az}{o:HO}(s:aT F H)(b:H p=none):Ext F H F (upd H p o):=
 ⟨aT.upd b,cG F,λa u e=>by
  rw[aW (bQ (s a u e) b)];exact s a u e,λa e n=>absurd e n⟩
def lX(K:Frag)(mg:Str->O9 V9)(F:Hp)(e:Er)(a C:Az):Prop:=mg e.c=some (.ref C)/\∃ od,F a=some (ExO a C od)/\((e.fs=[]/\od=none)\/∃ d fvs,od=some d/\F d=some (.xd fvs)/\fvs.map (·.1)=e.fs.map (·.1)/\DatVs K F (fvs.map (·.2)) (e.fs.map (·.2)))
theorem lX.same{K:Frag}{mg:Str->O9 V9}{F b:Hp}{e:Er}{a C:Az}(s:aT F b)(h:lX K mg F e a C):lX K mg b e a C:=by
 obtain⟨m,od,h1,h2⟩:=h
 refine⟨m,od,s _ _ h1,h2.imp id ?_⟩
 rintro ⟨d,fvs,e1,e2,e3,e4⟩
 exact⟨d,fvs,e1,s _ _ e2,e3,e4.same s⟩
def aIE(K:Frag)(mg:Str->O9 V9)(F:Hp)(e:Er)(a:Az):Prop:=∃ C dx fvs,mg e.c=some (.ref C)/\F a=some (.ins C dx fvs)/\fvs.map (·.1)=e.fs.map (·.1)/\DatVs K F (fvs.map (·.2)) (e.fs.map (·.2))
theorem aIE.same{K:Frag}{mg:Str->O9 V9}{F c:Hp}{e:Er}{a:Az}(s:aT F c)(h:aIE K mg F e a):aIE K mg c e a:=by
 obtain⟨C,dx,b,h1,h2,d,f⟩:=h
 exact⟨C,dx,b,h1,s _ _ h2,d,f.same s⟩
structure MapRel(K:Frag)(F:Hp)(es:List Ent)(a6:List (Dz×Dz)):Prop where
 k1:es.map (·.1)=a6.map (·.1)
 k2:DatVs K F (es.map (·.2.1)) (a6.map (·.1))
 vs:DatVs K F (es.map (·.2.2)) (a6.map (·.2))
 nd:(a6.map (·.1)).Nodup
theorem MapRel.same{K:Frag}{F b:Hp}{es:List Ent}{a:List (Dz×Dz)}(s:aT F b)(h:MapRel K F es a):MapRel K b es a:=⟨h.k1,h.k2.same s,h.vs.same s,h.nd⟩
def AF(g:Gb)(K:Frag)(mg:Str->O9 V9)(F:Hp):A->V->Prop
 | .d x,v=>DatV K F v x
 | .x e,v=>∃ a C,v=.ref a/\lX K mg F e a C
 | .g k n G,v=>∃ f F1,v=.ref f/\aT F1 F/\g.B f F1 k n G
 | .f a6,v=>∃ p es,v=.ref p/\(∃ ep,F p=some (fI g.w p es ep))/\MapRel K F es a6
 | .o e,v=>∃ a,v=.ref a/\aIE K mg F e a
 | _,_=>False
theorem AF.same{g:Gb}{K:Frag}{mg:Str->O9 V9}{F F':Hp}(s:aT F F'):∀ {a:A} {v:V},AF g K mg F a v->AF g K mg F' a v
 | .d x,v,h=>DatV.same s h
 | .x e,v,⟨a,C,h1,h2⟩=>⟨a,C,h1,h2.same s⟩
 | .g k n G,v,⟨f,F1,h1,h2,h3⟩=>⟨f,F1,h1,λa o z=>s a o (h2 a o z),h3⟩
 | .f a6,v,⟨p,es,h1,⟨ep,h2⟩,h3⟩=>⟨p,es,h1,⟨ep,s _ _ h2⟩,h3.same s⟩
 | .o e,v,⟨a,h1,h2⟩=>⟨a,h1,h2.same s⟩
noncomputable def A.own:A->Bool
 | .l _=>true
 | .m _=>true
 | _=>false
def AO(c:Ct)(F H:Hp):A->V->Prop
 | .l xs,v=>∃ p vs,v=.ref p/\H p=some (.lst vs)/\F p=none/\c.H0 p=none/\DatVs c.K F vs xs
 | .m a6,v=>∃ p es,v=.ref p/\(∃ ep,H p=some (fI c.w p es ep))/\F p=none/\c.H0 p=none/\MapRel c.K F es a6
 | .k q,v=>∃ S f cl doc pm cc ct,c.cls q=some S/\v=.ref f/\F f=some (FnO f (S.obj cl doc pm cc ct))/\F cc=some (.cod S.qual)/\ClOf c.cells S.scope cl
 | a,v=>AF c.g c.K c.mg F a v
theorem AO.ext{c:Ct}{F H b H':Hp}(s:Ext F H b H'):∀ {a:A} {v:V},AO c F H a v->AO c b H' a v
 | .d x,v,h=>DatV.same s.ff h
 | .x e,v,h=>AF.same (g:=c.g) (K:=c.K) (mg:=c.mg) (a:=.x e) s.ff h
 | .g k n G,v,h=>AF.same (g:=c.g) (K:=c.K) (mg:=c.mg) (a:=.g k n G) s.ff h
 | .f a6,v,h=>AF.same (g:=c.g) (K:=c.K) (mg:=c.mg) (a:=.f a6) s.ff h
 | .o e,v,h=>AF.same (g:=c.g) (K:=c.K) (mg:=c.mg) (a:=.o e) s.ff h
 | .k q,v,⟨S,f,cl,doc,pm,cc,ct,h0,h1,h2,h3,h4⟩=>⟨S,f,cl,doc,pm,cc,ct,h0,h1,s.ff _ _ h2,s.ff _ _ h3,h4⟩
 | .l xs,v,⟨p,vs,h1,h2,h3,h4,h5⟩=>⟨p,vs,h1,s.hh _ _ h2,s.stay h3 h2 (λ_ z=>nomatch z),h4,h5.same s.ff⟩
 | .m a6,v,⟨p,vs,h1,⟨ep,h2⟩,h3,h4,h5⟩=>⟨p,vs,h1,⟨ep,s.hh _ _ h2⟩,s.stay h3 h2 (λ_ z=>aDU z),h4,h5.same s.ff⟩
theorem AO.at{c:Ct}{F H:Hp}{a:A}{v:V}(h:AO c F H a v)(o:a.own=true):∃ p o,v=.ref p/\H p=some o/\F p=none/\c.H0 p=none:=by
 cases a with
 | l xs=>obtain⟨p,vs,h1,h2,b,i,j⟩:=h;exact⟨p,_,h1,h2,b,i⟩
 | m xs=>obtain⟨p,vs,h1,⟨q,h2⟩,b,i,j⟩:=h;exact⟨p,_,h1,h2,b,i⟩
 | d x=>cases o
 | x e=>cases o
 | g k n f=>cases o
 | k S=>cases o
 | f S=>cases o
 | o S=>cases o
theorem AO.off{c:Ct}{F H:Hp}{p:Az}{o:HO}:∀ {a:A} {v:V},AO c F H a v->v≠.ref p->AO c F (upd H p o) a v
 | .l xs,v,⟨q,vs,h1,h2,h3,h4,h5⟩,n=>⟨q,vs,h1,by rw[aW (λz=>n (by rw[h1,z]))];exact h2,h3,h4,h5⟩
 | .m xs,v,⟨q,vs,h1,⟨ep,h2⟩,h3,h4,h5⟩,n=>⟨q,vs,h1,⟨ep,by rw[aW (λz=>n (by rw[h1,z]))];exact h2⟩,h3,h4,h5⟩
 | .d x,v,h,_=>h
 | .x e,v,h,_=>h
 | .g k n G,v,h,_=>h
 | .k S,v,h,_=>h
 | .f S,v,h,_=>h
 | .o S,v,h,_=>h
structure Ab(c:Ct)(ρ:Sg)(σ:L2.St)(F H:Hp):Prop where
 len:ρ.length=σ.length
 fh:aT F H
 slot:∀ (i:Nat) (a:A),ρ[i]? = some (some a)->∃ v,σ[i]? = some (some v)/\AO c F H a v
 apart:∀ (i j:Nat) (a b:A),i≠j->ρ[i]? = some (some a)->ρ[j]? = some (some b)->a.own=true->b.own=true->σ[i]? ≠ σ[j]?
 f0:aT c.F0 F
 h0:aT c.H0 H
 n0:∀ a,c.F0 a=none->F a≠none->pC c.H0 a
 t0:aT c.g.T c.F0
theorem Ab.all{c:Ct}{ρ:Sg}{σ:L2.St}{F H:Hp}(b:Ab c ρ σ F H):Ext c.F0 c.H0 F H:=⟨b.h0,b.f0,b.fh,b.n0⟩
theorem Ab.ext{c:Ct}{ρ:Sg}{σ:L2.St}{F H d H':Hp}(b:Ab c ρ σ F H)(e:Ext F H d H'):Ab c ρ σ d H' where
 len:=b.len
 fh:=e.fh
 slot:=λi a h=>let ⟨v,h1,h2⟩:=b.slot i a h;⟨v,h1,h2.ext e⟩
 apart:=b.apart
 f0:=λx o h=>e.ff x o (b.f0 x o h)
 h0:=λx o h=>e.hh x o (b.h0 x o h)
 n0:=λa h n=>by
  cases q:F a with
  | none=>exact(e.nw a q n).back b.h0
  | some o=>exact b.n0 a h (by rw[q];exact λz=>nomatch z)
 t0:=b.t0
def XW(c:Ct)(E:XK)(e:Er):Prop:=∀ a C F' H',Ext c.F0 c.H0 F' H'->lX c.K c.mg F' e a C->E (.ref C) (some a) H'
def Rk{α:Type}(c:Ct)(E:XK)(F H:Hp)(r:R α)(k:α->Prop):Prop:=match r with
 | .bad=>False
 | .ok a=>k a
 | .ex e=>XW c E e
abbrev VR(α:Type):=α->V->Hp->Hp->Hp->Prop
def tV{α:Type}(Rel:VR α)(c:Ct)(E:XK)(f:Sg->R α):TE:=λσ H Q=>∃ ρ F,Ab c ρ σ F H/\Rk c E F H (f ρ) λd=>∀ v F' H',Ext F H F' H'->Rel d v H F' H'->Q v H'
def eH(c:Ct):VR Dz:=λd v _ F _=>DatV c.K F v d
def bJ(K:Frag)(F H:Hp)(v:V)(d:Dz):Prop:=DatV K F v d\/∃ p vs xs,v=.ref p/\d=.list xs/\H p=some (.lst vs)/\DatVs K F vs xs
def cF(c:Ct):VR Dz:=λd v _ F H=>bJ c.K F H v d
def aMP(c:Ct):VR A:=λa v _ F _=>AF c.g c.K c.mg F a v
def aAK(c:Ct):VR (List Dz):=λxs v H F H'=>∃ p vs,v=.ref p/\H p=none/\H' p=some (.lst vs)/\F p=none/\DatVs c.K F vs xs
abbrev PD(X:Cx)(c:Ct)(E:XK)(e:E1)(f:Sg->R Dz):Prop:=PE X e (tV (eH c) c E f)
abbrev PR(X:Cx)(c:Ct)(E:XK)(e:E1)(f:Sg->R Dz):Prop:=PE X e (tV (cF c) c E f)
abbrev PV(X:Cx)(c:Ct)(E:XK)(e:E1)(f:Sg->R A):Prop:=PE X e (tV (aMP c) c E f)
abbrev PN(X:Cx)(c:Ct)(E:XK)(e:E1)(f:Sg->R (List Dz)):Prop:=PE X e (tV (aAK c) c E f)
theorem PE.imp{X:Cx}{e:E1}{t t':TE}(h:PE X e t)(i:∀ σ H Q,t' σ H Q->t σ H Q):PE X e t':=λa5 s σ H Q I q=>h a5 s σ H Q I (i σ H Q q)
theorem PT.imp{X:Cx}{e:E1}{t t':TT}(h:PT X e t)(i:∀ σ H Q,t' σ H Q->t σ H Q):PT X e t':=λa5 s σ H Q I q=>h a5 s σ H Q I (i σ H Q q)
theorem PS.imp{X:Cx}{e:Stmt}{t t':TS}(h:PS X e t)(i:∀ D σ H,t' D σ H->t D σ H):PS X e t':=λa5 s σ H D I q=>h a5 s σ H D I (i D σ H q)
theorem PSs.imp{X:Cx}{e:List Stmt}{t t':TS}(h:PSs X e t)(i:∀ D σ H,t' D σ H->t D σ H):PSs X e t':=λa5 s σ H D I q=>h a5 s σ H D I (i D σ H q)
def aOK{α:Type}(Rel:VR α):Prop:=∀ d v H F H1 F2 H2,Ext F H1 F2 H2->Rel d v H F H1->Rel d v H F2 H2
theorem bJ.ext{K:Frag}{F H a H':Hp}{v:V}{d:Dz}(e:Ext F H a H')(h:bJ K F H v d):bJ K a H' v d:=by
 rcases h with h|⟨p,vs,xs,h1,h2,b,c⟩
 · exact .inl (h.same e.ff)
 · exact .inr ⟨p, vs, xs, h1, h2, e.hh _ _ b, c.same e.ff⟩
theorem tQ(c:Ct):aOK (cF c):=λd v H F H1 a H2 e h=>bJ.ext e h
theorem bJ.heap{K:Frag}{F H:Hp}{v:V}{d:Dz}(s:aT F H)(h:bJ K F H v d):DatV K H v d:=by
 rcases h with h|⟨p,vs,xs,h1,h2,a,b⟩
 · exact h.same s
 · subst h1 h2; exact .lst (SqL.of a) (b.same s)
section
variable{X:Cx}{c:Ct}{E:XK}{α β γ:Type}{Ra:VR α}{Rb:VR β}{Rc:VR γ}{σ:L2.St}{H:Hp}{Q:VK}
theorem Rk.ok{F:Hp}{a:α}{k:α->Prop}(h:Rk c E F H (.ok a) k):k a:=h
theorem Rk.imp{F:Hp}{r:R α}{k b:α->Prop}(h:Rk c E F H r k)(i:∀ a,r=.ok a->k a->b a):Rk c E F H r b:=by
 cases r with
 | bad=>exact h
 | ok a=>exact i a rfl h
 | ex e=>exact h
theorem Rk.bind{F:Hp}{r:R α}{f:α->R β}{k:β->Prop}(h:Rk c E F H (r.bind f) k):Rk c E F H r λa=>Rk c E F H (f a) k:=by
 cases r with
 | bad=>exact h
 | ok a=>exact h
 | ex e=>exact h
theorem Rk.ext{F b H':Hp}{r:R α}{k:α->Prop}(e:Ext F H b H')(h:Rk c E F H r k):Rk c E b H' r k:=by
 cases r with
 | bad=>exact h
 | ok a=>exact h
 | ex x=>exact h
end
def aIF{α:Type}(Rel:VR α):Prop:=∀ d v H H1 F' H',aT H H1->Rel d v H1 F' H'->Rel d v H F' H'
theorem pD(c:Ct):aIF (eH c):=λ_ _ _ _ _ _ _ h=>h
theorem aVD(c:Ct):aIF (aAK c):=λ_ _ _ _ _ _ s h=>by
 obtain⟨p,vs,h1,h2,a⟩:=h
 exact⟨p,vs,h1,cH s h2,a⟩
section
variable{X:Cx}{c:Ct}{E:XK}{α β γ:Type}{Ra:VR α}{Rb:VR β}{Rc:VR γ}
def Op1(c:Ct)(Ra:VR α)(Rb:VR β)(g:α->R β)(r:V->Hp->VK->Prop):Prop:=
 ∀ (H0 F H:Hp) (a:α) (b:β) (v:V) (Q:VK),aT F H->Ra a v H0 F H->g a=.ok b->(∀ w F' H',Ext F H F' H'->Rb b w H F' H'->Q w H')->r v H Q
def Op2(c:Ct)(Ra:VR α)(Rb:VR β)(Rc:VR γ)(g:α->β->R γ)(r:R2):Prop:=
 ∀ (H0 H1 F H:Hp) (a:α) (b:β) (d:γ) (v u:V) (Q:VK),aT F H->Ra a v H0 F H->Rb b u H1 F H->g a b=.ok d->(∀ w F' H',Ext F H F' H'->Rc d w H F' H'->Q w H')->r v u H Q
def qH(g:α->R β):Prop:=∀ a e,g a≠.ex e
def fS(g:α->β->R γ):Prop:=∀ a b e,g a b≠.ex e
theorem tV1{f:Sg->R α}{g:α->R β}{r:V->Hp->VK->Prop}(l:Op1 c Ra Rb g r)(o:qH g)(j:aIF Rb){σ:L2.St}{H:Hp}{Q:VK}(h:tV Rb c E (λρ=>(f ρ).bind g) σ H Q) :
  tV Ra c E f σ H λv H1=>r v H1 Q:=by
 obtain⟨ρ,F,ab,h⟩:=h
 refine⟨ρ,F,ab,(Rk.bind h).imp λa p q v k H1 e1 n=>?_⟩
 cases d:g a with
 | bad=>rw[d]at q;exact q.elim
 | ex e=>exact absurd d (o a e)
 | ok b=>
  rw[d]at q
  exact l H k H1 a b v Q e1.fh n d λw m H' e2 i=>q w m H' (e1.trans e2) (j _ _ _ _ _ _ e1.hh i)
theorem tV2{f:Sg->R α}{k:Sg->R β}{g:α->β->R γ}{r:R2}(C:Op2 c Ra Rb Rc g r)(A:fS g)(n:aOK Ra)(B:aIF Rc){σ:L2.St}{H:Hp}{Q:VK}(h:tV Rc c E (λρ=>(f ρ).bind λa=>(k ρ).bind λb=>g a b) σ H Q) :
  tOp r (tV Ra c E f) (tV Rb c E k) σ H Q:=by
 obtain⟨ρ,F,ab,h⟩:=h
 refine⟨ρ,F,ab,(Rk.bind h).imp λa D q v l H1 e1 t=>?_⟩
 refine⟨ρ,l,ab.ext e1,((Rk.bind q).ext e1).imp λb G q u m H2 e2 y=>?_⟩
 cases i:g a b with
 | bad=>rw[i]at q;exact q.elim
 | ex e=>exact absurd i (A a b e)
 | ok d=>
  rw[i]at q
  exact C H H1 m H2 a b d v u Q e2.fh (n _ _ _ _ _ _ _ e2 t) y i λw p H' s j=>q w p H' ((e1.trans e2).trans s) (B _ _ _ _ _ _ (λx o z=>e2.hh x o (e1.hh x o z)) j)
end
section
variable{K:Frag}{F H:Hp}{v:V}
theorem DatV.bl_of{b:Bool}(h:DatV K H v (.bool b)):v=.bl b:=by cases h;rfl
theorem DatV.non_of(h:DatV K H v .none):v=.non:=by cases h;rfl
theorem bJ.int_of{i:Int}(h:bJ K F H v (.int i)):v=.int i:=by
 rcases h with h|⟨_,_,_,_,h,_⟩
 · exact h.int_of
 · cases h
theorem bJ.str_of{i:Str}(h:bJ K F H v (.str i)):v=.str i:=by
 rcases h with h|⟨_,_,_,_,h,_⟩
 · exact h.str_of
 · cases h
theorem bJ.bl_of{i:Bool}(h:bJ K F H v (.bool i)):v=.bl i:=by
 rcases h with h|⟨_,_,_,_,h,_⟩
 · exact DatV.bl_of h
 · cases h
theorem bJ.non_of(h:bJ K F H v .none):v=.non:=by
 rcases h with h|⟨_,_,_,_,h,_⟩
 · exact DatV.non_of h
 · cases h
theorem bJ.tup_of{xs:List Dz}(s:aT F H)(h:bJ K F H v (.tuple xs)):∃ a vs,v=.ref a/\SqT K F a vs/\SqT K H a vs/\DatVs K F vs xs:=by
 rcases h with h|⟨_,_,_,_,h,_⟩
 .obtain ⟨a,vs,h1,h2,b⟩:=h.tup_of
  exact⟨a,vs,h1,h2,h2.same s,b⟩
 .cases h
theorem bJ.lst_of{xs:List Dz}(s:aT F H)(h:bJ K F H v (.list xs)):∃ a vs,v=.ref a/\SqL K H a vs/\DatVs K F vs xs:=by
 rcases h with h|⟨p,vs,ys,h1,h2,b,c⟩
 .obtain ⟨a,vs,h1,h2,b⟩:=h.lst_of
  exact⟨a,vs,h1,h2.same s,b⟩
 .cases h2
  exact⟨p,vs,h1,SqL.of b,c⟩
theorem aDV{vs:List V}{xs:List Dz}{i:Int}{d:Dz}(h:DatVs K F vs xs)(e:atI xs i=some d):∃ x,atI vs i=some x/\DatV K F x d:=by
 unfold atI at e ⊢
 rw[h.length]
 cases q:ixN xs.length i with
 | none=>rw[q]at e;cases e
 | some j=>
  rw[q]at e
  exact h.get' (i:=j) e
end
noncomputable def eV(i:Nat):Sg->R Dz:=λρ=>match ρ[i]? with
 | some (some (.d x))=>.ok x
 | _=>.bad
noncomputable def rV(i:Nat):Sg->R Dz:=λρ=>match ρ[i]? with
 | some (some (.d x))=>.ok x
 | some (some (.l xs))=>.ok (.list xs)
 | _=>.bad
noncomputable def vV(i:Nat):Sg->R A:=λρ=>match ρ[i]? with
 | some (some (.d x))=>.ok (.d x)
 | some (some (.x e))=>.ok (.x e)
 | some (some (.g k n f))=>.ok (.g k n f)
 | some (some (.f a6))=>.ok (.f a6)
 | _=>.bad
def eC(d:Dz):Sg->R Dz:=λ_=>.ok d
section
variable{X:Cx}{c:Ct}{E:XK}{e a b:E1}
theorem bR{i:Nat}(h:PE X e (kK i)):PD X c E e (eV i):=PE.imp h λσ H Q ⟨ρ,F,ab,k⟩=>by
 unfold eV at k
 split at k
 .rename_i x a
  obtain⟨v,h1,h2⟩:=ab.slot i _ a
  exact⟨v,h1,k v F H (Ext.refl ab.fh) h2⟩
 .exact k.elim
theorem aE{i:Nat}(h:PE X e (kK i)):PR X c E e (rV i):=PE.imp h λσ H Q ⟨ρ,F,ab,k⟩=>by
 unfold rV at k
 split at k
 .rename_i x a
  obtain⟨v,h1,h2⟩:=ab.slot i _ a
  exact⟨v,h1,k v F H (Ext.refl ab.fh) (.inl h2)⟩
 .rename_i x a
  obtain⟨v,h1,p,vs,h2,d,g,f,b⟩:=ab.slot i _ a
  exact⟨v,h1,k v F H (Ext.refl ab.fh) (.inr ⟨p,vs,x,h2,rfl,d,b⟩)⟩
 .exact k.elim
theorem aR{i:Nat}(h:PE X e (kK i)):PV X c E e (vV i):=PE.imp h λσ H Q ⟨ρ,F,ab,k⟩=>by
 unfold vV at k
 split at k
 .rename_i x a
  obtain⟨v,h1,h2⟩:=ab.slot i _ a
  exact⟨v,h1,k v F H (Ext.refl ab.fh) h2⟩
 .rename_i x a
  obtain⟨v,h1,h2⟩:=ab.slot i _ a
  exact⟨v,h1,k v F H (Ext.refl ab.fh) h2⟩
 .rename_i f d g a
  obtain⟨v,h1,h2⟩:=ab.slot i _ a
  exact⟨v,h1,k v F H (Ext.refl ab.fh) h2⟩
 .rename_i b a
  obtain⟨v,h1,h2⟩:=ab.slot i _ a
  exact⟨v,h1,k v F H (Ext.refl ab.fh) h2⟩
 .exact k.elim
theorem gQ{v:V}{d:Dz}(h:PE X e (tC v))(a:∀ F,DatV c.K F v d):PD X c E e (eC d):=PE.imp h λσ H Q ⟨ρ,F,ab,k⟩=>k v F H (Ext.refl ab.fh) (a F)
theorem aG{i j pos}:PD X c E (.Constant (.int i) j pos) (eC (.int i)):=gQ aR1 λ_=>.int i
theorem kX{i j pos}:PD X c E (.Constant (.bool i) j pos) (eC (.bool i)):=gQ aU3 λ_=>.bl i
theorem b8{i j pos}:PD X c E (.Constant (.str i) j pos) (eC (.str i)):=gQ aC4 λ_=>.str i
theorem aB{f:Sg->R Dz}(h:PD X c E e f):PR X c E e f:=PE.imp h λσ H Q ⟨ρ,F,ab,k⟩=>⟨ρ,F,ab,k.imp λd _ q v a H' s r=>q v a H' s (.inl r)⟩
def vD(f:Sg->R Dz):Sg->R A:=λρ=>(f ρ).bind λx=>.ok (.d x)
theorem aM{f:Sg->R Dz}(h:PD X c E e f):PV X c E e (vD f):=PE.imp h λσ H Q ⟨ρ,F,ab,k⟩=>⟨ρ,F,ab,(Rk.bind k).imp λd _ q v a H' s r=>Rk.ok q v a H' s r⟩
def getD:A->R Dz
 | .d x=>.ok x
 | _=>.bad
def eA(f:Sg->R A):Sg->R Dz:=λρ=>(f ρ).bind getD
theorem cM{f:Sg->R A}(h:PV X c E e f):PD X c E e (eA f):=PE.imp h λσ H Q ⟨ρ,F,ab,k⟩=>⟨ρ,F,ab,(Rk.bind k).imp λd _ q v a H' s r=>by
 cases d with
 | d x=>exact Rk.ok q v a H' s r
 | _=>exact False.elim q⟩
def eL(f:Sg->R (List Dz)):Sg->R Dz:=λρ=>(f ρ).bind λxs=>.ok (.list xs)
theorem bY{f:Sg->R (List Dz)}(h:PN X c E e f):PD X c E e (eL f):=PE.imp h λσ H Q ⟨ρ,F,ab,k⟩=>⟨ρ,F,ab,(Rk.bind k).imp λxs _ q v d H' s r=>by
 obtain⟨p,vs,h1,h2,i,b,g⟩:=r
 subst h1
 refine Rk.ok q (.ref p) (upd d p (.lst vs)) H' ⟨s.hh,λa o z=>?_,λa o z=>?_,λa z n=>?_⟩ (.lst (SqL.of bL) (g.same (aT.upd b)))
 .rw[aW (bQ (s.ff a o z) b)];exact s.ff a o z
 .by_cases w:a=p
  · subst w; rw [bL]at z; rw [i]; exact z
  · rw [aW w]at z; exact s.fh a o z
 .by_cases w:a=p
  · subst w; exact .inl h2
  · rw [aW w]at n; exact s.nw a z n⟩
def e1{α β:Type}(g:α->R β)(f:Sg->R α):Sg->R β:=λρ=>(f ρ).bind g
def e2{α β γ:Type}(g:α->β->R γ)(f:Sg->R α)(f':Sg->R β):Sg->R γ:=λρ=>(f ρ).bind λx=>(f' ρ).bind λy=>g x y
noncomputable def dN:Dz->Dz->R Dz
 | .int i,.int j=>.ok (.int (i+j))
 | .str x,.str y=>if x.length+y.length<=sizeLine then .ok (.str (x++y))else .bad
 | .tuple xs,.tuple ys=>if xs.isEmpty=false/\xs.length+ys.length<=sizeLine then .ok (.tuple (xs++ys))else .bad
 | _,_=>.bad
def dSub:Dz->Dz->R Dz
 | .int i,.int j=>.ok (.int (i - j))
 | _,_=>.bad
noncomputable def dMul:Dz->Dz->R Dz
 | .int i,.int j=>if (-18446744073709551616 < i/\i < 18446744073709551616)\/(-18446744073709551616 < j/\j < 18446744073709551616)then .ok (.int (i * j))else .bad
 | _,_=>.bad
def dDiv:Dz->Dz->R Dz
 | .int i,.int j=>if 0 < j/\j < 18446744073709551616 then .ok (.int (i / j))else .bad
 | _,_=>.bad
def dMod:Dz->Dz->R Dz
 | .int i,.int j=>if 0 < j then .ok (.int (i % j))else .bad
 | _,_=>.bad
def dNeg:Dz->R Dz
 | .int i=>.ok (.int (-i))
 | _=>.bad
def dLt:Dz->Dz->R Dz
 | .int i,.int j=>.ok (.bool (decide (i < j)))
 | _,_=>.bad
def dGt:Dz->Dz->R Dz
 | .int i,.int j=>.ok (.bool (decide (j < i)))
 | _,_=>.bad
def dEq(x y:Dz):R Dz:=if SeqAt.shaped x=true/\SeqAt.shaped y=true then .ok (.bool (PyData.eqv x y))else .bad
def dNe(x y:Dz):R Dz:=if SeqAt.shaped x=true/\SeqAt.shaped y=true then .ok (.bool (!PyData.eqv x y))else .bad
def pE:Dz->Bool
 | .none=>true
 | _=>false
def dIs(x y:Dz):R Dz:=if pE y=true then .ok (.bool (pE x))else .bad
noncomputable def inD:Dz->Dz->O9 Bool
 | .str i,.str j=>some (!(Builtin.Str.occurrences j i 0 j.length 1).isEmpty)
 | x,.list xs=>if SeqAt.shaped x=true/\SeqAt.shaped (.list xs)=true then some (xs.any λy=>PyData.eqv y x)else none
 | x,.tuple xs=>if SeqAt.shaped x=true/\SeqAt.shaped (.tuple xs)=true then some (xs.any λy=>PyData.eqv y x)else none
 | _,_=>none
def dIn(x y:Dz):R Dz:=match inD x y with
 | some b=>.ok (.bool b)
 | none=>.bad
noncomputable def dIx:Dz->Dz->R Dz
 | .list xs,.int i=>match atI xs i with
  | some v=>.ok v
  | none=>.bad
 | .tuple xs,.int i=>match atI xs i with
  | some v=>.ok v
  | none=>.bad
 | .str z,.int i=>if z.length<=sizeLine then match atI z.cps.toList i with
  | some u=>.ok (.str ⟨#[u]⟩)
  | none=>.bad else .bad
 | _,_=>.bad
end
section
variable{X:Cx}{c:Ct}{E:XK}{e a b:E1}{α β γ:Type}{Ra:VR α}{Rb:VR β}{Rc:VR γ}{pos:Pos}
def r2D(Ra:VR α)(Rb:VR β)(Rc:VR γ)(g:α->β->R γ):R2:=λv u H Q=>∃ H0 H1 F a b d,aT F H/\Ra a v H0 F H/\Rb b u H1 F H/\g a b=.ok d/\∀ w F' H',Ext F H F' H'->Rc d w H F' H'->Q w H'
def r1D(Ra:VR α)(Rb:VR β)(g:α->R β):V->Hp->VK->Prop:=λv H Q=>∃ H0 F a b,aT F H/\Ra a v H0 F H/\g a=.ok b/\∀ w F' H',Ext F H F' H'->Rb b w H F' H'->Q w H'
theorem yM{g:α->β->R γ}:Op2 c Ra Rb Rc g (r2D Ra Rb Rc g):=λh H1 F H a b d v u Q i f e j q=>⟨h,H1,F,a,b,d,i,f,e,j,q⟩
theorem aCV{g:α->R β}:Op1 c Ra Rb g (r1D Ra Rb g):=λh F H a b v Q d f e q=>⟨h,F,a,b,d,f,e,q⟩
theorem a9{e:Operator}{g:Dz->Dz->R Dz}{d fb:Sg->R Dz}(j:OpR X (binaryOp e) (r2D (cF c) (cF c) (eH c) g))(i:fS g)(f:PR X c E a d)(k:PR X c E b fb):PD X c E (.BinOp a e b pos) (e2 g d fb):=
 PE.imp (aHZ j f k) λσ H Q h=>tV2 yM i (tQ c) (pD c) h
theorem aCW{d:UnaryOp}{g:Dz->R Dz}{b:Sg->R Dz}(i:UnR X (unaryOp d) (r1D (cF c) (eH c) g))(f:qH g)(e:PR X c E a b):PD X c E (.UnaryOp d a pos) (e1 g b):=
 PE.imp (aU6 i e) λσ H Q h=>tV1 aCV f (pD c) h
theorem kO{d:CmpOp}{g:Dz->Dz->R Dz}{e fb:Sg->R Dz}(j:OpR X (compareOp d) (r2D (cF c) (cF c) (eH c) g))(i:fS g)(f:PR X c E a e)(l:PR X c E b fb)(k:behindInMarks d b=false):PD X c E (.Compare a [d] [b] pos) (e2 g e fb):=
 PE.imp (aPA j f l k) λσ H Q h=>tV2 yM i (tQ c) (pD c) h
theorem aZ{g:Dz->Dz->R Dz}{d fb:Sg->R Dz}(i:IxR X (r2D (cF c) (cF c) (eH c) g))(f:fS g)(e:PR X c E a d)(k:PR X c E b fb)(j:aF8 b:=by exact λ_ _=>rfl):PD X c E (.Subscript a b pos) (e2 g d fb):=
 PE.imp (L2.aVA i e k j) λσ H Q h=>tV2 yM f (tQ c) (pD c) h
theorem cQ(D:X.K=c.K):OpR X (binaryOp .Add) (r2D (cF c) (cF c) (eH c) dN):=by
 intro a5 s σ H v u x y Q I r l h
 obtain⟨G,H1,F,a,b,d,f,k,o,e,q⟩:=h
 unfold dN at e
 split at e
 .rename_i i j
  cases e
  obtain rfl:=bJ.int_of k
  obtain rfl:=bJ.int_of o
  exact aSB a5 s σ H _ _ x y Q I r l ⟨i,j,rfl,rfl,q _ F H (Ext.refl f) (.int _)⟩
 .rename_i i j
  split at e
  .rename_i n
   cases e
   obtain rfl:=bJ.str_of k
   obtain rfl:=bJ.str_of o
   exact aH0 a5 s σ H _ _ x y Q I r l ⟨i,j,rfl,rfl,n,q _ F H (Ext.refl f) (.str _)⟩
  .cases e
 .rename_i xs ys
  split at e
  .rename_i n
   cases e
   obtain⟨C,vs,rfl,B,t,g⟩:=bJ.tup_of f k
   obtain⟨E,us,rfl,J,A,m⟩:=bJ.tup_of f o
   rw[<-D]at t A
   refine aPE a5 s σ H _ _ x y Q I r l ⟨C,E,vs,us,rfl,rfl,t,A,?_,by rw[g.length,m.length];exact n.2,λz=>?_,λz p w=>?_⟩
   .intro z;subst z;obtain rfl:xs=[]:=by cases g;rfl
    grind
   .subst z
    obtain rfl:ys=[]:=by cases m;rfl
    exact q _ F H (Ext.refl f) (by rw[CT];exact .tup B g)
   .exact q _ _ _ (Ext.new f w) (.tup (SqT.of bL) ((g.append m).same (aT.upd (cH f w))))
  .cases e
 .cases e
theorem bV:fS dN:=by
 intro a b e h
 unfold dN at h
 grind
theorem qI{f:V9->V9->Sem V9}{g:Dz->Dz->R Dz}{C:Int->Int->Prop}{k:Int->Int->Dz}{kv:Int->Int->V}(m:OpR X f (rI C kv))(r:∀ i j F,DatV c.K F (kv i j) (k i j))
  (o:∀ a b d,g a b=.ok d->∃ i j,a=.int i/\b=.int j/\C i j/\d=k i j):OpR X f (r2D (cF c) (cF c) (eH c) g):=by
 intro a5 s σ H v u x y Q I z p h
 obtain⟨A,H1,F,a,b,d,t,n,e,w,q⟩:=h
 obtain⟨i,j,rfl,rfl,l,rfl⟩:=o a b d w
 obtain rfl:=bJ.int_of n
 obtain rfl:=bJ.int_of e
 exact m a5 s σ H _ _ x y Q I z p ⟨i,j,rfl,rfl,l,q _ F H (Ext.refl t) (r i j F)⟩
theorem aIG{f:V9->V9->Sem V9}{kv:Int->Int->V}(a:OpR X f (rI0 kv)):OpR X f (rI (λ_ _=>True) kv):=λa5 s σ H x y v u Q I b c ⟨i,j,h1,h2,_,q⟩=>a a5 s σ H x y v u Q I b c ⟨i,j,h1,h2,q⟩
theorem aGH:OpR X (binaryOp .Sub) (r2D (cF c) (cF c) (eH c) dSub):=qI (aIG aSC) (λ_ _ _=>.int _) λa b d h=>by
 unfold dSub at h;split at h
 · grind
 · cases h
theorem n6:OpR X (binaryOp .Mult) (r2D (cF c) (cF c) (eH c) dMul):=qI aSD (λ_ _ _=>.int _) λa b d h=>by
 unfold dMul at h;split at h
 .split at h
  · rename_i e; cases h; exact⟨_, _, rfl, rfl, e, rfl⟩
  · cases h
 .cases h
theorem mS:OpR X (binaryOp .FloorDiv) (r2D (cF c) (cF c) (eH c) dDiv):=qI aMI (λ_ _ _=>.int _) λa b d h=>by
 unfold dDiv at h;split at h
 .split at h
  · rename_i e; cases h; exact⟨_, _, rfl, rfl, e, rfl⟩
  · cases h
 .cases h
theorem cY:OpR X (binaryOp .Mod) (r2D (cF c) (cF c) (eH c) dMod):=qI aSE (λ_ _ _=>.int _) λa b d h=>by
 unfold dMod at h;split at h
 · grind
 · cases h
theorem aSY:OpR X (compareOp .Lt) (r2D (cF c) (cF c) (eH c) dLt):=qI (aIG aU7) (λ_ _ _=>.bl _) λa b d h=>by
 unfold dLt at h;split at h
 · grind
 · cases h
theorem kP:OpR X (compareOp .Gt) (r2D (cF c) (cF c) (eH c) dGt):=qI (aIG aU8) (λ_ _ _=>.bl _) λa b d h=>by
 unfold dGt at h;split at h
 · grind
 · cases h
theorem aB1:fS dSub:=by intro a b e h;unfold dSub at h;split at h<;>cases h
theorem lP:fS dMul:=by intro a b e h;unfold dMul at h;split at h<;>(try split at h)<;>cases h
theorem jV:fS dDiv:=by intro a b e h;unfold dDiv at h;split at h<;>(try split at h)<;>cases h
theorem cD:fS dMod:=by intro a b e h;unfold dMod at h;split at h<;>(try split at h)<;>cases h
theorem aMQ:fS dLt:=by intro a b e h;unfold dLt at h;split at h<;>cases h
theorem iG:fS dGt:=by intro a b e h;unfold dGt at h;split at h<;>cases h
theorem eI:fS dEq:=by intro a b e h;unfold dEq at h;split at h<;>cases h
theorem fX:fS dNe:=by intro a b e h;unfold dNe at h;split at h<;>cases h
theorem aMR:fS dIn:=by intro a b e h;unfold dIn at h;split at h<;>cases h
theorem pF:qH dNeg:=by intro a e h;unfold dNeg at h;split at h<;>cases h
theorem aN:fS dIx:=by
 intro a b e h
 unfold dIx at h
 grind
theorem vA:UnR X (unaryOp .USub) (r1D (cF c) (eH c) dNeg):=by
 intro a5 s σ H v x Q I g h
 obtain⟨j,F,a,d,f,e,b,q⟩:=h
 unfold dNeg at b
 split at b
 .rename_i i
  cases b
  obtain rfl:=bJ.int_of e
  exact aSF a5 s σ H _ x Q I g ⟨i,rfl,q _ F H (Ext.refl f) (.int _)⟩
 .cases b
theorem gH(g:X.K=c.K)(m:X.A.units+64 < cLine):OpR X (compareOp .Eq) (r2D (cF c) (cF c) (eH c) dEq):=by
 intro a5 s σ H v u x y Q I n l h
 obtain⟨o,H1,F,a,b,d,f,k,j,e,q⟩:=h
 unfold dEq at e
 split at e
 .rename_i i
  cases e
  exact aSN m a5 s σ H _ _ x y Q I n l ⟨a,b,by rw[g];exact bJ.heap f k,by rw[g];exact bJ.heap f j,i.1,i.2,q _ F H (Ext.refl f) (.bl _)⟩
 .cases e
theorem iS(g:X.K=c.K)(m:X.A.units+64 < cLine):OpR X (compareOp .NotEq) (r2D (cF c) (cF c) (eH c) dNe):=by
 intro a5 s σ H v u x y Q I n l h
 obtain⟨o,H1,F,a,b,d,f,k,j,e,q⟩:=h
 unfold dNe at e
 split at e
 .rename_i i
  cases e
  exact aSO m a5 s σ H _ _ x y Q I n l ⟨a,b,by rw[g];exact bJ.heap f k,by rw[g];exact bJ.heap f j,i.1,i.2,q _ F H (Ext.refl f) (.bl _)⟩
 .cases e
theorem rX{xs:List Dz}(h:SeqAt.shaped (.list xs)=true):PyData.canLayAll0 xs=true/\PyData.depthAll xs<=63:=by
 have h':(PyData.canLay0 (.list xs) && decide ((PyData.list xs).depth<=64))=true:=h
 rw[BE]at h'
 have a:PyData.depthAll xs+1<=64:=BD h'.2
 exact⟨h'.1,by omega⟩
theorem aFX{xs:List Dz}(h:SeqAt.shaped (.tuple xs)=true):PyData.canLayAll0 xs=true/\PyData.depthAll xs<=63:=by
 have h':(PyData.canLay0 (.tuple xs) && decide ((PyData.tuple xs).depth<=64))=true:=h
 rw[BE]at h'
 have a:PyData.depthAll xs+1<=64:=BD h'.2
 exact⟨h'.1,by omega⟩
theorem hU{d:Dz}(h:SeqAt.shaped d=true):d.canLay0=true:=by
 have h':(PyData.canLay0 d && decide (d.depth<=64))=true:=h
 grind
theorem inD_cases{x y:Dz}{b:Bool}(h:inD x y=some b):(∃ i j,x=.str i/\y=.str j/\b = !(Builtin.Str.occurrences j i 0 j.length 1).isEmpty) \/
  (∃ xs,y=.list xs/\SeqAt.shaped x=true/\SeqAt.shaped (.list xs)=true/\b=xs.any λz=>PyData.eqv z x)\/(∃ xs,y=.tuple xs/\SeqAt.shaped x=true/\SeqAt.shaped (.tuple xs)=true/\b=xs.any λz=>PyData.eqv z x):=by
 unfold inD at h
 grind
theorem rY{a b:Nat}(h:a<=63):min a b<=63:=by grind
theorem aSZ(k:X.K=c.K)(C:X.A.units+64 < cLine):OpR X (compareOp .In) (r2D (cF c) (cF c) (eH c) dIn):=by
 intro a5 s σ H v u x y Q I p o h
 obtain⟨B,H1,F,a,b,d,e,n,m,l,q⟩:=h
 unfold dIn at l
 split at l
 .rename_i r w
  cases l
  have g:EP X a5 σ Q (.bool r) s:=⟨.bl r,H,I,rfl,q _ F H (Ext.refl e) (.bl _)⟩
  rcases inD_cases w with ⟨i,j,rfl,rfl,rfl⟩|⟨xs,rfl,h1,h2,rfl⟩|⟨xs,rfl,h1,h2,rfl⟩
  .obtain rfl:=bJ.str_of n
   obtain rfl:=bJ.str_of m
   exact aJP a5 s σ H _ _ x y Q I p o ⟨i,j,rfl,rfl,q _ F H (Ext.refl e) (.bl _)⟩
  .obtain ⟨z,r1⟩:=DatV.reads I (by rw[k];exact bJ.heap e n) (hU h1) p
   obtain⟨bs,r2⟩:=DatV.reads I (by rw[k];exact bJ.heap e m) (hU h2) o
   have f:=rX h2
   have t:=rY (b:=a.depth) f.2
   exact SeqAt.in_list_reads r2 r1 f.1 (hU h1) (by omega) g
  .obtain ⟨z,r1⟩:=DatV.reads I (by rw[k];exact bJ.heap e n) (hU h1) p
   obtain⟨bs,r2⟩:=DatV.reads I (by rw[k];exact bJ.heap e m) (hU h2) o
   have f:=aFX h2
   have t:=rY (b:=a.depth) f.2
   exact SeqAt.in_tuple_reads r2 r1 f.1 (hU h1) (by omega) g
 .cases l
theorem a8(B:X.K=c.K):IxR X (r2D (cF c) (cF c) (eH c) dIx):=by
 intro f e a5 s σ H v u x y Q I A t h n
 obtain⟨D,H1,F,a,b,d,k,m,l,g,q⟩:=h
 unfold dIx at g
 split at g
 .rename_i xs i
  split at g
  .rename_i w j
   cases g
   obtain⟨p,vs,rfl,h1,h2⟩:=bJ.lst_of k m
   obtain rfl:=bJ.int_of l
   obtain⟨z,r,o⟩:=aDV h2 j
   rw[<-B]at h1
   exact aPG f e a5 s σ H _ _ x y Q I A t ⟨p,vs,i,z,rfl,rfl,h1,r,q _ F H (Ext.refl k) o⟩ n
  .cases g
 .rename_i xs i
  split at g
  .rename_i w j
   cases g
   obtain⟨p,vs,rfl,_,h1,h2⟩:=bJ.tup_of k m
   obtain rfl:=bJ.int_of l
   obtain⟨z,r,o⟩:=aDV h2 j
   rw[<-B]at h1
   exact aSK f e a5 s σ H _ _ x y Q I A t ⟨p,vs,i,z,rfl,rfl,h1,r,q _ F H (Ext.refl k) o⟩ n
  .cases g
 .rename_i z i
  split at g
  .rename_i C
   split at g
   .rename_i w j
    cases g
    obtain rfl:=bJ.str_of m
    obtain rfl:=bJ.int_of l
    exact aSL f e a5 s σ H _ _ x y Q I A t ⟨z,i,w,rfl,rfl,C,j,q _ F H (Ext.refl k) (.str _)⟩ n
   .cases g
  .cases g
 .cases g
def tTf(c:Ct)(E:XK)(f:Sg->R Bool):TT:=λσ H Q=>∃ ρ F,Ab c ρ σ F H/\Rk c E F H (f ρ) λb=>∀ F' H',Ext F H F' H'->Q b H'
abbrev PTf(X:Cx)(c:Ct)(E:XK)(e:E1)(f:Sg->R Bool):Prop:=PT X e (tTf c E f)
def asB:Dz->R Bool
 | .bool b=>.ok b
 | _=>.bad
theorem aAL{f:Sg->R Dz}{σ:L2.St}{H:Hp}{Q:Bool->Hp->Prop}(h:tTf c E (e1 asB f) σ H Q):tV (eH c) c E f σ H λx H'=>∃ k,x=.bl k/\Q k H':=by
 obtain⟨ρ,F,ab,h⟩:=h
 refine⟨ρ,F,ab,(Rk.bind h).imp λd _ q v a H' s r=>?_⟩
 cases d with
 | bool b=>exact⟨b,DatV.bl_of r,Rk.ok q a H' s⟩
 | _=>exact False.elim q
theorem cS{d:CmpOp}{g:Dz->Dz->R Dz}{e fb:Sg->R Dz}(j:OpR X (compareOp d) (r2D (cF c) (cF c) (eH c) g))(i:fS g)(f:PR X c E a e)(l:PR X c E b fb)(k:behindInMarks d b=false):PTf X c E (.Compare a [d] [b] pos) (e1 asB (e2 g e fb)):=
 PT.imp (uW j f l k) λσ H Q h=>tV2 yM i (tQ c) (pD c) (aAL h)
theorem jS{f:Sg->R Dz}(h:PD X c E e f)(a:∀ whole,isTrue e X.env whole=(do let v <-whole;standAt e.pos;holding [v] (truthy v)):=by intro _;rfl):PTf X c E e (e1 asB f):=
 PT.imp (L2.jS h a) λσ H Q h=>aAL h
def aIH(f g:Sg->R Bool):Sg->R Bool:=λρ=>(f ρ).bind λb=>if b=true then g ρ else .ok false
def bOr(f g:Sg->R Bool):Sg->R Bool:=λρ=>(f ρ).bind λb=>if b=true then .ok true else g ρ
def aAM(f:Sg->R Bool):Sg->R Bool:=λρ=>(f ρ).bind λb=>.ok (!b)
abbrev PWf(X:Cx)(c:Ct)(E:XK)(e:E1)(f:Sg->R Bool):Prop:=PW X e (tTf c E f)
theorem PW.imp{X:Cx}{e:E1}{t t':TT}(h:PW X e t)(i:∀ σ H Q,t' σ H Q->t σ H Q):PW X e t':=λa a5 s σ H Q I q=>h a a5 s σ H Q I (i σ H Q q)
theorem aWH{f g:Sg->R Bool}{σ:L2.St}{H:Hp}{Q:Bool->Hp->Prop}(h:tTf c E (aIH f g) σ H Q):aR2 (tTf c E f) (tTf c E g) σ H Q:=by
 obtain⟨ρ,F,ab,h⟩:=h
 refine⟨ρ,F,ab,(Rk.bind h).imp λb _ q a H' s=>?_⟩
 cases b with
 | true=>exact⟨ρ,a,ab.ext s,(Rk.ext s q).imp λd _ z i H2 e=>z i H2 (s.trans e)⟩
 | false=>exact Rk.ok q a H' s
theorem tor{f g:Sg->R Bool}{σ:L2.St}{H:Hp}{Q:Bool->Hp->Prop}(h:tTf c E (bOr f g) σ H Q):tOr (tTf c E f) (tTf c E g) σ H Q:=by
 obtain⟨ρ,F,ab,h⟩:=h
 refine⟨ρ,F,ab,(Rk.bind h).imp λb _ q a H' s=>?_⟩
 cases b with
 | false=>exact⟨ρ,a,ab.ext s,(Rk.ext s q).imp λd _ z i H2 e=>z i H2 (s.trans e)⟩
 | true=>exact Rk.ok q a H' s
theorem aAB{f:Sg->R Bool}(h:PTf X c E a f):PWf X c E (.BoolOp .And [a] pos) f:=L2.aAB h
theorem p9{f:Sg->R Bool}(h:PTf X c E a f):PWf X c E (.BoolOp .Or [a] pos) f:=L2.p9 h
theorem aC5{f g:Sg->R Bool}{rest:List E1}(h:PTf X c E a f)(h2:PWf X c E (.BoolOp .And (b::rest) pos) g):PWf X c E (.BoolOp .And (a::b::rest) pos) (aIH f g):=PW.imp (L2.aC5 h h2) λ_ _ _ q=>aWH q
theorem o9{f g:Sg->R Bool}{rest:List E1}(h:PTf X c E a f)(h2:PWf X c E (.BoolOp .Or (b::rest) pos) g):PWf X c E (.BoolOp .Or (a::b::rest) pos) (bOr f g):=PW.imp (L2.o9 h h2) λ_ _ _ q=>tor q
theorem oI{f:Sg->R Bool}(h:PTf X c E a f):PTf X c E (.UnaryOp .Not a pos) (aAM f):=PT.imp (L2.oI h) λσ H Q ⟨ρ,F,ab,k⟩=>⟨ρ,F,ab,(Rk.bind k).imp λb _ q d H' s=>Rk.ok q d H' s⟩
noncomputable def aMS(f g:Sg->R Dz):Sg->R Dz:=λρ=>(f ρ).bind λx=>(asB x).bind λb=>if b=true then g ρ else .ok (.bool false)
def eIf{α:Type}(t:Sg->R Bool)(f g:Sg->R α):Sg->R α:=λρ=>(t ρ).bind λb=>if b=true then f ρ else g ρ
theorem aS0{op}{f:Sg->R Dz}(h:PD X c E a f):PD X c E (.BoolOp op [a] pos) f:=aR3 h
theorem aS1{f g:Sg->R Dz}{rest:List E1}(h:PD X c E a f)(h2:PD X c E (.BoolOp .And (b::rest) pos) g):PD X c E (.BoolOp .And (a::b::rest) pos) (aMS f g):=PE.imp (aR4 h h2) λσ H Q e=>by
 obtain⟨ρ,F,ab,k⟩:=e
 refine⟨ρ,F,ab,(Rk.bind k).imp λd _ q v i H' s r=>?_⟩
 cases d with
 | bool b=>
  refine⟨b,DatV.bl_of r,?_⟩
  cases b with
  | true=>exact aC9 ⟨ρ,i,ab.ext s,(Rk.ext s q).imp λd _ z v l H2 j=>z v l H2 (s.trans j)⟩
  | false=>exact aC8 (Rk.ok q (.bl false) i H' s (.bl false))
 | _=>exact False.elim q
theorem vB{t:Sg->R Bool}{f g:Sg->R Dz}{q:E1}(m:PTf X c E q t)(h:PD X c E a f)(h2:PD X c E b g):PD X c E (.IfExp q a b pos) (eIf t f g):=PE.imp (aMA m h h2) λσ H Q j=>by
 obtain⟨ρ,F,ab,k⟩:=j
 refine⟨ρ,F,ab,(Rk.bind k).imp λb _ q l H' s=>?_⟩
 cases b with
 | true=>exact aC9 ⟨ρ,l,ab.ext s,(Rk.ext s q).imp λd _ z v i H2 e=>z v i H2 (s.trans e)⟩
 | false=>exact aC8 ⟨ρ,l,ab.ext s,(Rk.ext s q).imp λd _ z v i H2 e=>z v i H2 (s.trans e)⟩
end
def AFs(g:Gb)(K:Frag)(mg:Str->O9 V9)(F:Hp):List A->List V->Prop
 | [],[]=>True
 | a::as,v::vs=>AF g K mg F a v/\AFs g K mg F as vs
 | _,_=>False
theorem AFs.same{g:Gb}{K:Frag}{mg:Str->O9 V9}{F F':Hp}(s:aT F F'):∀ {as:List A} {vs:List V},AFs g K mg F as vs->AFs g K mg F' as vs
 | [],[],_=>trivial
 | a::as,v::vs,h=>⟨AF.same s h.1,AFs.same s h.2⟩
theorem AFs.len{g:Gb}{K:Frag}{mg:Str->O9 V9}{F:Hp}:∀ {as:List A} {vs:List V},AFs g K mg F as vs->vs.length=as.length
 | [],[],_=>rfl
 | a::as,v::vs,h=>by rw[A5,A5,AFs.len h.2]
theorem PA.imp{X:Cx}{es:List E1}{t t':TA}(h:PA X es t)(i:∀ σ H Q,t' σ H Q->t σ H Q):PA X es t':=λpos a5 s σ H Q I q=>h pos a5 s σ H Q I (i σ H Q q)
def tAd(c:Ct)(E:XK)(f:Sg->R (List Dz)):TA:=λσ H Q=>∃ ρ F,Ab c ρ σ F H/\Rk c E F H (f ρ) λds=>∀ vs F' H',Ext F H F' H'->DatVs c.K F' vs ds->Q vs H'
def tAv(c:Ct)(E:XK)(f:Sg->R (List A)):TA:=λσ H Q=>∃ ρ F,Ab c ρ σ F H/\Rk c E F H (f ρ) λds=>∀ vs F' H',Ext F H F' H'->AFs c.g c.K c.mg F' ds vs->Q vs H'
abbrev PAd(X:Cx)(c:Ct)(E:XK)(es:List E1)(f:Sg->R (List Dz)):Prop:=PA X es (tAd c E f)
abbrev PAv(X:Cx)(c:Ct)(E:XK)(es:List E1)(f:Sg->R (List A)):Prop:=PA X es (tAv c E f)
noncomputable def aL{α:Type}:Sg->R (List α):=λ_=>.ok []
def aA{α:Type}(f:Sg->R α)(g:Sg->R (List α)):Sg->R (List α):=λρ=>(f ρ).bind λx=>(g ρ).bind λxs=>.ok (x::xs)
section
variable{X:Cx}{c:Ct}{E:XK}{e a b:E1}{es:List E1}{pos:Pos}
theorem aX:PAd X c E [] aL:=PA.imp aP λσ H Q ⟨ρ,F,ab,k⟩=>Rk.ok k [] F H (Ext.refl ab.fh) .nil
theorem aU:PAv X c E [] aL:=PA.imp aP λσ H Q ⟨ρ,F,ab,k⟩=>Rk.ok k [] F H (Ext.refl ab.fh) trivial
theorem aF{f:Sg->R Dz}{g:Sg->R (List Dz)}(h:PD X c E e f)(h2:PAd X c E es g)(i:starEach (e::es) X.env=(false,eval e X.env)::starEach es X.env:=by rfl):PAd X c E (e::es) (aA f g):=PA.imp (aJ h h2 i) λσ H Q a=>by
 obtain⟨ρ,F,ab,k⟩:=a
 refine⟨ρ,F,ab,(Rk.bind k).imp λx _ q v d H1 s1 r1=>⟨ρ,d,ab.ext s1,((Rk.bind q).ext s1).imp λxs _ q vs j H2 b r2=>?_⟩⟩
 exact Rk.ok q (v::vs) j H2 (s1.trans b) (.cons (DatV.same b.ff r1) r2)
theorem aD{f:Sg->R A}{g:Sg->R (List A)}(h:PV X c E e f)(h2:PAv X c E es g)(i:starEach (e::es) X.env=(false,eval e X.env)::starEach es X.env:=by rfl):PAv X c E (e::es) (aA f g):=PA.imp (aJ h h2 i) λσ H Q a=>by
 obtain⟨ρ,F,ab,k⟩:=a
 refine⟨ρ,F,ab,(Rk.bind k).imp λx _ q v d H1 s1 r1=>⟨ρ,d,ab.ext s1,((Rk.bind q).ext s1).imp λxs _ q vs j H2 b r2=>?_⟩⟩
 exact Rk.ok q (v::vs) j H2 (s1.trans b) ⟨AF.same b.ff r1,r2⟩
def cJ(f:Sg->R (List Dz)):Sg->R Dz:=λρ=>(f ρ).bind λxs=>if xs.length<=16777216 then .ok (.tuple xs)else .bad
def dO(f:Sg->R (List Dz)):Sg->R (List Dz):=λρ=>(f ρ).bind λxs=>if xs.length<=16777216 then .ok xs else .bad
theorem eE:sizeLine=16777216:=GR
theorem b9{x1}{f:Sg->R (List Dz)}(h:PAd X c E es f):PD X c E (.Tuple es x1 pos) (cJ f):=PE.imp (aC7 h) λσ H Q b=>by
 obtain⟨ρ,F,ab,k⟩:=b
 refine⟨ρ,F,ab,(Rk.bind k).imp λxs _ q vs e H1 s1 r1=>?_⟩
 by_cases a:xs.length<=16777216
 .rw[AD a]at q
  refine⟨by rw[r1.length,eE];exact a,λp d=>?_⟩
  exact Rk.ok q (.ref p) _ _ (s1.trans (Ext.new s1.fh d)) (.tup (SqT.of bL) (r1.same (aT.upd (cH s1.fh d))))
 .rw[AE a]at q;exact q.elim
theorem cW{f:Sg->R (List Dz)}(h:PAd X c E es f):PN X c E (.List es pos) (dO f):=PE.imp (aSJ h) λσ H Q b=>by
 obtain⟨ρ,F,ab,k⟩:=b
 refine⟨ρ,F,ab,(Rk.bind k).imp λxs _ q vs e H1 s1 r1=>?_⟩
 by_cases a:xs.length<=16777216
 .rw[AD a]at q
  refine⟨by rw[r1.length,eE];exact a,λp d=>?_⟩
  exact Rk.ok q (.ref p) _ _ (s1.trans (Ext.own s1.fh d)) ⟨p,vs,rfl,cH s1.hh d,bL,cH s1.fh d,r1⟩
 .rw[AE a]at q;exact q.elim
noncomputable def dLen:Dz->R Dz
 | .str z=>if z.length<=16777216 then .ok (.int z.length)else .bad
 | .list xs=>.ok (.int xs.length)
 | .tuple xs=>.ok (.int xs.length)
 | _=>.bad
theorem plain_len:qH dLen:=by intro a e h;unfold dLen at h;split at h<;>(try split at h)<;>cases h
theorem dM{l:Sg->R Dz}(j:X.K=c.K)(h0:PE X e (tCB (λxs H Q=>∃ x n,xs=[x]/\aSH X.K x H n/\Q (.int n) H) (eK (tV (cF c) c E l) jN))):PD X c E e (e1 dLen l):=
 PE.imp h0 λσ H Q h=>by
  obtain⟨ρ,F,ab,k⟩:=tV1 (Ra:=cF c) aCV plain_len (pD c) h
  refine⟨ρ,F,ab,k.imp λd _ q v o H' s r=>?_⟩
  obtain⟨t,g,a,u,f,i,b,q⟩:=q v o H' s r
  unfold dLen at b
  split at b
  .rename_i z
   split at b
   .rename_i m
    cases b
    obtain rfl:=bJ.str_of i
    exact⟨_,_,rfl,⟨by rw[eE];exact m,rfl⟩,q _ g H' (Ext.refl f) (.int _)⟩
   .cases b
  .cases b
   obtain⟨p,vs,rfl,h1,h2⟩:=bJ.lst_of f i
   rw[<-j]at h1
   exact⟨_,vs.length,rfl,.inl ⟨vs,h1,rfl⟩,q _ g H' (Ext.refl f) (by rw[h2.length];exact .int _)⟩
  .cases b
   obtain⟨p,vs,rfl,_,h1,h2⟩:=bJ.tup_of f i
   rw[<-j]at h1
   exact⟨_,vs.length,rfl,.inr ⟨vs,h1,rfl⟩,q _ g H' (Ext.refl f) (by rw[h2.length];exact .int _)⟩
  .cases b
noncomputable def dTup:Dz->R Dz
 | .list xs=>.ok (.tuple xs)
 | .tuple xs=>.ok (.tuple xs)
 | _=>.bad
theorem aKG:qH dTup:=by intro a e h;unfold dTup at h;split at h<;>cases h
theorem cO{m:Sg->R Dz}(g:X.K=c.K)(h0:PE X e (tCB (λxs H Q=>∃ p ys,xs=[.ref p]/\((SqL X.K H p ys/\∀ l,H l=none->Q (.ref l) (upd H l (.tup ys)))\/(SqT X.K H p ys/\Q (.ref p) H))) (eK (tV (cF c) c E m) jN))):PD X c E e (e1 dTup m):=
 PE.imp h0 λσ H Q h=>by
  obtain⟨ρ,F,ab,k⟩:=tV1 (Ra:=cF c) aCV aKG (pD c) h
  refine⟨ρ,F,ab,k.imp λd _ q v o H' s r=>?_⟩
  obtain⟨u,n,a,w,b,j,f,q⟩:=q v o H' s r
  unfold dTup at f
  split at f
  .cases f
   obtain⟨p,vs,rfl,h1,h2⟩:=bJ.lst_of b j
   rw[<-g]at h1
   exact⟨p,vs,rfl,.inl ⟨h1,λl i=>q _ _ _ (Ext.new b i) (.tup (SqT.of bL) (h2.same (aT.upd (cH b i))))⟩⟩
  .cases f
   obtain⟨p,vs,rfl,t,h1,h2⟩:=bJ.tup_of b j
   rw[<-g]at h1
   exact⟨p,vs,rfl,.inr ⟨h1,q _ n H' (Ext.refl b) (.tup t h2)⟩⟩
  .cases f
noncomputable def dInt:Dz->R Dz
 | .int i=>.ok (.int i)
 | .bool b=>.ok (.int (if b=true then 1 else 0))
 | _=>.bad
theorem aKH:qH dInt:=by intro a e h;unfold dInt at h;split at h<;>cases h
theorem mT{m:Sg->R Dz}(h0:PE X e (tCB (λxs H Q=>(∃ i,xs=[.int i]/\Q (.int i) H)\/∃ k,xs=[.bl k]/\Q (.int (if k then 1 else 0)) H) (eK (tV (cF c) c E m) jN))):PD X c E e (e1 dInt m):=
 PE.imp h0 λσ H Q h=>by
  obtain⟨ρ,F,ab,k⟩:=tV1 (Ra:=cF c) aCV aKH (pD c) h
  refine⟨ρ,F,ab,k.imp λd _ q v n H' s r=>?_⟩
  obtain⟨o,g,a,p,l,j,f,q⟩:=q v n H' s r
  unfold dInt at f
  split at f
  .cases f
   obtain rfl:=bJ.int_of j
   exact .inl ⟨_,rfl,q _ g H' (Ext.refl l) (.int _)⟩
  .rename_i b
   cases f
   obtain rfl:=bJ.bl_of j
   exact .inr ⟨b,rfl,q _ g H' (Ext.refl l) (by cases b<;>exact .int _)⟩
  .cases f
end
inductive Fw where
 | nx (ρ:Sg)|bk (ρ:Sg)|ct (ρ:Sg)|rt (a:A)
def AR(g:Gb)(K:Frag)(mg:Str->O9 V9)(H F' H':Hp):A->V->Prop
 | .l xs,v=>∃ p us,v=.ref p/\H p=none/\H' p=some (.lst us)/\F' p=none/\DatVs K F' us xs
 | a,v=>AF g K mg F' a v
theorem AR.of{g:Gb}{K:Frag}{mg:Str->O9 V9}{H b H':Hp}{a:A}{v:V}(h:AF g K mg b a v):AR g K mg H b H' a v:=by
 cases a with
 | l xs=>exact False.elim h
 | _=>exact h
def k9(c:Ct)(F:Hp)(D:lG):Fw->Prop
 | .nx ρ=>∀ σ' F' H',aT F F'->Ab c ρ σ' F' H'->D.nx σ' H'
 | .bk ρ=>∀ σ' F' H',aT F F'->Ab c ρ σ' F' H'->D.bk σ' H'
 | .ct ρ=>∀ σ' F' H',aT F F'->Ab c ρ σ' F' H'->D.ct σ' H'
 | .rt a=>∀ v F' H',Ext c.F0 c.H0 F' H'->AR c.g c.K c.mg c.H0 F' H' a v->D.rt v H'
theorem k9.same{c:Ct}{F F1:Hp}{D:lG}(s:aT F F1):∀ {w:Fw},k9 c F D w->k9 c F1 D w
 | .nx ρ,h=>λb d H' s' ab=>h b d H' (λa o z=>s' a o (s a o z)) ab
 | .bk ρ,h=>λb d H' s' ab=>h b d H' (λa o z=>s' a o (s a o z)) ab
 | .ct ρ,h=>λb d H' s' ab=>h b d H' (λa o z=>s' a o (s a o z)) ab
 | .rt a,h=>h
def tSf(c:Ct)(E:XK)(f:Sg->R Fw):TS:=λD σ H=>∃ ρ F,Ab c ρ σ F H/\Rk c E F H (f ρ) (k9 c F D)
abbrev PSf(X:Cx)(c:Ct)(E:XK)(st:Stmt)(f:Sg->R Fw):Prop:=PS X st (tSf c E f)
abbrev lY(X:Cx)(c:Ct)(E:XK)(st:List Stmt)(f:Sg->R Fw):Prop:=PSs X st (tSf c E f)
theorem get_set{α:Type}{l:List α}{i j:Nat}{x y:α}(h:(l.set i x)[j]? = some y):(i=j/\y=x/\i < l.length)\/(i≠j/\l[j]? = some y):=by grind
theorem Ab.setF{c:Ct}{ρ:Sg}{σ:L2.St}{F H:Hp}{i:Nat}{a:A}{v:V}(b:Ab c ρ σ F H)(p:AO c F H a v)(u:a.own=true->∀ (j:Nat) (a':A),j≠i->ρ[j]? = some (some a')->a'.own=true->σ[j]? ≠ some (some v)):Ab c (ρ.set i (some a)) (σ.set i (some v)) F H where
 len:=by rw[DC,DC];exact b.len
 fh:=b.fh
 slot:=λj a' h=>by
  rcases get_set h with ⟨e,q,m⟩|⟨l,q⟩
  .subst e
   cases q
   exact⟨v,CZ (by rw[<-b.len];exact m),p⟩
  .rw[BT l];exact b.slot j a' q
 apart:=λj k a' s n h1 h2 r t=>by
  rcases get_set h1 with ⟨e,q,m⟩|⟨l,q⟩
  .subst e
   cases q
   rcases get_set h2 with ⟨o,f,g⟩|⟨d,f⟩
   .grind
   .rw[CZ (by rw[<-b.len];exact m),BT d]
    grind
  .rcases get_set h2 with ⟨o,f,g⟩|⟨d,f⟩
   .subst o
    cases f
    rw[CZ (by rw[<-b.len];exact g),BT l]
    grind
   .rw[BT l,BT d]
    exact b.apart j k a' s n q f r t
 f0:=b.f0
 h0:=b.h0
 n0:=b.n0
 t0:=b.t0
theorem AO.of{c:Ct}{F H:Hp}:∀ {a:A} {v:V},AF c.g c.K c.mg F a v->AO c F H a v
 | .d x,v,h=>h
 | .x e,v,h=>h
 | .g k n G,v,h=>h
 | .f a6,v,h=>h
 | .o e,v,h=>h
theorem AF.notOwn{g:Gb}{K:Frag}{mg:Str->O9 V9}{F:Hp}:∀ {a:A} {v:V},AF g K mg F a v->a.own=false
 | .d x,v,h=>rfl
 | .x e,v,h=>rfl
 | .g k n G,v,h=>rfl
 | .f a6,v,h=>rfl
 | .o e,v,h=>rfl
theorem Ab.setA{c:Ct}{ρ:Sg}{σ:L2.St}{F H:Hp}{i:Nat}{a:A}{v:V}(b:Ab c ρ σ F H)(d:AF c.g c.K c.mg F a v):Ab c (ρ.set i (some a)) (σ.set i (some v)) F H:=
 b.setF (AO.of d) λz=>by rw[AF.notOwn d]at z;cases z
theorem Ab.setN{c:Ct}{ρ:Sg}{σ:L2.St}{F H d H':Hp}{i:Nat}{xs:List Dz}{v:V}(b:Ab c ρ σ F H)(e:Ext F H d H')(h:aAK c xs v H d H'):Ab c (ρ.set i (some (.l xs))) (σ.set i (some v)) d H':=by
 obtain⟨p,vs,rfl,h1,h2,m,n⟩:=h
 refine(b.ext e).setF ⟨p,vs,rfl,h2,m,cH b.h0 h1,n⟩ λ_ j g _ a f=>?_
 obtain⟨w,k,q⟩:=b.slot j g a
 rw[k]
 intro z
 cases z
 obtain⟨s,o',o,r,_⟩:=q.at f
 grind
theorem Ab.putO{c:Ct}{ρ:Sg}{σ:L2.St}{F H:Hp}{i:Nat}{a t:A}{p:Az}{o:HO}(b:Ab c ρ σ F H)(hi:ρ[i]? = some (some a))(B:a.own=true)(J:σ[i]? = some (some (.ref p)))(T:t.own=true)(X:AO c F (upd H p o) t (.ref p)) :
  Ab c (ρ.set i (some t)) σ F (upd H p o):=by
 obtain⟨v,h1,q⟩:=b.slot i _ hi
 rw[J]at h1
 cases h1
 obtain⟨W,o',y,h2,O,N⟩:=q.at B
 cases y
 have C:∀ (j:Nat) (a:A) (w:V),j≠i->ρ[j]? = some (some a)->σ[j]? = some (some w)->AO c F H a w->AO c F (upd H p o) a w:=by
  intro j K w R Q I r
  by_cases own:K.own=true
  .refine r.off λz=>?_
   subst z
   exact b.apart j i _ _ R Q hi own B (by rw[I,J])
  .cases K with
   | l zs=>exact absurd rfl own
   | m zs=>exact absurd rfl own
   | d x=>exact r
   | x e=>exact r
   | g k n f=>exact r
   | k S=>exact r
   | f S=>exact r
   | o S=>exact r
 exact {
  len:=by rw[DC];exact b.len
  fh:=λa o z=>by rw[aW (λw=>by subst w;rw[O]at z;cases z)];exact b.fh a o z
  slot:=λj a h=>by
   rcases get_set h with ⟨e,q,U⟩|⟨P,q⟩
   .grind
   .obtain ⟨w,I,r⟩:=b.slot j a q
    grind
  apart:=λj k t M s h1 h2 L G=>by
   rcases get_set h1 with ⟨e,q,U⟩|⟨P,q⟩
   .subst e
    cases q
    rcases get_set h2 with ⟨y,u,D⟩|⟨E,u⟩
    .grind
    .exact b.apart _ k _ M s hi u B G
   .rcases get_set h2 with ⟨y,u,D⟩|⟨E,u⟩
    .subst y
     exact b.apart j _ t _ s q hi L B
    .exact b.apart j k t M s q u L G
  f0:=b.f0
  h0:=λa o z=>by rw[aW (λw=>by subst w;rw[N]at z;cases z)];exact b.h0 a o z
  n0:=b.n0
  t0:=b.t0}
theorem Ab.putL{c:Ct}{ρ:Sg}{σ:L2.St}{F H:Hp}{i:Nat}{xs ys:List Dz}{p:Az}{vs:List V}(b:Ab c ρ σ F H)(hi:ρ[i]? = some (some (.l xs)))(a:σ[i]? = some (some (.ref p)))(e:DatVs c.K F vs ys) :
  Ab c (ρ.set i (some (.l ys))) σ F (upd H p (.lst vs)):=by
 obtain⟨v,h1,g,us,rfl,h2,d,f,h⟩:=b.slot i _ hi
 rw[a]at h1
 cases h1
 exact b.putO hi rfl a rfl ⟨p,vs,rfl,bL,d,f,e⟩
theorem Ab.putM{c:Ct}{ρ:Sg}{σ:L2.St}{F H:Hp}{i:Nat}{d a:List (Dz×Dz)}{p:Az}{es:List Ent}{ep:Nat}(b:Ab c ρ σ F H)(hi:ρ[i]? = some (some (.m d)))(e:σ[i]? = some (some (.ref p)))(g:MapRel c.K F es a) :
  Ab c (ρ.set i (some (.m a))) σ F (upd H p (fI c.w p es ep)):=by
 obtain⟨v,h1,j,us,rfl,h2,f,h,k⟩:=b.slot i _ hi
 rw[e]at h1
 cases h1
 exact b.putO hi rfl e rfl ⟨p,es,rfl,⟨ep,bL⟩,f,h,g⟩
theorem Ab.setM{c:Ct}{ρ:Sg}{σ:L2.St}{F H d H':Hp}{i:Nat}{a:List (Dz×Dz)}{p:Az}{es:List Ent}{ep:Nat}(b:Ab c ρ σ F H)(e:Ext F H d H')(h1:H p=none)(h2:H' p=some (fI c.w p es ep))(l:d p=none)(n:MapRel c.K d es a):Ab c (ρ.set i (some (.m a))) (σ.set i (some (.ref p))) d H':=by
 refine(b.ext e).setF ⟨p,es,rfl,⟨ep,h2⟩,l,cH b.h0 h1,n⟩ λ_ j h _ f g=>?_
 obtain⟨w,k,q⟩:=b.slot j h f
 rw[k]
 intro z
 cases z
 obtain⟨s,o',o,r,_⟩:=q.at g
 grind
noncomputable def fz(i:Nat)(ρ:Sg):Sg:=match ρ[i]? with
 | some (some (.l xs))=>ρ.set i (some (.d (.list xs)))
 | _=>ρ
theorem Ab.publ{c:Ct}{ρ:Sg}{σ:L2.St}{F H:Hp}{i:Nat}{G u:A}{p:Az}{o:HO}(b:Ab c ρ σ F H)(hi:ρ[i]? = some (some G))(T:σ[i]? = some (some (.ref p)))(M:G.own=true)(h2:H p=some o)(y:F p=none)(v:c.H0 p=none)(no:u.own=false)(Z:AO c (upd F p o) H u (.ref p)):Ab c (ρ.set i (some u)) σ (upd F p o) H:=by
 have t:aT F (upd F p o):=aT.upd y
 exact {
  len:=by rw[DC];exact b.len
  fh:=λa o' z=>by
   by_cases w:a=p
   .subst w;rw[bL]at z;rw[h2];exact z
   .rw[aW w]at z;exact b.fh a o' z
  slot:=λj a h=>by
   rcases get_set h with ⟨e,q,V⟩|⟨J,q⟩
   .grind
   .obtain ⟨w,L,s⟩:=b.slot j a q
    refine⟨w,L,?_⟩
    have off:∀ r,a.own=true->w=.ref r->F r=none->upd F p o r=none:=λr R e f=>by
     rw[aW]
     .exact f
     .intro z
      subst z
      exact b.apart j i _ _ (BS J) q hi R M (by rw[L,T,e])
    cases a with
    | l zs=>obtain⟨r,ws,e,C,s,E,B⟩:=s;exact⟨r,ws,e,C,off r rfl e s,E,B.same t⟩
    | m a6=>obtain⟨r,ws,e,C,s,E,B⟩:=s;exact⟨r,ws,e,C,off r rfl e s,E,B.same t⟩
    | d x=>exact DatV.same t s
    | x e=>exact AF.same (g:=c.g) (K:=c.K) (mg:=c.mg) (a:=.x e) t s
    | g k n f=>exact AF.same (g:=c.g) (K:=c.K) (mg:=c.mg) (a:=.g k n f) t s
    | k S=>obtain⟨S,f,cl,doc,pm,X,ct,h0,h1,h2,y,v⟩:=s;exact⟨S,f,cl,doc,pm,X,ct,h0,h1,t _ _ h2,t _ _ y,v⟩
    | f a6=>exact AF.same (g:=c.g) (K:=c.K) (mg:=c.mg) (a:=.f a6) t s
    | o e=>exact AF.same (g:=c.g) (K:=c.K) (mg:=c.mg) (a:=.o e) t s
  apart:=λj k Q W D h1 h2 U P=>by
   rcases get_set h1 with ⟨e,q,V⟩|⟨J,q⟩
   .grind
   .rcases get_set h2 with ⟨Y,I,N⟩|⟨O,I⟩
    .grind
    .exact b.apart j k Q W D q I U P
  f0:=λa o z=>t a o (b.f0 a o z)
  h0:=b.h0
  n0:=λa z n=>by
   by_cases w:a=p
   .subst w;exact .inl v
   .rw[aW w]at n;exact b.n0 a z n
  t0:=b.t0}
theorem Ab.frz{c:Ct}{ρ:Sg}{σ:L2.St}{F H:Hp}(b:Ab c ρ σ F H)(i:Nat):∃ F',aT F F'/\Ab c (fz i ρ) σ F' H:=by
 unfold fz
 split
 .rename_i xs hi
  obtain⟨v,d,p,vs,rfl,h2,a,f,e⟩:=b.slot i _ hi
  exact⟨_,aT.upd a,b.publ hi d rfl h2 a f rfl (.lst (SqL.of bL) (e.same (aT.upd a)))⟩
 .exact ⟨F,cG F,b⟩
section
variable{X:Cx}{c:Ct}{E:XK}{e a b:E1}{st:Stmt}{rest:List Stmt}{pos:Pos}
def sFz(i:Nat)(f:Sg->R Fw):Sg->R Fw:=λρ=>f (fz i ρ)
theorem aCX(i:Nat){f:Sg->R Fw}(h:PSf X c E st f):PSf X c E st (sFz i f):=PS.imp h λD σ H b=>by
 obtain⟨ρ,F,ab,k⟩:=b
 obtain⟨g,s,d⟩:=ab.frz i
 refine⟨fz i ρ,g,d,?_⟩
 have a:Rk c E F H (f (fz i ρ)) (k9 c F D):=k
 cases q:f (fz i ρ)with
 | bad=>rw[q]at a;exact a
 | ok w=>rw[q]at a;exact k9.same s a
 | ex e=>rw[q]at a;exact a
noncomputable def sNx:Sg->R Fw:=λρ=>.ok (.nx ρ)
def aV(f g:Sg->R Fw):Sg->R Fw:=λρ=>(f ρ).bind λw=>match w with
 | .nx ρ'=>g ρ'
 | w=>.ok w
theorem dA:lY X c E [] sNx:=PSs.imp L2.dA λD σ H ⟨ρ,F,ab,k⟩=>Rk.ok k σ F H (cG F) ab
theorem aQ{f:Sg->R Fw}(h:PSf X c E st f):lY X c E [st] f:=L2.aQ h
theorem aH{f g:Sg->R Fw}(h:PSf X c E st f)(h2:lY X c E rest g):lY X c E (st::rest) (aV f g):=PSs.imp (L2.aH h h2) λD σ H d=>by
 obtain⟨ρ,F,ab,k⟩:=d
 refine⟨ρ,F,ab,(Rk.bind k).imp λw _ q=>?_⟩
 cases w with
 | nx ρ'=>
  intro l m H' s i
  refine⟨ρ',m,i,?_⟩
  have b:Rk c E F H (g ρ') (k9 c F D):=q
  cases j:g ρ' with
  | bad=>rw[j]at b;exact b
  | ok w=>rw[j]at b;exact k9.same s b
  | ex e=>rw[j]at b;exact b
 | bk ρ'=>exact q
 | ct ρ'=>exact q
 | rt a=>exact q
def bS(f:Sg->R A):Sg->R Fw:=λρ=>(f ρ).bind λa=>.ok (.rt a)
theorem bH{f:Sg->R A}(h:PV X c E e f):PSf X c E (.Return (some e) pos) (bS f):=PS.imp (L2.bH h) λD σ H ⟨ρ,F,ab,k⟩=>
 ⟨ρ,F,ab,(Rk.bind k).imp λa _ q v b H' s r=>Rk.ok q v b H' (ab.all.trans s) (AR.of r)⟩
def sIf(t:Sg->R Bool)(f g:Sg->R Fw):Sg->R Fw:=λρ=>(t ρ).bind λb=>if b=true then f ρ else g ρ
theorem Rk.fw{F a H H1:Hp}{D:lG}{r:R Fw}(s:aT F a)(k:Rk c E F H r (k9 c F D)):Rk c E a H1 r (k9 c a D):=by
 cases r with
 | bad=>exact k
 | ok w=>exact k9.same s k
 | ex e=>exact k
theorem dX{q:E1}{e d:List Stmt}{t:Sg->R Bool}{f g:Sg->R Fw}(i:PTf X c E q t)(j:lY X c E e f)(l:lY X c E d g):PSf X c E (.If q e d pos) (sIf t f g):=PS.imp (L2.dX i j l) λD σ H a=>by
 obtain⟨ρ,F,ab,k⟩:=a
 refine⟨ρ,F,ab,(Rk.bind k).imp λb _ q h H' s=>?_⟩
 cases b with
 | true=>exact aC9 ⟨ρ,h,ab.ext s,Rk.fw s.ff q⟩
 | false=>exact aC8 ⟨ρ,h,ab.ext s,Rk.fw s.ff q⟩
def bT(i:Nat)(f:Sg->R A):Sg->R Fw:=λρ=>(f ρ).bind λa=>.ok (.nx (ρ.set i (some a)))
theorem aI{i:Nat}{f:Sg->R A}(h:PS X st (nO (tV (aMP c) c E f) (lV i))):PSf X c E st (bT i f):=PS.imp h λD σ H ⟨ρ,F,ab,k⟩=>
 ⟨ρ,F,ab,(Rk.bind k).imp λa _ q v b H' s r=>Rk.ok q _ b H' s.ff ((ab.ext s).setA r)⟩
def iI(i:Nat)(f:Sg->R (List Dz)):Sg->R Fw:=λρ=>(f ρ).bind λxs=>.ok (.nx (ρ.set i (some (.l xs))))
theorem g9{i:Nat}{f:Sg->R (List Dz)}(h:PS X st (nO (tV (aAK c) c E f) (lV i))):PSf X c E st (iI i f):=PS.imp h λD σ H ⟨ρ,F,ab,k⟩=>
 ⟨ρ,F,ab,(Rk.bind k).imp λa _ q v b H' s r=>Rk.ok q _ b H' s.ff (ab.setN s r)⟩
def aOL(f:Sg->R A):Sg->R Fw:=λρ=>(f ρ).bind λ_=>.ok (.nx ρ)
theorem iL{f:Sg->R A}(h:PS X st (aCT (tV (aMP c) c E f))):PSf X c E st (aOL f):=PS.imp h λD σ H ⟨ρ,F,ab,k⟩=>
 ⟨ρ,F,ab,(Rk.bind k).imp λa _ q v b H' s r=>Rk.ok q _ b H' s.ff (ab.ext s)⟩
def lA(i:Nat)(f:Sg->R Dz):Sg->R Fw:=λρ=>match ρ[i]? with
 | some (some (.l xs))=>(f ρ).bind λx=>if xs.length < 16777216 then .ok (.nx (ρ.set i (some (.l (xs++[x])))))else .bad
 | _=>.bad
theorem lZ{i:Nat}{f:Sg->R Dz}(g:X.K=c.K)(h:PS X st (aCT (tBM X.K "list" aF9 (kK i) (eK (tV (eH c) c E f) jN)))):PSf X c E st (lA i f):=PS.imp h λD σ H ⟨ρ,F,ab,k⟩=>by
 unfold lA at k
 split at k
 .rename_i xs hi
  obtain⟨v,b,p,vs,rfl,h2,j,l,d⟩:=ab.slot i _ hi
  refine⟨_,b,.inl ⟨rfl,vs,SqL.of h2⟩,ρ,F,ab,(Rk.bind k).imp λx _ q u e H1 s1 r1=>?_⟩
  by_cases a:xs.length < 16777216
  .rw[AD a]at q
   refine⟨p,vs,u,rfl,rfl,s1.hh _ _ h2,by rw[d.length,eE];exact a,?_⟩
   exact Rk.ok q σ e _ s1.ff ((ab.ext s1).putL hi b ((d.same s1.ff).append (.cons r1 .nil)))
  .rw[AE a]at q;exact q.elim
 .exact k.elim
end
def Tg(c:Ct)(g:TG)(fs:Dz->Sg->O9 Sg)(is:List Nat):Prop:=∀ (v:V) (x:Dz) (ρ ρ':Sg) (σ:L2.St) (F H:Hp) (Q:L2.St->Hp->Prop),Ab c ρ σ F H->DatV c.K F v x->fs x ρ=some ρ'->
 (∀ σ':L2.St,σ'.length=σ.length->(∀ j:Nat,j∉is->σ'[j]? = σ[j]?)->Ab c ρ' σ' F H->Q σ' H)->g v σ H Q
noncomputable def stN(i:Nat):Dz->Sg->O9 Sg:=λx ρ=>some (ρ.set i (some (.d x)))
theorem bZ{c:Ct}(i:Nat):Tg c (lV i) (stN i) [i]:=λv x ρ f σ F H Q ab r e q=>by
 cases e
 exact q _ DC (λj b=>BT (by intro z;subst z;exact b (by simp))) (ab.setA (a:=.d x) r)
noncomputable def stL:List (Dz->Sg->O9 Sg)->List Dz->Sg->O9 Sg
 | [],[],ρ=>some ρ
 | f::fs,x::xs,ρ=>(f x ρ).bind (stL fs xs)
 | _,_,_=>none
def Tgs(c:Ct)(g:TGs)(fs:List (Dz->Sg->O9 Sg))(is:List Nat):Prop:=∀ (vs:List V) (xs:List Dz) (ρ ρ':Sg) (σ:L2.St) (F H:Hp) (Q:L2.St->Hp->Prop),Ab c ρ σ F H->DatVs c.K F vs xs->stL fs xs ρ=some ρ'->
 (∀ σ':L2.St,σ'.length=σ.length->(∀ j:Nat,j∉is->σ'[j]? = σ[j]?)->Ab c ρ' σ' F H->Q σ' H)->g vs σ H Q
theorem n9{c:Ct}:Tgs c aMB [] []:=λvs xs ρ a σ F H Q ab r e q=>by
 cases xs with
 | nil=>cases e;exact⟨by cases r;rfl,q σ rfl (λ_ _=>rfl) ab⟩
 | cons x t=>cases e
theorem fJ{c:Ct}{g:TG}{gs:TGs}{f:Dz->Sg->O9 Sg}{fs:List (Dz->Sg->O9 Sg)}{is js:List Nat}(h:Tg c g f is)(h2:Tgs c gs fs js):Tgs c (aOC g gs) (f::fs) (is++js):=λvs xs ρ a σ F H Q ab r e q=>by
 cases r with
 | nil=>cases e
 | cons r1 r2=>
  rename_i x d vs ds
  have b:(f d ρ).bind (stL fs ds)=some a:=e
  cases e1:f d ρ with
  | none=>rw[e1]at b;cases b
  | some ρ1=>
   rw[e1]at b
   refine⟨_,_,rfl,h _ _ ρ ρ1 σ F H _ ab r1 e1 λk o k1 i=>h2 _ _ ρ1 a k F H _ i r2 b λl n k2 m=>q l (n.trans o) (λj p=>?_) m⟩
   grind
noncomputable def stT(fs:List (Dz->Sg->O9 Sg)):Dz->Sg->O9 Sg:=λx ρ=>match x with
 | .tuple xs=>stL fs xs ρ
 | _=>none
theorem aGI:∀ {fs:List (Dz->Sg->O9 Sg)} {xs:List Dz} {ρ ρ':Sg},stL fs xs ρ=some ρ'->xs.length=fs.length
 | [],[],_,_,_=>rfl
 | [],_::_,_,_,h=>by cases h
 | _::_,[],_,_,h=>by cases h
 | f::fs,x::xs,ρ,ρ',h=>by
  have h':(f x ρ).bind (stL fs xs)=some ρ':=h
  cases e:f x ρ with
  | none=>rw[e]at h';cases h'
  | some ρ1=>
   rw[e]at h'
   have:=aGI (fs:=fs) (xs:=xs) h'
   grind
theorem qJ{c:Ct}{gs:TGs}{fs:List (Dz->Sg->O9 Sg)}{is:List Nat}{n:Nat}{K:Frag}(d:K=c.K)(h:Tgs c gs fs is)(f:fs.length=n):Tg c (aR6 K n gs) (stT fs) is:=λv x ρ b σ F H Q ab r e q=>by
 cases x with
 | tuple xs=>
  obtain⟨a,vs,rfl,h1,h2⟩:=r.tup_of
  subst d
  exact⟨a,vs,rfl,h1.same ab.fh,by rw[h2.length,aGI e,f],h vs xs ρ b σ F H Q ab h2 e q⟩
 | _=>cases e
structure Yld(K:Frag)(J:It)(F B:Hp)(xs:List Dz):Prop where
 len:xs.length<=sizeLine
 go:∀ (i:Nat) F1 H1,aT F F1->aT F1 H1->aT B H1->i < xs.length->J.go i H1
 yld:∀ (i:Nat) F1 H1 v H2 x,aT F F1->aT F1 H1->aT B H1->J.yld i H1 v H2->xs[i]? = some x->∃ F2,Ext F1 H1 F2 H2/\DatV K F2 v x
 stop:∀ F1 H1,aT F F1->aT F1 H1->aT B H1->J.stop xs.length H1
def tI(c:Ct)(E:XK)(f:Sg->R (List Dz)):TI:=λσ H Rr=>∃ ρ F,Ab c ρ σ F H/\Rk c E F H (f ρ) λxs=>∀ J B F' H',Ext F H F' H'->aT B H'->Yld c.K J F' B xs->Rr J H'
def tI0(c:Ct)(E:XK)(f:Sg->R (List Dz)):TI:=λσ H Rr=>∃ ρ F,Ab c ρ σ F H/\Rk c E F H (f ρ) λxs=>∀ J F' H',Ext F H F' H'->Yld c.K J F' (λ_=>none) xs->Rr J H'
theorem PI.imp{X:Cx}{tg e:E1}{t t':TI}(h:PI X tg e t)(i:∀ σ H Q,t' σ H Q->t σ H Q):PI X tg e t':=λa5 s σ H Q I q=>h a5 s σ H Q I (i σ H Q q)
abbrev PIf(X:Cx)(c:Ct)(E:XK)(tg e:E1)(f:Sg->R (List Dz)):Prop:=PI X tg e (tI c E f)
abbrev PI0(X:Cx)(c:Ct)(E:XK)(tg e:E1)(f:Sg->R (List Dz)):Prop:=PI X tg e (tI0 c E f)
theorem aII{X:Cx}{c:Ct}{E:XK}{tg e:E1}{f:Sg->R (List Dz)}(h:PI0 X c E tg e f):PIf X c E tg e f:=PI.imp h λσ H Q ⟨ρ,F,ab,k⟩=>
 ⟨ρ,F,ab,k.imp λxs _ q J a H' s y=>q J (λ_=>none) a H' s (λ_ _ z=>nomatch z) y⟩
def tR{H:Hp}:aT (λ_=>none) H:=λ_ _ z=>nomatch z
noncomputable def bE:Dz->R (List Dz)
 | .list xs=>if xs.length<=16777216 then .ok xs else .bad
 | .tuple xs=>if xs.length<=16777216 then .ok xs else .bad
 | .str z=>if z.cps.toList.length<=16777216 then .ok (z.cps.toList.map λu=>.str ⟨#[u]⟩)else .bad
 | _=>.bad
theorem aDW{K:Frag}{F B H:Hp}{a:Az}{vs:List V}{xs:List Dz}(hz:xs.length<=16777216)(g:∀ H1,aT F H1->aT B H1->SqL K H1 a vs)(f:DatVs K F vs xs):Yld K (Itl K a) F B xs where
 len:=by rw[eE];exact hz
 go:=λi c H1 h1 h2 b hi=>by
  have q:=g H1 (λx o z=>h2 x o (h1 x o z)) b
  exact⟨vs,vs[i]'(by rw[f.length];exact hi),q,by simp⟩
 yld:=λi c H1 v H2 x h1 h2 b y e=>by
  obtain⟨rfl,y⟩:=y
  have q:=y vs (g _ (λx o z=>h2 x o (h1 x o z)) b)
  obtain⟨d,e2,r⟩:=f.get q
  rw[e]at e2
  cases e2
  exact⟨c,Ext.refl h2,r.same h1⟩
 stop:=λc H1 h1 h2 b=>⟨vs,g H1 (λx o z=>h2 x o (h1 x o z)) b,by rw[f.length];exact AQ _⟩
theorem aGJ{K:Frag}{F B:Hp}{a:Az}{vs:List V}{xs:List Dz}(hz:xs.length<=16777216)(f:SqT K F a vs)(c:DatVs K F vs xs):Yld K (Itt K a) F B xs where
 len:=by rw[eE];exact hz
 go:=λi b H1 h1 h2 g hi=>by
  have q:=f.same (H':=H1) (λx o z=>h2 x o (h1 x o z))
  exact⟨vs,vs[i]'(by rw[c.length];exact hi),q,by simp⟩
 yld:=λi b H1 v H2 x h1 h2 g y e=>by
  obtain⟨rfl,y⟩:=y
  have q:=y vs (f.same (λx o z=>h2 x o (h1 x o z)))
  obtain⟨d,e2,r⟩:=c.get q
  rw[e]at e2
  cases e2
  exact⟨b,Ext.refl h2,r.same h1⟩
 stop:=λb H1 h1 h2 g=>⟨vs,f.same (λx o z=>h2 x o (h1 x o z)),by rw[c.length];exact AQ _⟩
theorem aGK{K:Frag}{F B:Hp}{z:Str}(hz:z.cps.toList.length<=16777216):Yld K (Its z) F B (z.cps.toList.map λu=>.str ⟨#[u]⟩) where
 len:=by rw[eE,AA];exact hz
 go:=λi a H1 h1 h2 b hi=>by
  rw[AA,D9]at hi
  exact hi
 yld:=λi a H1 v H2 x h1 h2 b y e=>by
  obtain⟨rfl,u,c,rfl⟩:=y
  rw[AG,GW,c]at e
  cases e
  exact⟨a,Ext.refl h2,.str _⟩
 stop:=λa H1 h1 h2 b=>by
  show(z.cps.toList.map _).length=z.cps.size
  grind
section
variable{X:Cx}{c:Ct}{E:XK}{tg e a b:E1}{pos:Pos}
theorem aMT{f:Sg->R Dz}(j:X.K=c.K)(h:PD X c E e f):PI0 X c E tg e (e1 bE f):=PI.imp (PI.or (aJZ h) (aJ3 h)) λσ H Q ⟨ρ,F,ab,k⟩=>by
 have b:=Rk.bind k
 cases a:f ρ with
 | bad=>rw[a]at b;exact b.elim
 | ex x=>rw[a]at b;exact .inl ⟨ρ,F,ab,by rw[a];exact b⟩
 | ok d=>
  rw[a]at b
  have k2:=Rk.ok b
  unfold bE at k2
  split at k2
  .rename_i xs
   split at k2
   .rename_i g
    refine .inl ⟨ρ,F,ab,?_⟩
    rw[a]
    intro v i H' s r
    obtain⟨p,vs,rfl,h1,h2⟩:=DatV.lst_of r
    refine⟨p,rfl,.inl ⟨⟨vs,?_⟩,?_⟩⟩
    · rw [j]; exact h1.same s.fh
    · rw [j]; exact Rk.ok k2 _ i H' s (aDW (H := H') g (λH1 q _ => h1.same q) h2)
   .exact k2.elim
  .rename_i xs
   split at k2
   .rename_i g
    refine .inl ⟨ρ,F,ab,?_⟩
    rw[a]
    intro v i H' s r
    obtain⟨p,vs,rfl,h1,h2⟩:=DatV.tup_of r
    refine⟨p,rfl,.inr ⟨⟨vs,?_⟩,?_⟩⟩
    · rw [j]; exact h1.same s.fh
    · rw [j]; exact Rk.ok k2 _ i H' s (aGJ g h1 h2)
   .exact k2.elim
  .rename_i z
   split at k2
   .rename_i g
    refine .inr ⟨ρ,F,ab,?_⟩
    rw[a]
    intro v i H' s r
    obtain rfl:=DatV.str_of r
    exact⟨z,rfl,Rk.ok k2 _ i H' s (aGK g)⟩
   .exact k2.elim
  .exact k2.elim
theorem lB{f:Sg->R Dz}(j:X.K=c.K)(h:PR X c E e f):PIf X c E tg e (e1 bE f):=PI.imp (PI.or (aJZ h) (aJ3 h)) λσ H Q ⟨ρ,F,ab,k⟩=>by
 have b:=Rk.bind k
 cases a:f ρ with
 | bad=>rw[a]at b;exact b.elim
 | ex x=>rw[a]at b;exact .inl ⟨ρ,F,ab,by rw[a];exact b⟩
 | ok d=>
  rw[a]at b
  have k2:=Rk.ok b
  unfold bE at k2
  split at k2
  .rename_i xs
   split at k2
   .rename_i g
    refine .inl ⟨ρ,F,ab,?_⟩
    rw[a]
    intro v i H' s r
    obtain⟨p,vs,rfl,h1,h2⟩:=bJ.lst_of s.fh r
    refine⟨p,rfl,.inl ⟨⟨vs,?_⟩,?_⟩⟩
    · grind
    · rw [j]; exact Rk.ok k2 _ H' i H' s (cG _) (aDW (H := H') g (λH1 _ q => h1.same q) h2)
   .exact k2.elim
  .rename_i xs
   split at k2
   .rename_i g
    refine .inl ⟨ρ,F,ab,?_⟩
    rw[a]
    intro v i H' s r
    obtain⟨p,vs,rfl,h1,_,h2⟩:=bJ.tup_of s.fh r
    refine⟨p,rfl,.inr ⟨⟨vs,?_⟩,?_⟩⟩
    · grind
    · rw [j]; exact Rk.ok k2 _ H' i H' s (cG _) (aGJ g h1 h2)
   .exact k2.elim
  .rename_i z
   split at k2
   .rename_i g
    refine .inr ⟨ρ,F,ab,?_⟩
    rw[a]
    intro v i H' s r
    obtain rfl:=bJ.str_of r
    exact⟨z,rfl,Rk.ok k2 _ H' i H' s (cG _) (aGK g)⟩
   .exact k2.elim
  .exact k2.elim
noncomputable def oO(lo:Int)(n:Nat):List Dz:=(List.range n).map λi:Nat=>.int (lo+i)
def oP(lo hi:Int):R (List Dz):=if -4611686018427387904<=lo/\lo < 4611686018427387904 /\ -4611686018427387904<=hi/\hi < 4611686018427387904/\hi - lo<=16777216 then .ok (oO lo (hi - lo).toNat)else .bad
def jJ(f:Sg->R Dz):Sg->R (List Dz):=λρ=>(f ρ).bind λx=>match x with
 | .int j=>oP 0 j
 | _=>.bad
theorem aKI{K:Frag}{F B:Hp}{lo:Int}{n:Nat}(hz:n<=16777216):Yld K (Itr lo n) F B (oO lo n) where
 len:=by unfold oO;rw[eE,AA,A0];exact hz
 go:=λi a H1 h1 h2 c hi=>by unfold oO at hi;rw[AA,A0]at hi;exact hi
 yld:=λi a H1 v H2 x h1 h2 c y e=>by
  obtain⟨rfl,rfl⟩:=y
  unfold oO at e
  rw[AG]at e
  cases q:(List.range n)[i]? with
  | none=>rw[q]at e;cases e
  | some j=>
   rw[q]at e
   cases e
   obtain⟨d,b⟩:=AU.mp q
   rw[FM]at b
   subst b
   exact⟨a,Ext.refl h2,.int _⟩
 stop:=λa H1 h1 h2 c=>by show n<=_;unfold oO;rw[AA,A0];exact AQ _
theorem oA{f:Sg->R Dz}(h:PI X tg e (aOD (eK (tV (cF c) c E f) jN))):PI0 X c E tg e (jJ f):=PI.imp h λσ H Q ⟨ρ,F,ab,k⟩=>by
 refine⟨ρ,F,ab,(Rk.bind k).imp λx _ q v b H' s r=>?_⟩
 cases x with
 | int j=>
  have a:Rk c E F H (oP 0 j) _:=q
  unfold oP at a
  split at a
  .rename_i d
   obtain rfl:=bJ.int_of r
   refine⟨j,rfl,by omega,by omega,?_⟩
   have e0:(j - 0).toNat=j.toNat:=by rw[Int.sub_zero]
   rw[<-e0]
   exact Rk.ok a _ b H' s (aKI (by omega))
  .exact a.elim
 | _=>exact q.elim
end
noncomputable def eJ(js:List (O9 Nat))(ρ:Sg):Sg:=js.map λo=>o.bind λj=>(ρ[j]?).join
theorem aAN{α:Type}{js:List (O9 Nat)}{ρ:List (O9 α)}{i:Nat}{a:α}(h:(js.map λo=>o.bind λj=>(ρ[j]?).join)[i]? = some (some a)):∃ j,js[i]? = some (some j)/\ρ[j]? = some (some a):=by
 rw[AG]at h
 cases e:js[i]? with
 | none=>rw[e]at h;cases h
 | some o=>
  rw[e]at h
  have h':(o.bind λj=>(ρ[j]?).join)=some a:=B5 h
  cases o with
  | none=>cases h'
  | some j=>
   grind
theorem aAO{α:Type}{js:List (O9 Nat)}{ρ:List (O9 α)}{i j:Nat}{a:α}(h:js[i]? = some (some j))(h2:ρ[j]? = some (some a)):(js.map λo=>o.bind λj=>(ρ[j]?).join)[i]? = some (some a):=by grind
def aAP(js:List (O9 Nat)):Prop:=∀ (i k j:Nat),js[i]? = some (some j)->js[k]? = some (some j)->i=k
theorem yN{js:List (O9 Nat)}(h:js.Pairwise λa b=>a=none\/a≠b):aAP js:=λi k j h1 h2=>by
 obtain⟨d,e1⟩:=AU.mp h1
 obtain⟨c,e2⟩:=AU.mp h2
 rw[ED]at h
 grind
theorem Ab.cap{c:Ct}{ρ:Sg}{σ g:L2.St}{F H:Hp}{js:List (O9 Nat)}(b:Ab c ρ σ F H)(u:aAP js)(k:fB (mQ js σ) g):Ab c (eJ js ρ) g F H where
 len:=by rw[k.1];unfold eJ mQ;rw[AA,AA]
 fh:=b.fh
 slot:=λi a h=>by
  obtain⟨j,h1,h2⟩:=aAN h
  obtain⟨v,l,t⟩:=b.slot j a h2
  exact⟨v,k.2 i v (aAO h1 l),t⟩
 apart:=λi q a p n h h' o o'=>by
  obtain⟨j,h1,h2⟩:=aAN h
  obtain⟨m,f,d⟩:=aAN h'
  have r:j≠m:=λz=>n (u i q j h1 (by rw[f,z]))
  obtain⟨v,l,_⟩:=b.slot j a h2
  obtain⟨s,e,_⟩:=b.slot m p d
  rw[k.2 i v (aAO h1 l),k.2 q s (aAO f e),<-l,<-e]
  exact b.apart j m a p r h2 d o o'
 f0:=b.f0
 h0:=b.h0
 n0:=b.n0
 t0:=b.t0
noncomputable def R.noEx{α:Type}:R α->R α
 | .ex _=>.bad
 | r=>r
@[simp] theorem R.noEx_ok{α:Type}(a:α):(R.ok a).noEx=.ok a:=id rfl
noncomputable def aDX{α:Type}:O9 α->R α
 | some a=>.ok a
 | none=>.bad
@[simp] theorem aB2{α:Type}(a:α):aDX (some a)=.ok a:=id rfl
noncomputable def compL(fs:Dz->Sg->O9 Sg)(ft:Sg->R Bool)(fe:Sg->R Dz)(ρ0:Sg):List Dz->R (List Dz)
 | []=>.ok []
 | x::t=>(aDX (fs x ρ0)).bind λρ1=>(ft ρ1).noEx.bind λb=>if b=true then(fe ρ1).noEx.bind λy=>(compL fs ft fe ρ0 t).bind λys=>.ok (y::ys)else compL fs ft fe ρ0 t
theorem rZ{fs:Dz->Sg->O9 Sg}{a:Sg->R Bool}{fe:Sg->R Dz}{ρ0:Sg}{e:Er}:∀ {xs:List Dz},compL fs a fe ρ0 xs≠.ex e
 | []=>λh=>by cases h
 | x::t=>λh=>by
  unfold compL at h
  cases h1:fs x ρ0 with
  | none=>rw[h1]at h;cases h
  | some ρ1=>
   rw[h1]at h
   have h:((a ρ1).noEx.bind λb=>if b=true then(fe ρ1).noEx.bind λy=>(compL fs a fe ρ0 t).bind λys=>.ok (y::ys)else compL fs a fe ρ0 t)=.ex e:=h
   cases h2:a ρ1 with
   | bad=>rw[h2]at h;cases h
   | ex _=>rw[h2]at h;cases h
   | ok b=>
    rw[h2]at h
    have h:(if b=true then(fe ρ1).noEx.bind λy=>(compL fs a fe ρ0 t).bind λys=>.ok (y::ys)else compL fs a fe ρ0 t)=.ex e:=h
    cases b with
    | false=>exact rZ (xs:=t) h
    | true=>
     have h:((fe ρ1).noEx.bind λy=>(compL fs a fe ρ0 t).bind λys=>.ok (y::ys))=.ex e:=h
     cases c:fe ρ1 with
     | bad=>rw[c]at h;cases h
     | ex _=>rw[c]at h;cases h
     | ok y=>
      rw[c]at h
      have h:((compL fs a fe ρ0 t).bind λys=>.ok (y::ys))=.ex e:=h
      cases d:compL fs a fe ρ0 t with
      | bad=>rw[d]at h;cases h
      | ex e'=>exact rZ (xs:=t) (e:=e') d
      | ok ys=>rw[d]at h;cases h
theorem aIJ{fs:Dz->Sg->O9 Sg}{a:Sg->R Bool}{fe:Sg->R Dz}{ρ0:Sg}{x:Dz}{t ys:List Dz}(h:compL fs a fe ρ0 (x::t)=.ok ys) :
  ∃ ρ1 b,fs x ρ0=some ρ1/\a ρ1=.ok b/\((b=true/\∃ y zs,fe ρ1=.ok y/\compL fs a fe ρ0 t=.ok zs/\ys=y::zs)\/(b=false/\compL fs a fe ρ0 t=.ok ys)):=by
 unfold compL at h
 cases h1:fs x ρ0 with
 | none=>rw[h1]at h;cases h
 | some ρ1=>
  rw[h1]at h
  have h:((a ρ1).noEx.bind λb=>if b=true then(fe ρ1).noEx.bind λy=>(compL fs a fe ρ0 t).bind λys=>.ok (y::ys)else compL fs a fe ρ0 t)=.ok ys:=h
  cases h2:a ρ1 with
  | bad=>rw[h2]at h;cases h
  | ex _=>rw[h2]at h;cases h
  | ok b=>
   rw[h2]at h
   have h:(if b=true then(fe ρ1).noEx.bind λy=>(compL fs a fe ρ0 t).bind λys=>.ok (y::ys)else compL fs a fe ρ0 t)=.ok ys:=h
   refine⟨ρ1,b,rfl,h2,?_⟩
   cases b with
   | false=>exact .inr ⟨rfl,h⟩
   | true=>
    refine .inl ⟨rfl,?_⟩
    have h:((fe ρ1).noEx.bind λy=>(compL fs a fe ρ0 t).bind λys=>.ok (y::ys))=.ok ys:=h
    cases c:fe ρ1 with
    | bad=>rw[c]at h;cases h
    | ex _=>rw[c]at h;cases h
    | ok y=>
     rw[c]at h
     have h:((compL fs a fe ρ0 t).bind λys=>.ok (y::ys))=.ok ys:=h
     cases d:compL fs a fe ρ0 t with
     | bad=>rw[d]at h;cases h
     | ex e'=>rw[d]at h;cases h
     | ok zs=>rw[d]at h;cases h;exact⟨y,zs,rfl,rfl,rfl⟩
def fK(js:List (O9 Nat))(fi:Sg->R (List Dz))(fs:Dz->Sg->O9 Sg)(ft:Sg->R Bool)(fe:Sg->R Dz):Sg->R (List Dz):=λρ=>(fi ρ).bind λxs=>compL fs ft fe (eJ js ρ) xs
noncomputable def gR:Sg->R Bool:=λ_=>.ok true
section
variable{X:Cx}{c:Ct}{E:XK}{e a b:E1}{pos:Pos}
theorem dR:L2.PIf X [] (tTf c E gR):=λa5 s σ H Q I ⟨ρ,F,ab,k⟩=>L2.dR a5 s σ H Q I (Rk.ok k F H (Ext.refl ab.fh))
theorem aMU{js:List (O9 Nat)}{is:List Nat}{σ a b:L2.St}(k:fB (mQ js σ) a)(c:b.length=a.length)(h:∀ j:Nat,j∉is->b[j]? = a[j]?)(hi:∀ i∈is,js[i]? = some none):fB (mQ js σ) b:=
 ⟨c.trans k.1,λi v e=>by
  by_cases q:i∈is
  .unfold mQ at e
   grind
  .rw[h i q];exact k.2 i v e⟩
theorem aB3{N:List Str}{js:List (O9 Nat)}{scope:Scope}{tg u:E1}{r:List E1}{Z:Sg->R (List Dz)}{fs:Dz->Sg->O9 Sg}{D:Sg->R Bool}{fe:Sg->R Dz}{is:List Nat}(ho:aAP js)(hi:∀ i∈is,js[i]? = some none)
  (hb:∀ (cl:List (Str×Az)) (C:Az) (s:S9) (H0:Hp) (fp:List Az),∃ g,PG (iP X N scope cl C s H0 fp) tg g/\Tg c g fs is/\L2.PIf (iP X N scope cl C s H0 fp) r (tTf c E0 D)/\PD (iP X N scope cl C s H0 fp) c E0 u fe)
  {σ:L2.St} {H:Hp} {Q:VK} (h:tV (aAK c) c E (fK js Z fs D fe) σ H Q):yA X N scope js tg u r (tI c E Z) σ H Q:=by
 obtain⟨ρ,F,ab,k⟩:=h
 refine⟨ρ,F,ab,(Rk.bind k).imp λxs _ q J B Y H1 s1 L G=>?_⟩
 cases A:compL fs D fe (eJ js ρ) xs with
 | bad=>rw[A]at q;exact q.elim
 | ex e=>exact absurd A rZ
 | ok ys=>
  rw[A]at q
  refine aPH (n:=xs.length) (λi b H'=>∃ F',Ext Y H1 F' H'/\b.length<=i/\∃ zs rest,DatVs c.K F' b zs/\compL fs D fe (eJ js ρ) (xs.drop i)=.ok rest/\zs++rest=ys) G.len ⟨Y,Ext.refl s1.fh,AQ _,[],ys,.nil,A,rfl⟩ ?_ ?_ ?_ ?_ ?_
  .grind
  .rintro i b H' d ⟨F',e1,_⟩
   exact G.go i F' H' e1.ff e1.fh (λa o z=>e1.hh a o (L a o z)) d
  .rintro b H' ⟨F',e1,_⟩
   exact G.stop F' H' e1.ff e1.fh (λa o z=>e1.hh a o (L a o z))
  .rintro i v b Ha Hb d ⟨F',e1,hlen,zs,rest,hd,hr,hz⟩ hy
   obtain⟨P,e2,rx⟩:=G.yld i F' Ha v Hb xs[i] e1.ff e1.fh (λa o z=>e1.hh a o (L a o z)) hy (AW d)
   have M:xs.drop i=xs[i]::xs.drop (i+1):=F5 d
   rw[M]at hr
   obtain⟨j,bb,hs,ht,f⟩:=aIJ hr
   intro cl C s H0 fp
   obtain⟨g,hg,W,O,he⟩:=hb cl C s H0 fp
   refine⟨g,_,_,hg,O,he,λx k0=>?_⟩
   have T:Ab c (eJ js ρ) x P Hb:=(ab.ext (s1.trans (e1.trans e2))).cap ho k0
   refine W v xs[i] _ j x P Hb _ T rx hs λσ1 V I m=>⟨aMU k0 V I hi,j,P,m,?_⟩
   rw[ht]
   intro F3 H3 t
   rcases f with ⟨rfl,y,ws,S,l,rfl⟩|⟨rfl,l⟩
   .refine aC9 ⟨j,F3,m.ext t,?_⟩
    rw[S]
    intro w F4 H4 e4 U
    refine⟨F4,e1.trans (e2.trans (t.trans e4)),by rw[AS,BC];omega,zs++[y],ws,(hd.same (e2.trans (t.trans e4)).ff).append (.cons U .nil),l,by rw[DZ];exact hz⟩
   .exact aC8 ⟨F3,e1.trans (e2.trans t),by omega,zs,rest,hd.same (e2.trans t).ff,l,hz⟩
  .rintro b H' ⟨F',e1,_,zs,rest,hd,hr,hz⟩ p hp
   rw[List.drop_length]at hr
   cases hr
   rw[CT]at hz
   subst hz
   exact Rk.ok q (.ref p) F' _ (s1.trans (e1.trans (Ext.own e1.fh hp))) ⟨p,b,rfl,cH (s1.trans e1).hh hp,bL,cH e1.fh hp,hd⟩
theorem eP{N:List Str}{js:List (O9 Nat)}{scope:Scope}{tg f:E1}{d:List E1}{k:Sg->R (List Dz)}{fs:Dz->Sg->O9 Sg}{j:Sg->R Bool}{fe:Sg->R Dz}{is:List Nat}(h:PE X e (yA X N scope js tg f d (tI c E k)))(l:js.Pairwise λa b=>a=none\/a≠b)(hi:∀ i∈is,js[i]? = some none)
 (m:∀ (cl:List (Str×Az)) (C:Az) (s:S9) (H0:Hp) (fp:List Az),∃ g,PG (iP X N scope cl C s H0 fp) tg g/\Tg c g fs is/\L2.PIf (iP X N scope cl C s H0 fp) d (tTf c E0 j)/\PD (iP X N scope cl C s H0 fp) c E0 f fe) :
 PN X c E e (fK js k fs j fe):=PE.imp h λσ H Q q=>aB3 (yN l) hi m q
theorem aPT{i:Nat}{st:Stmt}{N:List Str}{js:List (O9 Nat)}{scope:Scope}{tg e:E1}{d:List E1}{j:Sg->R (List Dz)}{fs:Dz->Sg->O9 Sg}{f:Sg->R Bool}{fe:Sg->R Dz}{is:List Nat}(h:PS X st (nO (yA X N scope js tg e d (tI c E j)) (lV i)))(k:js.Pairwise λa b=>a=none\/a≠b)(hi:∀ i∈is,js[i]? = some none)
 (l:∀ (cl:List (Str×Az)) (C:Az) (s:S9) (H0:Hp) (fp:List Az),∃ g,PG (iP X N scope cl C s H0 fp) tg g/\Tg c g fs is/\L2.PIf (iP X N scope cl C s H0 fp) d (tTf c E0 f)/\PD (iP X N scope cl C s H0 fp) c E0 e fe) :
 PSf X c E st (iI i (fK js j fs f fe)):=g9 (PS.imp h λD σ H q=>aB3 (yN k) hi l q)
end
noncomputable def oQ(fs:Dz->Sg->O9 Sg)(fb:Sg->R Fw):List Dz->Sg->R Fw
 | [],ρ=>.ok (.nx ρ)
 | x::t,ρ=>(aDX (fs x ρ)).bind λρ1=>(fb ρ1).bind λw=>match w with
  | .nx ρ2=>oQ fs fb t ρ2
  | .ct ρ2=>oQ fs fb t ρ2
  | .bk ρ2=>.ok (.nx ρ2)
  | .rt a=>.ok (.rt a)
def oR(fi:Sg->R (List Dz))(fs:Dz->Sg->O9 Sg)(fb:Sg->R Fw):Sg->R Fw:=λρ=>(fi ρ).bind λxs=>oQ fs fb xs ρ
section
variable{X:Cx}{c:Ct}{E:XK}{e a b:E1}{pos:Pos}{st:Stmt}
theorem gP{g:TG}{C:Sg->R (List Dz)}{fs:Dz->Sg->O9 Sg}{is:List Nat}{fb:Sg->R Fw}(I:Tg c g fs is)(h:PS X st (aR8 (tI0 c E C) g (tSf c E fb))):PSf X c E st (oR C fs fb):=PS.imp h λD σ H u=>by
 obtain⟨ρ,F,ab,k⟩:=u
 refine⟨ρ,F,ab,(Rk.bind k).imp λxs _ q J s H1 s1 A=>?_⟩
 refine⟨λi m σ H=>m=xs.length - i/\i<=xs.length/\∃ ρ' b,aT s b/\Ab c ρ' σ b H/\Rk c E b H (oQ fs fb (xs.drop i) ρ') (k9 c F D),⟨xs.length,by simp,CN _,ρ,s,cG _,ab.ext s1,Rk.ext s1 q⟩,?_⟩
 rintro i m l H2 ⟨rfl,hi,ρ2,F2,s2,ab2,k2⟩
 by_cases j:i < xs.length
 .refine .inr ⟨A.go i F2 H2 s2 ab2.fh tR j,λd H'=>∃ ρ' b,aT s b/\Ab c ρ' d b H'/\Rk c E b H' (oQ fs fb (xs.drop (i+1)) ρ') (k9 c F D),λd H' w=>⟨xs.length - (i+1),by omega,rfl,j,w⟩,λv H3 y=>?_⟩
  obtain⟨x,p,K⟩:=A.yld i F2 H2 v H3 xs[i] s2 ab2.fh tR y (AW j)
  have B:xs.drop i=xs[i]::xs.drop (i+1):=F5 j
  rw[B]at k2
  unfold oQ at k2
  cases h1:fs xs[i] ρ2 with
  | none=>rw[h1]at k2;exact k2.elim
  | some ρ3=>
   rw[h1]at k2
   refine I v xs[i] ρ2 ρ3 l x H3 _ (ab2.ext p) K h1 λL _ _ t=>⟨ρ3,x,t,?_⟩
   have k3:Rk c E F2 H2 (fb ρ3) _:=Rk.bind k2
   cases h2:fb ρ3 with
   | bad=>rw[h2]at k3;exact k3.elim
   | ex e=>rw[h2]at k3;exact k3
   | ok w=>
    rw[h2]at k3
    have n:=Rk.ok k3
    have G:aT F x:=λa o z=>p.ff a o (s2 a o (s1.ff a o z))
    cases w with
    | nx ρ4=>exact λd b H' s' f=>⟨ρ4,b,λa o z=>s' a o (p.ff a o (s2 a o z)),f,n⟩
    | ct ρ4=>exact λd b H' s' f=>⟨ρ4,b,λa o z=>s' a o (p.ff a o (s2 a o z)),f,n⟩
    | bk ρ4=>exact λd b H' s' f=>Rk.ok n d b H' (λa o z=>s' a o (G a o z)) f
    | rt a=>exact λv b H' z r=>Rk.ok n v b H' z r
 .have e:i=xs.length:=by omega
  subst e
  rw[List.drop_length]at k2
  exact .inl ⟨A.stop F2 H2 s2 ab2.fh tR,Rk.ok k2 l F2 H2 (λa o z=>s2 a o (s1.ff a o z)) ab2⟩
end
noncomputable def dF(t:Sg->R Bool)(b:Sg->R Fw):Nat->Sg->R Fw
 | 0,_=>.bad
 | n+1,ρ=>(t ρ).bind λk=>if k=true then(b ρ).bind λw=>match w with
   | .nx ρ'=>dF t b n ρ'
   | .ct ρ'=>dF t b n ρ'
   | .bk ρ'=>.ok (.nx ρ')
   | .rt a=>.ok (.rt a)
  else .ok (.nx ρ)
open Classical in
noncomputable def cT(t:Sg->R Bool)(b:Sg->R Fw):Sg->R Fw:=λρ=>if h:∃ n,dF t b n ρ≠.bad then dF t b h.choose ρ else .bad
theorem R.bind_mono{α β:Type}{r:R α}{f g:α->R β}(h:r.bind f≠.bad)(b:∀ a,f a≠.bad->g a=f a):r.bind g=r.bind f:=by
 cases r with
 | bad=>rfl
 | ex e=>rfl
 | ok a=>exact b a h
theorem nB{t:Sg->R Bool}{b:Sg->R Fw}:∀ {n m:Nat} {ρ:Sg},n<=m->dF t b n ρ≠.bad->dF t b m ρ=dF t b n ρ
 | 0,_,_,_,h=>absurd rfl h
 | n+1,0,_,hm,_=>absurd hm (by omega)
 | n+1,m+1,ρ,hm,h=>by
  unfold dF at h ⊢
  refine R.bind_mono h λk hk=>?_
  cases k with
  | false=>rfl
  | true=>
   refine R.bind_mono (r:=b ρ) hk λw c=>?_
   cases w with
   | nx ρ'=>exact nB (by omega) c
   | ct ρ'=>exact nB (by omega) c
   | bk ρ'=>rfl
   | rt a=>rfl
theorem tS{t:Sg->R Bool}{b:Sg->R Fw}{ρ:Sg}{n:Nat}(h:dF t b n ρ≠.bad):cT t b ρ=dF t b n ρ:=by
 have a:∃ n,dF t b n ρ≠.bad:=⟨n,h⟩
 unfold cT
 rw[dif_pos a]
 have c:=a.choose_spec
 rcases Nat.le_total n a.choose with q|q
 · exact nB q h
 · exact(nB q c).symm
theorem tT (t : Sg -> R Bool) (b : Sg -> R Fw) (ρ : Sg) : cT t b ρ = (t ρ).bind λk => if k = true then(b ρ).bind λw => match w with
      | .nx ρ' => cT t b ρ'
      | .ct ρ' => cT t b ρ'
      | .bk ρ' => .ok (.nx ρ')
      | .rt a => .ok (.rt a)
    else .ok (.nx ρ) := by
  have m : ∀ n, (∀ k, t ρ = .ok k -> k = true -> ∀ w, b ρ = .ok w -> ∀ ρ', (w = .nx ρ' \/ w = .ct ρ') -> cT t b ρ' = dF t b n ρ') -> dF t b (n + 1) ρ = (t ρ).bind λk => if k = true then(b ρ).bind λw => match w with
      | .nx ρ' => cT t b ρ'
      | .ct ρ' => cT t b ρ'
      | .bk ρ' => .ok (.nx ρ')
      | .rt a => .ok (.rt a)
    else .ok (.nx ρ) := by
    intro n h
    unfold dF
    cases d : t ρ with
    | bad => rfl
    | ex e => rfl
    | ok k =>
      cases k with
      | false => rfl
      | true =>
        show((b ρ).bind _) = ((b ρ).bind _)
        cases f : b ρ with
        | bad => rfl
        | ex e => rfl
        | ok w =>
          cases w with
          | nx ρ' => exact(h true d rfl _ f ρ' (.inl rfl)).symm
          | ct ρ' => exact(h true d rfl _ f ρ' (.inr rfl)).symm
          | bk ρ' => rfl
          | rt a => rfl
  by_cases l : ∃ n, dF t b n ρ ≠ .bad
  · obtain⟨n, g⟩ := l
    cases n with
    | zero => exact absurd rfl g
    | succ n =>
      rw [tS g]
      refine m n λk d p w f ρ' j => ?_
      subst p
      refine tS λz => g ?_
      unfold dF
      rw [d]
      show((b ρ).bind _) = _
      rw [f]
      rcases j with rfl | rfl
      · exact z
      · exact z
  · have o : cT t b ρ = .bad := by unfold cT; rw [dif_neg l]
    rw [o]
    have c : ∀ n, dF t b n ρ = .bad := λn => CD λz => l ⟨n, z⟩
    cases d : t ρ with
    | bad => rfl
    | ex e => have := c 1; unfold dF at this; rw [d]at this; cases this
    | ok k =>
      cases k with
      | false => have := c 1; unfold dF at this; rw [d]at this; cases this
      | true =>
        show R.bad = ((b ρ).bind _)
        cases f : b ρ with
        | bad => rfl
        | ex e => have := c 1; unfold dF at this; rw [d]at this; change ((b ρ).bind _) = _ at this; rw [f]at this; cases this
        | ok w =>
          have i : ∀ ρ', (w = .nx ρ' \/ w = .ct ρ') -> cT t b ρ' = .bad := λρ' j => by
            unfold cT
            rw [dif_neg]
            rintro ⟨n, g⟩
            refine g ?_
            have := c (n + 1)
            unfold dF at this
            rw [d]at this
            change ((b ρ).bind _) = _ at this
            rw [f]at this
            rcases j with rfl | rfl <;> exact this
          cases w with
          | nx ρ' => exact(i ρ' (.inl rfl)).symm
          | ct ρ' => exact(i ρ' (.inr rfl)).symm
          | bk ρ' => have := c 1; unfold dF at this; rw [d]at this; change ((b ρ).bind _) = _ at this; rw [f]at this; cases this
          | rt a => have := c 1; unfold dF at this; rw [d]at this; change ((b ρ).bind _) = _ at this; rw [f]at this; cases this
section
variable{X:Cx}{c:Ct}{E:XK}{st:Stmt}
theorem i4{t:Sg->R Bool}{fb:Sg->R Fw}(h:PS X st (aJM (tTf c E t) (tSf c E fb))):PSf X c E st (cT t fb):=PS.imp h λD σ H u=>by
 obtain⟨ρ,F,ab,k⟩:=u
 have y:∃ n,dF t fb n ρ≠.bad:=CD λz=>by
  have:cT t fb ρ=.bad:=by unfold cT;rw[dif_neg z]
  rw[this]at k
  exact k
 obtain⟨n,A⟩:=y
 rw[tS A]at k
 refine⟨λm σ H=>∃ ρ' d,aT F d/\Ab c ρ' σ d H/\Rk c E d H (dF t fb m ρ') (k9 c F D),⟨n,ρ,F,cG F,ab,k⟩,?_⟩
 rintro m x H1 ⟨ρ1,F1,s1,ab1,k1⟩
 cases m with
 | zero=>exact k1.elim
 | succ m=>
  unfold dF at k1
  refine⟨ρ1,F1,ab1,(Rk.bind k1).imp λb _ q s H2 e2=>?_⟩
  have j:=ab1.ext e2
  cases b with
  | false=>exact aC8 (Rk.ok q x s H2 (λa o z=>e2.ff a o (s1 a o z)) j)
  | true=>
   refine aC9 ⟨λf H'=>∃ ρ' d,aT F d/\Ab c ρ' f d H'/\Rk c E d H' (dF t fb m ρ') (k9 c F D),λf H' w=>⟨m,by omega,w⟩,ρ1,s,j,?_⟩
   have i:Rk c E F1 H1 (fb ρ1) _:=Rk.bind (r:=fb ρ1) q
   cases h2:fb ρ1 with
   | bad=>rw[h2]at i;exact i.elim
   | ex e=>rw[h2]at i;exact i
   | ok w=>
    rw[h2]at i
    have l:=Rk.ok i
    have p:aT F s:=λa o z=>e2.ff a o (s1 a o z)
    cases w with
    | nx ρ4=>exact λf d H' s' g=>⟨ρ4,d,λa o z=>s' a o (p a o z),g,l⟩
    | ct ρ4=>exact λf d H' s' g=>⟨ρ4,d,λa o z=>s' a o (p a o z),g,l⟩
    | bk ρ4=>exact λf d H' s' g=>Rk.ok l f d H' (λa o z=>s' a o (p a o z)) g
    | rt a=>exact λv d H' z r=>Rk.ok l v d H' z r
end
def spG(K:Frag)(mg:Str->O9 V9)(T F1:Hp)(n:Nat)(G:List Dz->R Dz):Sp:=λvs H Q E=>∃ F ds,aT F1 F/\aT T F/\aT F H/\DatVs K F vs ds/\ds.length=n/\match G ds with
 | .bad=>False
 | .ok d=>∀ v F' H',Ext F H F' H'->DatV K F' v d->Q v H'
 | .ex e=>∀ a C F' H',Ext F H F' H'->lX K mg F' e a C->E (.ref C) (some a) H'
def Beh(P:P9)(w:W9)(K:Frag)(mg:Str->O9 V9)(base:H9)(T:Hp)(f:Az)(F1:Hp)(k n:Nat)(G:List Dz->R Dz):Prop:=
 ∃ fd ps,ps.length=n/\kW K fd ps []/\FnOk P w K mg base (CXe P w) k f fd ps (spG K mg T F1 n G)/\(PySem.W.keepIn K (.ref f)=true\/∃ oc od fd' sl,F1 f=some (FnO f ⟨oc,od,.func fd',sl⟩))
def gOf(P:P9)(w:W9)(K:Frag)(mg:Str->O9 V9)(base:H9)(T:Hp):Gb:=⟨Beh P w K mg base T,T,w⟩
def spF(g:Gb)(K:Frag)(mg:Str->O9 V9)(n:Nat)(G:List A->R A):Sp:=λvs H Q E=>∃ F as,aT g.T F/\aT F H/\AFs g K mg F as vs/\as.length=n/\match G as with
 | .bad=>False
 | .ok a=>∀ v F' H',Ext F H F' H'->AF g K mg F' a v->Q v H'
 | .ex e=>∀ a C F' H',Ext F H F' H'->lX K mg F' e a C->E (.ref C) (some a) H'
def aS(P:P9)(w:W9)(K:Frag)(mg:Str->O9 V9)(base:H9)(T:Hp)(k:Nat)(x:Str)(ps:List Str)(G:List A->R A):Prop:=Calls P w K mg base (CXe P w) k x ps (spF (gOf P w K mg base T) K mg ps.length G)
def aY(n:Nat)(G:List A->R A)(f:Sg->R (List A)):Sg->R A:=λρ=>(f ρ).bind λas=>if as.length=n then G as else .bad
theorem bB{X:Cx}{c:Ct}{E:XK}{e:E1}{n:Nat}{G:List A->R A}{g:Gb}{K:Frag}{mg:Str->O9 V9}{f:Sg->R (List A)}(hG:g=c.g)(m:K=c.K)(t:mg=c.mg)(h:PE X e (x6 (spF g K mg n G) [] E (tAv c E f))):PV X c E e (aY n G f):=PE.imp h λσ H Q j=>by
 obtain⟨ρ,F,ab,k⟩:=j
 subst hG m t
 refine⟨ρ,F,ab,(Rk.bind k).imp λl _ q vs p H1 s1 r1=>?_⟩
 by_cases b:l.length=n
 .rw[AD b]at q
  refine⟨p,l,λa o z=>s1.ff a o (ab.f0 a o (ab.t0 a o z)),s1.fh,by rw[CT];exact r1,b,?_⟩
  cases d:G l with
  | bad=>rw[d]at q;exact q
  | ok a=>rw[d]at q;exact λv i H' s r=>Rk.ok q v i H' (s1.trans s) r
  | ex e=>rw[d]at q;exact λa C i H' s r=>q a C i H' ((ab.all.trans s1).trans s) r
 .rw[AE b]at q;exact q.elim
def fnF(n:Nat)(fb:Sg->R Fw):List A->R A:=λas=>(fb (as.map some++List.replicate (n - as.length) none)).bind λw=>match w with
 | .rt (.l _)=>.bad
 | .rt a=>.ok a
 | .nx _=>.ok (.d .none)
 | _=>.bad
theorem AFs.get{g:Gb}{K:Frag}{mg:Str->O9 V9}{F:Hp}:∀ {as:List A} {vs:List V} {i:Nat} {a:A},AFs g K mg F as vs->as[i]? = some a->∃ v,vs[i]? = some v/\AF g K mg F a v
 | [],[],_,_,_,h=>by simp at h
 | a::as,v::vs,0,_,h,e=>by simp at e;subst e;exact⟨v,rfl,h.1⟩
 | a::as,v::vs,i+1,_,h,e=>by
  obtain⟨w,h1,h2⟩:=AFs.get (i:=i) h.2 (by simpa using e)
  grind
theorem tU{α:Type}{b:List α}{n i:Nat}{a:α}(h:(b.map some++List.replicate n none)[i]? = some (some a)):b[i]? = some a:=by grind
theorem aDY{g:Gb}{c:List (Str×Az)}{cls:Str->O9 ClSt}{K:Frag}{mg:Str->O9 V9}{w:W9}{F H:Hp}{d:List A}{vs:List V}{n:Nat}(f:aT g.T F)(s:aT F H)(h:AFs g K mg F d vs):Ab ⟨K,mg,w,F,H,g,c,cls⟩ (d.map some++List.replicate (n - d.length) none) (vs.map some++List.replicate (n - vs.length) none) F H where
 len:=by rw[AS,AS,AA,AA,BQ,BQ,h.len]
 fh:=s
 slot:=λi a e=>by
  obtain⟨v,h1,h2⟩:=h.get (tU e)
  refine⟨v,?_,AO.of h2⟩
  grind
 apart:=λi j a b _ e1 _ o _=>by
  obtain⟨v,h1,h2⟩:=h.get (tU e1)
  rw[AF.notOwn h2]at o
  cases o
 f0:=cG F
 h0:=cG H
 n0:=λa e n=>absurd e n
 t0:=f
theorem qK{g:Gb}{c:List (Str×Az)}{cls:Str->O9 ClSt}{K:Frag}{mg:Str->O9 V9}{w:W9}{n:Nat}{fb:Sg->R Fw}{vs:List V}{d:List A}{F H:Hp}{Q:VK}{E:XK}(h0:aT g.T F)(h1:aT F H)(h2:AFs g K mg F d vs)(b:match fnF n fb d with
 | .bad=>False
 | .ok a=>∀ v F' H',Ext F H F' H'->AF g K mg F' a v->Q v H'
 | .ex e=>∀ a C F' H',Ext F H F' H'->lX K mg F' e a C->E (.ref C) (some a) H'):tSf ⟨K,mg,w,F,H,g,c,cls⟩ E fb {nx:=λ_ H'=>Q .non H',rt:=Q} (vs.map some++List.replicate (n - vs.length) none) H:=by
 refine⟨_,F,aDY h0 h1 h2,?_⟩
 unfold fnF at b
 cases e:fb (d.map some++List.replicate (n - d.length) none)with
 | bad=>rw[e]at b;exact b
 | ex x=>rw[e]at b;exact b
 | ok w=>
  rw[e]at b
  cases w with
  | nx ρ'=>exact λf F' H' s ab=>b .non F' H' ab.all .non
  | rt a=>
   cases a with
   | l xs=>exact b.elim
   | _=>exact b
  | bk ρ'=>exact b.elim
  | ct ρ'=>exact b.elim
section
variable{P:P9}{w:W9}{K:Frag}{mg:Str->O9 V9}{base:H9}{T:Hp}{x:Str}{st:Stmt}{N ps:List Str}{k:Nat}
theorem cE{fb:Sg->R Fw}(D:DefAt K mg x st ps)(S:FnScope N ps (aK st))
  (a:∀ (f:Az) (cdv:V9) (A:U9) (outer:List Env) (s:S9) (H F:Hp) (E:XK),Room k (A.deeper (envOfC x (aK st) s.heap.objs.size f cdv))->
   lY ((cxOf (CXe P w) P w K mg base N x (aK st) f cdv A outer s H E).fly E) ⟨K,mg,w,F,H,gOf P w K mg base T,(envOfC x (aK st) s.heap.objs.size f cdv).cells,λ_=>none⟩ E (cX st) fb):aS P w K mg base T (k+1) x ps (fnF N.length fb):=by
 refine D.okX S (λvs H Q E h=>?_) (λf cdv A outer s H vs Q E c h=>?_)
 .obtain ⟨F,e,_,_,h2,b,_⟩:=h
  rw[h2.len,b]
 .obtain ⟨F,e,d,h1,h2,b,g⟩:=h
  exact⟨_,a f cdv A outer s H F E c,qK d h1 h2 g⟩
theorem aS.imp{G a:List A->R A}(C:aS P w K mg base T k x ps G)(h:∀ as,a as≠.bad->G as=a as):aS P w K mg base T k x ps a:=Calls.imp C λvs H Q E=>by
 rintro ⟨F,as,h0,h1,h2,h3,h4⟩
 refine⟨F,as,h0,h1,h2,h3,?_⟩
 grind
end
theorem PO.imp{X:Cx}{e:O9 E1}{t t':TO}(h:PO X e t)(i:∀ σ H Q,t' σ H Q->t σ H Q):PO X e t':=λa5 s σ H Q I q=>h a5 s σ H Q I (i σ H Q q)
section
variable{X:Cx}{c:Ct}{E:XK}{e a b:E1}{pos p2:Pos}{lo hi:O9 E1}
noncomputable def tyN:Dz->String
 | .none=>"NoneType"
 | .bool _=>"bool"
 | .int _=>"int"
 | .str _=>"str"
 | .list _=>"list"
 | .tuple _=>"tuple"
 | .dict _=>"dict"
noncomputable def lD(t T:String):Bool:=t == T || (T == "int" && t == "bool")
noncomputable def oS(T:String)(x:Dz):R Dz:=match x with
 | .dict _=>.bad
 | x=>.ok (.bool (lD (tyN x) T))
structure Kit(K:Frag)(T:String):Prop where
 non:PySem.W.kitOne K (.type "NoneType") (.type T)=some (lD "NoneType" T)
 bl:PySem.W.kitOne K (.type "bool") (.type T)=some (lD "bool" T)
 int:PySem.W.kitOne K (.type "int") (.type T)=some (lD "int" T)
 str:PySem.W.kitOne K (.type "str") (.type T)=some (lD "str" T)
 lst:PySem.W.kitOne K (.type "list") (.type T)=some (lD "list" T)
 tup:PySem.W.kitOne K (.type "tuple") (.type T)=some (lD "tuple" T)
theorem aGL(K:Frag):Kit K "str":=⟨rfl,rfl,rfl,rfl,rfl,rfl⟩
theorem aMV{X:Cx}:j9 X (.builtin "isinstance") (λxs H Q=>∃ a ys c cv b,xs=[.ref a,c]/\SqL X.K H a ys/\wS c=some cv/\PySem.W.kitOne X.K (.type "list") cv=some b/\Q (.bl b) H):=by
 intro a5 s σ H xs us Q I r h
 obtain⟨a,ys,c,cv,b,rfl,i,f,e,q⟩:=h
 obtain⟨u,v,rfl,k,j⟩:=rK r
 obtain rfl:=aAE f j
 cases(show u=Value.ref a from k)
 obtain⟨g,_,d,_⟩:=I.list i
 obtain⟨o,h1,h2,_⟩:=d.isList
 exact B6 FV I.kIn ⟨o,h1,h2⟩ e (λz=>nomatch z) λl=>⟨.bl b,H,I.tok _,rfl,q⟩
def aMW(c:Ct)(T:String):List V->Hp->VK->Prop:=λxs H Q=>∃ F x v d,xs=[v,.ty T]/\aT F H/\bJ c.K F H v x/\oS T x=.ok d/\∀ w F' H',Ext F H F' H'->DatV c.K F' w d->Q w H'
theorem aDZ(g:X.K=c.K){T:String}(k:Kit X.K T):j9 X (.builtin "isinstance") (aMW c T):=by
 intro a5 s σ H xs us Q I r h
 obtain⟨F,x,v,d,rfl,a,f,e,q⟩:=h
 cases x with
 | dict _=>cases e
 | none=>
  cases e
  obtain rfl:=bJ.non_of f
  exact fG a5 s σ H _ us Q I r ⟨_,_,_,_,_,rfl,.pl .non,rfl,k.non,q _ F H (Ext.refl a) (.bl _)⟩
 | bool b=>
  cases e
  obtain rfl:=bJ.bl_of f
  exact fG a5 s σ H _ us Q I r ⟨_,_,_,_,_,rfl,.pl (.bl b),rfl,k.bl,q _ F H (Ext.refl a) (.bl _)⟩
 | int b=>
  cases e
  obtain rfl:=bJ.int_of f
  exact fG a5 s σ H _ us Q I r ⟨_,_,_,_,_,rfl,.pl (.int b),rfl,k.int,q _ F H (Ext.refl a) (.bl _)⟩
 | str b=>
  cases e
  obtain rfl:=bJ.str_of f
  exact fG a5 s σ H _ us Q I r ⟨_,_,_,_,_,rfl,.pl (.str b),rfl,k.str,q _ F H (Ext.refl a) (.bl _)⟩
 | tuple xs=>
  cases e
  obtain⟨p,vs,rfl,_,h1,h2⟩:=bJ.tup_of a f
  rw[<-g]at h1
  exact aDE a5 s σ H _ us Q I r ⟨p,vs,_,_,_,rfl,h1,rfl,k.tup,q _ F H (Ext.refl a) (.bl _)⟩
 | list xs=>
  cases e
  obtain⟨p,vs,rfl,h1,h2⟩:=bJ.lst_of a f
  rw[<-g]at h1
  exact aMV a5 s σ H _ us Q I r ⟨p,vs,_,_,_,rfl,h1,rfl,k.lst,q _ F H (Ext.refl a) (.bl _)⟩
theorem aKJ{T:String}{f:Sg->R Dz}(h:PE X e (tCB (aMW c T) (eK (tV (cF c) c E f) (eK (tC (.ty T)) jN)))):PD X c E e (e1 (oS T) f):=PE.imp h λσ H Q d=>by
 obtain⟨ρ,F,ab,k⟩:=d
 refine⟨ρ,F,ab,(Rk.bind k).imp λx _ q v b H1 s1 r1=>?_⟩
 show aMW c T [v,.ty T] H1 Q
 cases x with
 | dict _=>exact q.elim
 | none=>exact⟨b,_,v,_,rfl,s1.fh,r1,rfl,λw a H' s r=>Rk.ok q w a H' (s1.trans s) r⟩
 | bool _=>exact⟨b,_,v,_,rfl,s1.fh,r1,rfl,λw a H' s r=>Rk.ok q w a H' (s1.trans s) r⟩
 | int _=>exact⟨b,_,v,_,rfl,s1.fh,r1,rfl,λw a H' s r=>Rk.ok q w a H' (s1.trans s) r⟩
 | str _=>exact⟨b,_,v,_,rfl,s1.fh,r1,rfl,λw a H' s r=>Rk.ok q w a H' (s1.trans s) r⟩
 | list _=>exact⟨b,_,v,_,rfl,s1.fh,r1,rfl,λw a H' s r=>Rk.ok q w a H' (s1.trans s) r⟩
 | tuple _=>exact⟨b,_,v,_,rfl,s1.fh,r1,rfl,λw a H' s r=>Rk.ok q w a H' (s1.trans s) r⟩
noncomputable def aD0:Dz->Dz->R Dz
 | .str z,.str y=>match Builtin.Str.occurrences z y 0 z.length 1 with
  | i::_=>.ok (.int i)
  | []=>.bad
 | _,_=>.bad
end
noncomputable def gZ(a6:List (Dz×Dz))(k:Dz):O9 Dz:=(a6.find? λp=>decide (p.1=k)).map (·.2)
noncomputable def eB(a6:List (Dz×Dz))(k:Dz):Bool:=(gZ a6 k).isSome
noncomputable def putM(a6:List (Dz×Dz))(k v:Dz):List (Dz×Dz):=if eB a6 k=true then a6.map (λp=>if p.1=k then(p.1,v)else p)else a6++[(k,v)]
theorem aAQ{K:Frag}{F:Hp}{k:Dz}:∀ {es:List Ent} {a6:List (Dz×Dz)},es.map (·.1)=a6.map (·.1)->DatVs K F (es.map (·.2.2)) (a6.map (·.2))->
  (atE es k=none/\gZ a6 k=none)\/∃ v d,atE es k=some v/\gZ a6 k=some d/\DatV K F v d
 | [],[],_,_=>.inl ⟨rfl,rfl⟩
 | [],_::_,h,_=>by cases h
 | _::_,[],h,_=>by cases h
 | e::es,p::a6,h,r=>by
  rw[A4,A4]at h r
  injection h with h1 h2
  obtain⟨v,t,e1,r1,r2⟩:=r.cons_of
  rw[E6]at e1
  obtain⟨rfl,rfl⟩:=e1
  have a:=aAQ (k:=k) h2 r2
  unfold atE gZ at a ⊢
  grind
theorem MapRel.get{K:Frag}{F:Hp}{es:List Ent}{a:List (Dz×Dz)}(m:MapRel K F es a)(k:Dz):(atE es k=none/\gZ a k=none)\/∃ v d,atE es k=some v/\gZ a k=some d/\DatV K F v d:=aAQ m.k1 m.vs
theorem MapRel.has{K:Frag}{F:Hp}{es:List Ent}{c:List (Dz×Dz)}(m:MapRel K F es c)(k:Dz):(atE es k).isSome=eB c k:=by
 unfold eB
 rcases m.get k with ⟨a,b⟩|⟨v,d,a,b,_⟩<;>rw[a,b]<;>rfl
theorem wV{a:List (Dz×Dz)}{k:Dz}:eB a k=true↔k∈a.map (·.1):=by
 unfold eB gZ
 grind
theorem aKK{a:List (Dz×Dz)}{k v:Dz}:(putM a k v).map (·.1)=if eB a k=true then a.map (·.1)else a.map (·.1)++[k]:=by
 unfold putM
 cases h:eB a k with
 | true=>
  rw[AD rfl,AD rfl,AZ]
  refine BH λp _=>?_
  grind
 | false=>rw[AE (by decide),AE (by decide),BL];rfl
theorem aGM{K:Frag}{F:Hp}{k d:Dz}{v:V}(r:DatV K F v d):∀ {es:List Ent} {a6:List (Dz×Dz)},es.map (·.1)=a6.map (·.1)->DatVs K F (es.map (·.2.1)) (a6.map (·.1))->DatVs K F (es.map (·.2.2)) (a6.map (·.2))->
  (es.map λe=>if e.1=k then(e.1,e.2.1,v)else e).map (·.1)=(a6.map λp=>if p.1=k then(p.1,d)else p).map (·.1) /\
  DatVs K F ((es.map λe=>if e.1=k then(e.1,e.2.1,v)else e).map (·.2.1)) ((a6.map λp=>if p.1=k then(p.1,d)else p).map (·.1)) /\
  DatVs K F ((es.map λe=>if e.1=k then(e.1,e.2.1,v)else e).map (·.2.2)) ((a6.map λp=>if p.1=k then(p.1,d)else p).map (·.2))
 | [],[],_,_,_=>⟨rfl,.nil,.nil⟩
 | [],_::_,h,_,_=>by cases h
 | _::_,[],h,_,_=>by cases h
 | e::es,p::a6,h,rk,rv=>by
  rw[A4,A4]at h rk rv
  injection h with h1 h2
  obtain⟨_,_,e1,r1,r2⟩:=rk.cons_of
  rw[E6]at e1
  obtain⟨rfl,rfl⟩:=e1
  obtain⟨_,_,e1,c,f⟩:=rv.cons_of
  rw[E6]at e1
  obtain⟨rfl,rfl⟩:=e1
  obtain⟨g,b,a⟩:=aGM r h2 r2 f
  simp only[A4]
  rw[h1,g]
  by_cases q:p.1=k
  · rw [AD q, AD q]; exact⟨rfl, .cons r1 b, .cons r a⟩
  · rw [AE q, AE q]; exact⟨by rw [h1], .cons r1 b, .cons c a⟩
theorem MapRel.put{K:Frag}{F:Hp}{es:List Ent}{c:List (Dz×Dz)}{k d:Dz}{kv v:V}(m:MapRel K F es c)(g:DatV K F kv k)(r:DatV K F v d):MapRel K F (oN es k kv v) (putM c k d):=by
 have f:=m.has k
 have nd:((putM c k d).map (·.1)).Nodup:=by
  rw[aKK]
  cases h:eB c k with
  | true=>rw[AD rfl];exact m.nd
  | false=>
   rw[AE (by decide),DH]
   refine⟨m.nd,by simp,λa i b e z=>?_⟩
   rw[A8]at e
   subst e z
   rw[wV.mpr i]at h
   cases h
 unfold oN
 rw[f]
 unfold putM at nd ⊢
 cases h:eB c k with
 | true=>
  rw[h,AD rfl]at nd
  rw[AD rfl,AD rfl]
  obtain⟨l,n,j⟩:=aGM (k:=k) r m.k1 m.k2 m.vs
  exact⟨l,n,j,nd⟩
 | false=>
  rw[h,AE (by decide)]at nd
  rw[AE (by decide),AE (by decide)]
  refine⟨by rw[BL,BL,m.k1];rfl,?_,?_,nd⟩
  .rw[BL,BL];exact m.k2.append (.cons g .nil)
  .rw[BL,BL];exact m.vs.append (.cons r .nil)
theorem pG{K:Frag}{F:Hp}:∀ {es:List Ent} {a6:List (Dz×Dz)},es.map (·.1)=a6.map (·.1)->DatVs K F (es.map (·.2.1)) (a6.map (·.1))->∀ e∈es,DatV K F e.2.1 e.1
 | [],_,_,_,e,he=>by cases he
 | _::_,[],h,_,_,_=>by cases h
 | e0::es,p::a6,h,rk,e,he=>by
  rw[A4,A4]at h rk
  injection h with h1 h2
  obtain⟨_,_,e1,r1,r2⟩:=rk.cons_of
  rw[E6]at e1
  obtain⟨rfl,rfl⟩:=e1
  rcases A6.mp he with z|z
  · grind
  · exact pG h2 r2 e z
section
variable{X:Cx}{c:Ct}{E:XK}{e a b:E1}{st:Stmt}{pos:Pos}
theorem aCY{ρ:Sg}{σ:L2.St}{F H:Hp}{i:Nat}{a:List (Dz×Dz)}{k:Dz}{kv:V}(d:X.K=c.K)(h:X.w=c.w)(ab:Ab c ρ σ F H)(hi:ρ[i]? = some (some (.m a)))(l:DatV c.K F kv k)(g:eD k (a.map (·.1))=true) :
  ∃ p es,σ[i]? = some (some (.ref p))/\DicAt X H p es k kv/\MapRel c.K F es a:=by
 obtain⟨v,n,p,es,rfl,⟨f,h2⟩,o,q,b⟩:=ab.slot i _ hi
 refine⟨p,es,n,⟨⟨f,by rw[h];exact h2⟩,λe j=>by rw[d];exact(pG b.k1 b.k2 e j).same ab.fh,by rw[b.k1];exact b.nd,by rw[d];exact l.same ab.fh,by rw[b.k1];exact g⟩,b⟩
theorem aKL{ρ:Sg}{σ:L2.St}{F H:Hp}{i:Nat}{a:List (Dz×Dz)}{k:Dz}{kv:V}(d:X.K=c.K)(l:X.w=c.g.w)(ab:Ab c ρ σ F H)(hi:ρ[i]? = some (some (.f a)))(n:DatV c.K F kv k)(j:eD k (a.map (·.1))=true) :
  ∃ p es,σ[i]? = some (some (.ref p))/\DicAt X H p es k kv/\MapRel c.K F es a:=by
 obtain⟨v,o,p,es,rfl,⟨h,h2⟩,b⟩:=ab.slot i _ hi
 refine⟨p,es,o,⟨⟨h,by rw[l];exact ab.fh _ _ h2⟩,λe m=>by rw[d];exact(pG b.k1 b.k2 e m).same ab.fh,by rw[b.k1];exact b.nd,by rw[d];exact n.same ab.fh,by rw[b.k1];exact j⟩,b⟩
def aOM(w:W9):TE:=λ_ H Q=>∀ p,H p=none->Q (.ref p) (upd H p (fI w p [] 0))
theorem aAR:PE X (.Dict [] [] pos) (aOM X.w):=λa5 s σ H Q I h=>
 wpAny_Dict_empty ⟨.ref s.heap.objs.size,_,I.laid (a:=s.heap.objs.size) (o:=fI X.w s.heap.objs.size [] 0) (t':=s.toks) (λ_ _ q=>AC _ q) (AQ _)
  (lN (FG.mpr (BS (BP I.big))) ⟨_,#[],A9 _ rfl,⟨rfl,rfl,rfl⟩,rfl,.nil⟩),rfl,h _ (I.hok.fresh (AQ _))⟩
noncomputable def vC(i:Nat):Sg->R Fw:=λρ=>.ok (.nx (ρ.set i (some (.m []))))
theorem aAS{i:Nat}{w:W9}(b:w=c.w)(h:PS X st (nO (aOM w) (lV i))):PSf X c E st (vC i):=PS.imp h λD σ H ⟨ρ,F,ab,k⟩=>λp a=>by
 subst b
 exact Rk.ok k _ F _ (cG F) (ab.setM (Ext.own ab.fh a) a bL (cH ab.fh a) ⟨rfl,.nil,.nil,D4⟩)
noncomputable def wW(neg:Bool)(i:Nat)(f:Sg->R Dz):Sg->R Dz:=λρ=>(f ρ).bind λk=>match ρ[i]? with
 | some (some (.m a6))=>if eD k (a6.map (·.1))=true then .ok (.bool (if neg=true then !eB a6 k else eB a6 k))else .bad
 | some (some (.f a6))=>if eD k (a6.map (·.1))=true then .ok (.bool (if neg=true then !eB a6 k else eB a6 k))else .bad
 | _=>.bad
def aIK(X:Cx)(neg:Bool):R2:=λy x H Q=>∃ p es k,x=.ref p/\DicAt X H p es k y/\Q (.bl (if neg=true then !(atE es k).isSome else(atE es k).isSome)) H
theorem aGN(a:X.A.units+64 < cLine):OpR X (compareOp .In) (aIK X false):=by
 intro a5 s σ H y x v u Q I d c h
 obtain⟨p,es,k,rfl,D,q⟩:=h
 cases(show u=Value.ref p from c)
 exact aSX a D I d λs' b=>⟨.bl _,H,b,rfl,q⟩
theorem aMX(a:X.A.units+64 < cLine):OpR X (compareOp .NotIn) (aIK X true):=by
 intro a5 s σ H y x v u Q I d c h
 obtain⟨p,es,k,rfl,D,q⟩:=h
 cases(show u=Value.ref p from c)
 exact aPQ a D I d λs' b=>⟨.bl _,H,b,rfl,q⟩
theorem aMY{i:Nat}{a:Bool}{f:Sg->R Dz}(n:X.K=c.K)(o:X.w=c.w)(r:c.w=c.g.w){σ:L2.St}{H:Hp}{Q:VK}(h:tV (eH c) c E (wW a i f) σ H Q):tOp (aIK X a) (tV (eH c) c E f) (kK i) σ H Q:=by
 obtain⟨ρ,F,ab,k⟩:=h
 refine⟨ρ,F,ab,(Rk.bind k).imp λd _ q v l H1 s1 r1=>?_⟩
 split at q
 .rename_i b hi
  split at q
  .rename_i e
   obtain⟨p,es,j,D,m⟩:=aCY n o (ab.ext s1) hi r1 e
   refine⟨_,j,p,es,d,rfl,D,?_⟩
   rw[m.has]
   exact Rk.ok q _ l H1 s1 (.bl _)
  .exact q.elim
 .rename_i b hi
  split at q
  .rename_i e
   obtain⟨p,es,j,D,m⟩:=aKL n (o.trans r) (ab.ext s1) hi r1 e
   refine⟨_,j,p,es,d,rfl,D,?_⟩
   rw[m.has]
   exact Rk.ok q _ l H1 s1 (.bl _)
  .exact q.elim
 .exact q.elim
theorem aD1{i:Nat}{a:Bool}{f:Sg->R Dz}(b:X.K=c.K)(j:X.w=c.w)(h:PT X e (aOE (tOp (aIK X a) (tV (eH c) c E f) (kK i))))(d:c.w=c.g.w:=by rfl):PTf X c E e (e1 asB (wW a i f)):=PT.imp h λσ H Q q=>aMY b j d (aAL q)
noncomputable def vE(i:Nat)(f:Sg->R Dz):Sg->R Dz:=λρ=>match ρ[i]? with
 | some (some (.m a6))=>(f ρ).bind λk=>if eD k (a6.map (·.1))=true then match gZ a6 k with
  | some v=>.ok v
  | none=>.bad else .bad
 | some (some (.f a6))=>(f ρ).bind λk=>if eD k (a6.map (·.1))=true then match gZ a6 k with
  | some v=>.ok v
  | none=>.bad else .bad
 | _=>.bad
def aON(X:Cx)(td ty:TE):TE:=λσ H Q=>td σ H λx H1=>ty σ H1 λy H2=>∃ p es k v,x=.ref p/\DicAt X H2 p es k y/\atE es k=some v/\Q v H2
theorem aGO{o i:E1}{d ty:TE}(l:X.A.units+64 < cLine)(n:PE X o d)(hi:PE X i ty)(j:aSS i):PE X (.Subscript o i pos) (aON X d ty):=by
 intro a5 s σ H Q I h
 refine aPJ PySem.F.slot_dict_getitem.lookup j (thn (n a5 s σ H _ I h) λu s1 ⟨x,H1,f,B,m⟩=>thn (hi a5 s1 σ H1 _ f m) λE e a=>?_)
 obtain⟨y,H2,c,z,p,es,k,v,ex,D,t,q⟩:=a
 subst ex
 obtain rfl:u=Value.ref p:=B
 obtain⟨r,g⟩:=D.o
 obtain⟨⟨_,o',G,h1,h2,_⟩,_,_⟩:=(show cR X.prog X.w H2 e.heap p (fI X.w p es r)from c.hok p _ g)
 exact⟨⟨o',h1,h2.1⟩,aPR l D c z t λK J C b=>⟨v,H2,C,b,q⟩⟩
theorem aGP{i:Nat}{f:Sg->R Dz}(u:X.K=c.K)(x:X.w=c.w)(h:PE X e (aON X (kK i) (tV (eH c) c E f)))(A:c.w=c.g.w:=by rfl):PD X c E e (vE i f):=PE.imp h λσ H Q ⟨ρ,F,ab,k⟩=>by
 unfold vE at k
 split at k
 .rename_i s hi
  obtain⟨_,j,p,es,rfl,_⟩:=ab.slot i _ hi
  refine⟨_,j,ρ,F,ab,(Rk.bind k).imp λd _ q v n H1 s1 r1=>?_⟩
  split at q
  .rename_i o
   obtain⟨y,b,a,D,m⟩:=aCY u x (ab.ext s1) hi r1 o
   rw[j]at a
   cases a
   split at q
   .rename_i w r
    rcases m.get d with ⟨_,z⟩|⟨l,B,h1,h2,t⟩
    .grind
    .rw[r]at h2
     cases h2
     exact⟨p,b,d,l,rfl,D,h1,Rk.ok q l n H1 s1 t⟩
   .exact q.elim
  .exact q.elim
 .rename_i s hi
  obtain⟨_,j,p,es,rfl,_⟩:=ab.slot i _ hi
  refine⟨_,j,ρ,F,ab,(Rk.bind k).imp λd _ q v n H1 s1 r1=>?_⟩
  split at q
  .rename_i o
   obtain⟨y,b,a,D,m⟩:=aKL u (x.trans A) (ab.ext s1) hi r1 o
   rw[j]at a
   cases a
   split at q
   .rename_i w r
    rcases m.get d with ⟨_,z⟩|⟨l,B,h1,h2,t⟩
    .grind
    .rw[r]at h2
     cases h2
     exact⟨p,b,d,l,rfl,D,h1,Rk.ok q l n H1 s1 t⟩
   .exact q.elim
  .exact q.elim
 .exact k.elim
noncomputable def vF(i:Nat)(f g:Sg->R Dz):Sg->R Fw:=λρ=>(g ρ).bind λv=>match ρ[i]? with
 | some (some (.m a6))=>(f ρ).bind λk=>if eD k (a6.map (·.1))=true/\a6.length<=16777216 then .ok (.nx (ρ.set i (some (.m (putM a6 k v)))))else .bad
 | _=>.bad
def aOO(X:Cx):aHW:=λo i v H Q=>∃ p es k,o=.ref p/\DicAt X H p es k i/\es.length<=sizeLine/\∀ ep,Q (upd H p (fI X.w p (oN es k i v) ep))
theorem wX(f:X.A.units+64 < cLine):aR5 X (aOO X):=by
 intro a5 s σ H o i v e l u Q I d g j h
 obtain⟨p,es,k,rfl,D,a,q⟩:=h
 cases(show e=Value.ref p from d)
 exact aPS f D I g j a λc s' b=>⟨_,b,q c⟩
theorem aAT{i:Nat}{f g:Sg->R Dz}(z:X.K=c.K)(s:X.w=c.w)(h:PS X st (nO (tV (eH c) c E g) (aR7 (kK i) (tV (eH c) c E f) (aOO X)))):PSf X c E st (vF i f g):=PS.imp h λD σ H ⟨ρ,F,ab,k⟩=>by
 refine⟨ρ,F,ab,(Rk.bind k).imp λx _ q v t H1 s1 r1=>?_⟩
 split at q
 .rename_i o hi
  have a:=ab.ext s1
  obtain⟨_,n,p,es,rfl,_⟩:=a.slot i _ hi
  refine⟨_,n,ρ,t,a,((Rk.bind q).ext s1).imp λd _ q u A H2 l r2=>?_⟩
  have e:=a.ext l
  split at q
  .rename_i r
   obtain⟨B,j,b,y,m⟩:=aCY z s e hi r2 r.1
   rw[n]at b
   cases b
   refine⟨p,j,d,rfl,y,?_,?_⟩
   .have:j.length=o.length:=by have:=DF List.length m.k1;simpa using this
    rw[this,eE];exact r.2
   .intro C
    rw[s]
    exact Rk.ok q σ A _ (s1.trans l).ff (e.putM hi n (m.put r2 (DatV.same l.ff r1)))
  .exact q.elim
 .exact q.elim
end
theorem aMZ{K:Frag}{a:Az}{vs:List V}{xs:List Dz}(m:Mc.aAF K a vs)(h:∀ F,DatVs K F vs xs)(F:Hp):DatV K F (.ref a) (.tuple xs):=.tup (m.sq F) (h F)
section
variable{X:Cx}{c:Ct}{E:XK}{e a b:E1}{st:Stmt}{pos p2:Pos}
def aAU(fs:Dz->Sg->O9 Sg)(f:Sg->R Dz):Sg->R Fw:=λρ=>(f ρ).bind λx=>(aDX (fs x ρ)).bind λρ'=>.ok (.nx ρ')
theorem aS2{g:TG}{fs:Dz->Sg->O9 Sg}{is:List Nat}{f:Sg->R Dz}(i:Tg c g fs is)(h:PS X st (nO (tV (eH c) c E f) g)):PSf X c E st (aAU fs f):=PS.imp h λD σ H b=>by
 obtain⟨ρ,F,ab,k⟩:=b
 refine⟨ρ,F,ab,(Rk.bind k).imp λx _ q v e H1 s1 r1=>?_⟩
 cases h1:fs x ρ with
 | none=>rw[h1]at q;exact q.elim
 | some ρ'=>
  rw[h1]at q
  exact i v x ρ ρ' σ e H1 _ (ab.ext s1) r1 h1 λa _ _ d=>Rk.ok q a e H1 s1.ff d
end
theorem aS3{P:P9}{w:W9}{K:Frag}{mg:Str->O9 V9}{base:H9}{T:Hp}{x:Str}{st:Stmt}{N ps:List Str}{k:Nat}{f:Az}{fd:FuncData}{fb:Sg->R Fw}(g:Fun K x x st f fd)(S:FnScope N ps (aK st))
  (a:∀ (cdv:V9) (A:U9) (outer:List Env) (s:S9) (H F:Hp) (E:XK),Room k (A.deeper (envOfC x (aK st) s.heap.objs.size f cdv))->
   lY ((cxOf (CXe P w) P w K mg base N x (aK st) f cdv A outer s H E).fly E) ⟨K,mg,w,F,H,gOf P w K mg base T,(envOfC x (aK st) s.heap.objs.size f cdv).cells,λ_=>none⟩ E (cX st) fb):FnOk P w K mg base (CXe P w) (k+1) f fd ps (spF (gOf P w K mg base T) K mg ps.length (fnF N.length fb)):=by
 refine g.okX S (λvs H Q E h=>?_) (λcdv A outer s H vs Q E c h=>?_)
 .obtain ⟨F,e,_,_,h2,b,_⟩:=h
  rw[h2.len,b]
 .obtain ⟨F,e,d,h1,h2,b,i⟩:=h
  exact⟨_,a cdv A outer s H F E c,qK d h1 h2 i⟩
def aIL(K:Frag)(T:Hp):Sp:=λvs H Q _=>∃ (a:Az) (ns:List Int),vs=[.ref a]/\ns.length<=63/\aT T H/\SqL K H a (ns.map V.int)/\∀ H',Q (.bl true) H'
theorem aD2{K:Frag}{H:Hp}:∀ (ns:List Int),DatVs K H (ns.map V.int) (ns.map PyData.int)
 | []=>.nil
 | n::t=>.cons (.int n) (aD2 t)
theorem aS4{P:P9}{w:W9}{K:Frag}{mg:Str->O9 V9}{base:H9}{T:Hp}{k:Nat}{f:Az}{fd:FuncData}{x:Str}{G:List A->R A}(h:FnOk P w K mg base (CXe P w) k f fd [x] (spF (gOf P w K mg base T) K mg 1 G))
  (b:∀ ns:List Int,ns.length<=63->G [.d (.list (ns.map .int))]=.ok (.d (.bool true))):FnOk P w K mg base (CXe P w) k f fd [x] (aIL K T):=h.imp λvs H Q E=>by
 rintro ⟨a,ns,rfl,hn,ht,hs,q⟩
 refine⟨H,[.d (.list (ns.map .int))],ht,cG H,⟨.lst hs (aD2 ns),trivial⟩,rfl,?_⟩
 rw[b ns hn]
 intro v c H' _ r
 obtain rfl:=DatV.bl_of r
 grind
theorem aVE(P:P9)(w:W9)(H:Hp)(s:S9)(e:V9)(s':S9)(h:CXe P w [] H s (λ_ _ _=>False) e s'):False:=by
 obtain⟨_,_,_,_,_,_,_,_,_,_,_,q⟩:=h
 exact q
theorem aPU{l:PySem.W.OpenLaw}{k:Nat}{q:P9}{b:List Str}{B:(Str->O9 V9)->H9->Prop}{j:W9->H9->Prop}{d:DefRec}{K:Params->Frag}{x:Str}{qs:List (Pos×Str)}{xs:List Str}
  (i:∀ x∈xs,∃ d∈recsOf q,d.name=x) (hNT:∀ w:W9,PySem.W.noTabs (K w.params)=true)
  (t:l.most=some 63) (c:d.params.defaults=[]) (y:Room k callerA)
  (o:∀ (w:W9) (h:H9),j w h->(K w.params).In h)
  (F:∀ (w:W9) (mg:Str->O9 V9) (fa:Az) (h:H9),(K w.params).In h->h.Ns mainGlobals mg->mg d.name=some (.ref fa)->
   ∃ fd:FuncData,(∀ (s:S9) (u:V9),BindsTo s fd ⟨[u],[]⟩ [(x,u)]) /\
    ∀ (base:H9) (T:Hp),(K w.params).In base->base.Ns mainGlobals mg->aDQ mg h base T qs xs->FnOk l.prog w (K w.params) mg base (CXe l.prog w) k fa fd [x] (aIL (K w.params) T)) :
  PySem.W.WalkO q b B j l.row.toRowW d [] (λf vs=>PySem.call f vs):=
 walk_ofT (K:=K) (CX:=λw=>CXe l.prog w) (qs:=qs) (xs:=xs) i hNT t (by decide) c y o (λw mg fa h h1 h2 g=>by
  obtain⟨fd,p,n⟩:=F w mg fa h h1 h2 g
  exact⟨fd,p,λbase T h1 h2 g=>⟨_,n base T h1 h2 g,λH a r v A m=>⟨a,r,rfl,v,A,m,λ_=>rfl⟩⟩⟩) λw H s e s' z=>aVE _ w H s e s' z
variable{X:Cx}{c:Ct}{E:XK}{e:E1}
noncomputable def d2(G:Int->Int->Int):Dz->Dz->R Dz
 | .int i,.int j=>.ok (.int (G i j))
 | _,_=>.bad
noncomputable def wY(i j:Int):Int:=if j > i then j else i
noncomputable def jW(i j:Int):Int:=if j < i then j else i
theorem yO{G:Int->Int->Int}{f g:Sg->R Dz}(h0:PE X e (tCB (λxs H Q=>∃ i j,xs=[.int i,.int j]/\Q (.int (G i j)) H) (eK (tV (cF c) c E f) (eK (tV (cF c) c E g) jN)))):PD X c E e (e2 (d2 G) f g):=PE.imp h0 λσ H Q a=>by
 obtain⟨ρ,F,ab,k⟩:=a
 refine⟨ρ,F,ab,(Rk.bind k).imp λx ex q v b H1 s1 r1=>?_⟩
 refine⟨ρ,b,ab.ext s1,((Rk.bind q).ext s1).imp λy _ q u h H2 d r2=>?_⟩
 cases x with
 | int i=>
  cases y with
  | int j=>
   obtain rfl:=bJ.int_of r1
   obtain rfl:=bJ.int_of r2
   exact⟨i,j,rfl,Rk.ok q _ h H2 (s1.trans d) (.int _)⟩
  | _=>exact q.elim
 | _=>exact q.elim
end Fl
namespace L2
open PyProof.Rows
variable{X:Cx}
end L2
namespace Fl
open L2 PyProof.Rows
variable{X:Cx}{c:Ct}{E:XK}{e:E1}
variable{X:Cx}{c:Ct}{E:XK}{e:E1}{st:Stmt}
def aS5:Sg->R Fw:=λ_=>.bad
end Fl
namespace PySem
open PySem.Sem (wp)
open Builtin
theorem wZ:fillsNumberSlot (.type "tuple") "mul"=pure false:=
 fillsNumberSlot_seq (id:="tuple.__mul__") (r:=some (.builtin "tuple.__rmul__")) EU.lookup (by decide +kernel) F.slot_tuple_rmul.lookup (by decide +kernel)
theorem aD3:seqRepeat? (.type "tuple")=pure (some (.builtin "tuple.__mul__")):=by
 unfold seqRepeat?
 rw[seqSlot_of (T:="tuple") (name:="__mul__") (id:="tuple.__mul__") EU.lookup (by decide +kernel),seqSlot_of (T:="tuple") (name:="__rmul__") (id:="tuple.__rmul__") F.slot_tuple_rmul.lookup (by decide +kernel)]
 rfl
theorem pX(a:Int)(t:Tok)(l:Az)(od:O9 Az)(sl:Array (O9 V9))(items:Array V9)(n:Nat) :
  Meets (Builtin.«int.__rmul__» ⟨[.int a t,.ref l],[]⟩) (λ_ R s=>s.heap.get? l=some {cls:=.type "tuple",dict:=od,data:=.seq items n,slots:=sl}/\R (.ok (.ret Value.notImplemented)) s):=
 .of_wp λprog w A R s h=>by obtain⟨e,g,d,b,os⟩:=s;obtain⟨c,h⟩:=h;wp_walk;exact⟨_,rfl,h⟩
theorem aCO(l:Az)(od:O9 Az)(sl:Array (O9 V9))(items:Array V9)(n:Nat)(t:Tok) :
  Meets (Builtin.«tuple.__mul__» ⟨[.ref l,.int 1 t],[]⟩) (λ_ R s=>s.heap.get? l=some {cls:=.type "tuple",dict:=od,data:=.seq items n,slots:=sl}/\R (.ok (.ret (.ref l))) s):=
 .of_wp λprog w A R s h=>by obtain⟨c,g,d,a,os⟩:=s;obtain⟨b,h⟩:=h;wp_walk;exact⟨_,rfl,h⟩
theorem aAV(l:Az)(od:O9 Az)(sl:Array (O9 V9))(items:Array V9)(n:Nat)(x:Int)(t:Tok)(h1:(decide (x < -(2 ^ 63)) || decide (x>=2 ^ 63))=false)(h2:(items.isEmpty || x == 1)=false)(j:(decide (x<=0) || items.isEmpty)=false)(a:¬ items.size * x > (2 ^ 63 - 1) / 8)(i:Builtin.Tuple.tupleTooMany (items.size * x)=false)(e:((List.replicate x.toNat items).foldl (· ++ ·) #[]).size<=sizeLine) :
  Meets (Builtin.«tuple.__mul__» ⟨[.ref l,.int x t],[]⟩) (λ_ R s=>s.heap.get? l=some {cls:=.type "tuple",dict:=od,data:=.seq items n,slots:=sl}/\R (.ok (.ret (.ref s.heap.objs.size))) {s with heap:=s.heap.push {cls:=.type "tuple",data:=.seq ((List.replicate x.toNat items).foldl (· ++ ·) #[])}}):=
 .of_wp λprog w A R s h=>by
  obtain⟨f,g,d,b,os⟩:=s;obtain⟨c,h⟩:=h
  wp_walk
  refine wpAny_ite_false (A1 (by rw[h1];decide)) ?_
  wp_walk
  refine wpAny_ite_false (A1 a) ?_
  wp_walk
  exact⟨_,rfl,h⟩
end PySem
namespace L2
open PyProof.Rows
theorem aD4(vs:Array V9):∀ (n:Nat) (a7:Array V9),((List.replicate n vs).foldl (· ++ ·) a7).size=a7.size+n * vs.size
 | 0,a7=>by simp
 | n+1,a7=>by
  rw[B0,EE,aD4 vs n,Array.size_append,Nat.add_mul];omega
theorem aPV{prog:P9}{w:W9}{A:U9}{E:V9->S9->Prop}{s:S9}{l:Az}{vs:Array V9}{x:Int}{u:Tok}{Q:V9->S9->Prop}(f:IsTup s.heap l vs)(hx:1<=x)(b:vs.isEmpty=false)(hsz:x.toNat * vs.size<=1000)
  (h1:x=1->Q (.ref l) s) (h2:x≠1->Q (.ref s.heap.objs.size) {s with heap:=s.heap.push {cls:=.type "tuple",data:=.seq ((List.replicate x.toNat vs).foldl (· ++ ·) #[])}}) :
  wpAny (model prog w) A (binaryOp .Mult (.ref l) (.int x u)) Q E s:=by
 obtain⟨⟨cls,dd,data,sl⟩,a,c,n,d⟩:=id f
 simp only at c d
 subst c d
 have i:0 < vs.size:=by
  cases g:vs.size with
  | zero=>simp[Array.isEmpty,g]at b
  | succ k=>omega
 have j:x.toNat<=1000:=BR (Nat.le_mul_of_pos_right _ i) hsz
 have e:(vs.size:Int) * x=((x.toNat * vs.size:Nat):Int):=by
  have:x=((x.toNat:Nat):Int):=by omega
  rw[Int.natCast_mul,<-this,Int.mul_comm]
 refine F6 (T:="tuple") (U:="int") (by decide) ⟨_,a,rfl⟩ (λs'=>FZ s' x u) wZ F.fills_int_mul E7 aD3 F.slot_int_index.lookup
  (DQ E7 (FZ s x u) F.entry_int_rmul (F.args_int_rmul_2 _ _) (pX x u l dd sl vs n)
   ⟨a,rfl,⟨_,a,rfl⟩,?_⟩)
 by_cases h:x=1
 .subst h
  exact DQ EU ⟨_,a,rfl⟩ F.entry_tuple_mul (F.args_tuple_mul_2 _ _) (aCO l dd sl vs n u) ⟨a,h1 rfl⟩
 .exact DQ EU ⟨_,a,rfl⟩ F.entry_tuple_mul (F.args_tuple_mul_2 _ _) (aAV l dd sl vs n x u (by simp;omega) (by simp[b,h]) (by simp[b];omega) (by rw[e];omega) (by rw[e];exact A1 (by have:sizeLine=16777216:=rfl;omega)) (by rw[aD4];have:sizeLine=16777216:=rfl;have:(#[]:Array V9).size=0:=rfl;omega)) ⟨a,h2 h⟩
theorem aPW{prog:P9}{w:W9}{A:U9}{E:V9->S9->Prop}{s:S9}{t b:Az}{vs ws:List V9}{Q:V9->S9->Prop}(m:PlainL s.heap t vs.toArray)(o:PlainL s.heap b ws.toArray)
  (h2:Q (.ref s.heap.objs.size) {s with heap:=s.heap.push {cls:=.type "list",data:=.seq (vs++ws).toArray}})
  (hsz:vs.length+ws.length<=sizeLine):wpAny (model prog w) A (binaryOp .Add (.ref t) (.ref b)) Q E s:=by
 obtain⟨⟨cls,dd,data,sl⟩,n,l,i,_,j⟩:=id m
 obtain⟨⟨k,f,h,g⟩,p,c,d,_,a⟩:=id o
 simp only at i j d a
 subst i j d a
 have e:vs.toArray++ws.toArray=(vs++ws).toArray:=by simp
 refine concat_meets ⟨_,l,rfl⟩ ⟨_,c,rfl⟩ noFill_list_add seq_list_add PySem.F.slot_list_add PySem.F.entry_list_add (PySem.F.args_list_add_2 _ _)
   (list_addW t b vs.toArray ws.toArray n p dd f sl g (by rw[BK,BK];exact hsz)) ⟨l,c,?_⟩
 grind
theorem aAW(vs:List V9):∀ (n:Nat) (a7:List V9),(List.replicate n vs.toArray).foldl (· ++ ·) a7.toArray=(a7++(List.replicate n vs).flatten).toArray
 | 0,a7=>by simp
 | n+1,a7=>by
  rw[B0,EE,List.append_toArray,aAW vs n,B0,CW,DZ]
end L2
namespace Fl
open L2 PyProof.Rows
section
variable{X:Cx}{c:Ct}{E:XK}{e a b:E1}{pos:Pos}
def pH:Dz->Dz->R Dz
 | .tuple xs,.int n=>if 1<=n/\xs.isEmpty=false/\n.toNat * xs.length<=1000 then .ok (.tuple (List.replicate n.toNat xs).flatten)else .bad
 | _,_=>.bad
theorem xA{vs:List V}{its:List V9}(h:cI vs its):∀ n:Nat,cI (List.replicate n vs).flatten (List.replicate n its).flatten
 | 0=>.nil
 | n+1=>by
  rw[B0,CW,B0,CW]
  exact h.append (xA h n)
theorem tW{K:Frag}{F:Hp}{vs:List V}{xs:List Dz}(h:DatVs K F vs xs):∀ n:Nat,DatVs K F (List.replicate n vs).flatten (List.replicate n xs).flatten
 | 0=>.nil
 | n+1=>by
  rw[B0,CW,B0,CW]
  exact h.append (tW h n)
theorem aD5(B:X.K=c.K):OpR X (binaryOp .Mult) (r2D (cF c) (cF c) (eH c) pH):=by
 intro a5 s σ H v u x y Q I G E h
 obtain⟨L,H1,F,a,b,d,k,C,z,e,q⟩:=h
 unfold pH at e
 split at e
 .rename_i xs i
  split at e
  .rename_i l
   cases e
   obtain⟨A,vs,rfl,D,n,j⟩:=bJ.tup_of k C
   obtain rfl:=bJ.int_of z
   rw[<-B]at n
   cases G
   obtain⟨t,rfl⟩:=E
   obtain⟨g,r,w,M⟩:=I.tuple n
   have f:g.length=xs.length:=by rw[<-r.length,j.length]
   refine aPV w l.1 ?_ (by rw[BK,f];exact l.2.2) (λh1=>?_) (λh1=>?_)
   .grind
   .subst h1
    refine⟨.ref A,H,I,rfl,q _ F H (Ext.refl k) ?_⟩
    have:(List.replicate (1:Int).toNat xs).flatten=xs:=by
     grind
    rw[this]
    exact .tup D j
   .have m:=aAW g i.toNat []
    rw[BZ]at m
    rw[show(#[]:Array V9)=([]:List V9).toArray from rfl,m]
    have p:=I.fresh
    refine⟨.ref s.heap.objs.size,_,I.laid (t':=s.toks) (o:=.tup (List.replicate i.toNat vs).flatten) (λb J q=>AC _ q) (AQ _) ?_,rfl,q _ _ _ (Ext.new k p) (.tup (SqT.of bL) ((tW j _).same (aT.upd (cH k p))))⟩
    refine⟨?_,_,xA r _,nI.new _ _⟩
    rw[aGA,j.length]
    have:sizeLine=16777216:=rfl
    omega
  .cases e
 .cases e
theorem yP:fS pH:=by
 intro a b e h
 unfold pH at h
 grind
noncomputable def i5:Dz->Dz->R (List Dz)
 | .list xs,.list ys=>if xs.length+ys.length<=sizeLine then .ok (xs++ys)else .bad
 | _,_=>.bad
theorem aPX(r:X.K=c.K):OpR X (binaryOp .Add) (r2D (cF c) (cF c) (aAK c) i5):=by
 intro a5 s σ H v u x y Q I B z h
 obtain⟨D,H1,F,a,b,d,g,w,p,e,q⟩:=h
 unfold i5 at e
 split at e
 .rename_i xs ys
  split at e
  .rename_i t
   cases e
   obtain⟨C,vs,rfl,j,k⟩:=bJ.lst_of g w
   obtain⟨E,us,rfl,l,n⟩:=bJ.lst_of g p
   rw[<-r]at j l
   cases B
   cases z
   obtain⟨A,r1,o,_⟩:=I.list j
   obtain⟨m,r2,p2,_⟩:=I.list l
   have f:vs.length+us.length<=sizeLine:=by rw[k.length,n.length];exact t
   have i:=I.fresh
   refine aPW o p2 ?_ (by rw[<-r1.length,<-r2.length];exact f)
   exact⟨.ref _,_,I.lnew (t':=s.toks) (r1.append r2) (by rw[AS];exact f),rfl,q _ F _ (Ext.own g i) ⟨_,_,rfl,i,bL,cH g i,k.append n⟩⟩
  .cases e
 .cases e
theorem aKM:fS i5:=by
 intro a b e h
 unfold i5 at h
 grind
theorem yQ(f:X.K=c.K){d fb:Sg->R Dz}(e:PR X c E a d)(g:PR X c E b fb):PN X c E (.BinOp a .Add b pos) (e2 i5 d fb):=
 PE.imp (aHZ (aPX f) e g) λσ H Q h=>tV2 yM aKM (tQ c) (aVD c) h
end
theorem aF7{H:Hp}{p:Az}{a b:HO}:upd (upd H p a) p b=upd H p b:=by
 funext x
 by_cases q:x=p
 · subst q; rw [bL, bL]
 · rw [aW q, aW q, aW q]
section
variable{X:Cx}{a5:List (Az×Obj)}{σ:L2.St}{H:Hp}{s:S9}{a:Az}{es:List Ent}{k:Dz}{kv v:V}{ku u:V9}{A:U9}{E:V9->S9->Prop}
theorem aIM{A:U9}(a:A.units+64 < cLine):(k7 X.prog X.w).room A:=by show A.units+9 < cLine;omega
theorem aPY{Q:Unit->S9->Prop}(B:A.units+64 < cLine)(D:DicAt X H a es k kv)(I:Inv X a5 σ H s)(C:bO kv ku)(t:bO v u)(hz:es.length<=sizeLine)(h:∀ ep s',Inv X a5 σ (upd H a (fI X.w a (oN es k kv v) ep)) s'->Q () s') :
  wpAny (model X.prog X.w) A (dictSet a ku u) Q E s:=by
 obtain⟨x,⟨b,xs,rfl,rfl,d,q,dd⟩|⟨F,xs,rfl,rfl,d,q,dd⟩⟩:=D.cases I C
 .have p:xs.length<=sizeLine:=by rw[<-Paired.length d];exact hz
  refine wpAny_dictSet_heap (a:=b) (aIM B) q dd (λh' c j=>?_) p
  obtain⟨e,i,ep,f,h2,r,l,_,y⟩:=c
  obtain⟨m,g⟩:=D.o
  refine h ep _ (n4 I (by rw[g];exact True.intro) j ⟨e,f⟩ (lN x ⟨e,i,f,h2,r,?_⟩))
  rw[l]
  exact rQ (aIC t d)
 .have p:xs.length<=sizeLine:=by rw[<-Paired.length d];exact hz
  refine wpAny_dictSet_pairs q dd (λh' c j=>?_) p
  obtain⟨e,i,ep,f,h2,r,l,y,_⟩:=c
  obtain⟨m,g⟩:=D.o
  refine h ep _ (n4 I (by rw[g];exact True.intro) j ⟨e,f⟩ (lN x ⟨e,i,f,h2,r,?_⟩))
  exact rR (aID t d) y λz n=>l z (by simpa using n)
end
abbrev TP:=L2.St->Hp->(List (V×V)->Hp->Prop)->Prop
def aS6(p:V×V)(u:V9×V9):Prop:=bO p.1 u.1/\bO p.2 u.2
def PPr(X:Cx)(keys:List (O9 E1))(vals:List E1)(t:TP):Prop:=∀ (pos:Pos) (a5:List (Az×Obj)) (s:S9) (σ:L2.St) (H:Hp) (Q:List (V×V)->Hp->Prop),Inv X a5 σ H s->t σ H Q->
 wpAny (model X.prog X.w) X.A (evalPairs (pairTrees keys vals X.env pos)) (λvs s'=>∃ ps H',Inv X a5 σ H' s'/\Paired aS6 ps vs/\Q ps H') X.xe s
def aVF:TP:=λ_ H Q=>Q [] H
def aS7(tk tv:TE)(t:TP):TP:=λσ H Q=>tk σ H λx H1=>tv σ H1 λy H2=>t σ H2 λps H3=>Q ((x,y)::ps) H3
section
variable{X:Cx}{c:Ct}{E:XK}{e a b:E1}{st:Stmt}{pos:Pos}
theorem aS8:PPr X [] [] aVF:=λpos a5 s σ H Q I h=>evalPairs_nil ⟨[],H,I,.nil,h⟩
theorem aPZ{k v:E1}{c:List (O9 E1)}{vs:List E1}{d b:TE}{t:TP}(o:PE X k d)(l:PE X v b)(i:PPr X c vs t):PPr X (some k::c) (v::vs) (aS7 d b t):=by
 intro pos a5 s σ H Q I h
 rw[pairTrees.eq_1]
 refine evalPairs_cons (thn (o a5 s σ H _ I h) λku s1 a=>?_)
 obtain⟨x,H1,f,r1,g⟩:=a
 refine AB (thn (l a5 s1 σ H1 _ f g) λu e a=>?_)
 obtain⟨y,H2,n,r2,j⟩:=a
 refine AB (DE (AM ?_))
 exact thn (i pos a5 e σ H2 _ n j) λvs r ⟨ps,H3,p,m,q⟩=>⟨(x,y)::ps,H3,p,.cons ⟨r1,r2⟩ m,q⟩
noncomputable def jX:List (Dz×Dz)->List (Dz×Dz)->R (List (Dz×Dz))
 | a7,[]=>.ok a7
 | a7,(k,v)::t=>if eD k (a7.map (·.1))=true/\a7.length<=16777216 then jX (putM a7 k v) t else .bad
def aM0(K:Frag)(F:Hp)(p:V×V)(d:Dz×Dz):Prop:=DatV K F p.1 d.1/\DatV K F p.2 d.2
theorem aKN{a5:List (Az×Obj)}{σ:L2.St}{p:Az}{F:Hp}(C:X.A.units+64 < cLine)(b:List (Dz×Dz)):∀ (ps:List (V×V)) (vs:List (V9×V9)) (a7 res:List (Dz×Dz)) (es:List Ent) (ep:Nat) (H:Hp) (s:S9) (Q:S9->Prop),
  Inv X a5 σ H s->aT F H->F p=none->H p=some (fI X.w p es ep)->MapRel X.K F es a7->Paired (aM0 X.K F) ps b->Paired aS6 ps vs->jX a7 b=.ok res->
  (∀ es' ep' s',Inv X a5 σ (upd H p (fI X.w p es' ep')) s'->MapRel X.K F es' res->Q s')->wpAny (model X.prog X.w) X.A (storeAll p vs) (λ_ s=>Q s) X.xe s:=by
 induction b with
 | nil=>
  intro ps vs a7 res es ep H s Q I f h g m d r e q
  cases d
  cases r
  cases e
  have c:storeAll p []=pure PUnit.unit:=by unfold storeAll;rw[FJ]
  rw[c]
  refine AM (q es ep s ?_ m)
  have:upd H p (fI X.w p es ep)=H:=by
   funext x
   by_cases z:x=p
   .subst z;rw[bL,g]
   .rw[aW z]
  grind
 | cons kv t ih=>
  obtain⟨k,v⟩:=kv
  intro ps vs a7 res es ep H s Q I f h g m d r e q
  cases d with
  | @cons x _ ps _ d ds=>
   cases r with
   | @cons _ u _ vs r rs=>
    unfold jX at e
    split at e
    .rename_i c
     have D:DicAt X H p es k x.1:=⟨⟨ep,g⟩,λe E=>(pG m.k1 m.k2 e E).same f,by rw[m.k1];exact m.nd,d.1.same f,by rw[m.k1];exact c.1⟩
     have G:es.length<=sizeLine:=by
      have:es.length=a7.length:=by simpa using congrArg List.length m.k1
      rw[this,eE];exact c.2
     have n:storeAll p (u::vs)=(do dictSet p u.1 u.2;storeAll p vs):=by
      unfold storeAll
      simp_all
     rw[n]
     refine AB (aPY C D I r.1 r.2 G λj s' y=>?_)
     have L:=m.put d.1 d.2
     have l:aT F (upd H p (fI X.w p (oN es k x.1 x.2) j)):=λa o z=>by rw[aW (bQ z h)];exact f a o z
     refine ih ps vs _ res _ _ _ s' Q y l h bL L ds rs e λes' ep' J i B=>?_
     rw[aF7]at i
     grind
    .cases e
def aOP(X:Cx)(tp:TP):TE:=λσ H Q=>∀ p,H p=none->tp σ (upd H p (fI X.w p [] 0)) λps H2=>∃ (F:Hp) (a6 res:List (Dz×Dz)),aT F H2/\F p=none/\H2 p=some (fI X.w p [] 0)/\Paired (aM0 X.K F) ps a6/\jX [] a6=.ok res /\
 ∀ es' ep',MapRel X.K F es' res->Q (.ref p) (upd H2 p (fI X.w p es' ep'))
theorem aP0{b:List (O9 E1)}{c:List E1}{l:TP}(u:X.A.units+64 < cLine)(h:PPr X b c l)(h1:(b.all λx=>x.isSome)=true:=by rfl)(h2:b.length=c.length:=by rfl)(h3:b≠[]:=by exact λz=>nomatch z)(h4:b.length<=15:=by decide):PE X (.Dict b c pos) (aOP X l):=by
 intro a5 s σ H Q I q
 have t:=I.laid (a:=s.heap.objs.size) (o:=fI X.w s.heap.objs.size [] 0) (t':=s.toks) (λ_ _ q=>AC {cls:=.type "dict",data:=.dict #[]} q) (AQ _)
  (lN (FG.mpr (BS (BP I.big))) ⟨_,#[],A9 _ rfl,⟨rfl,rfl,rfl⟩,rfl,.nil⟩)
 have C:=q _ (I.hok.fresh (AQ _))
 refine wpAny_Dict_any h1 h2 h3 h4 (thn (h pos a5 _ σ _ _ t C) λvs n f=>?_)
 obtain⟨ps,H2,D,r,F,i,g,y,B,v,d,e,z⟩:=f
 exact aKN u i ps vs [] g [] 0 H2 n _ D y B v ⟨rfl,.nil,.nil,D4⟩ d r e λk j s' p m=>⟨.ref s.heap.objs.size,_,p,rfl,z k j m⟩
def aS9(c:Ct)(E:XK)(f:Sg->R (List (Dz×Dz))):TP:=λσ H Q=>∃ ρ F,Ab c ρ σ F H/\Rk c E F H (f ρ) λa6=>∀ ps F' H',Ext F H F' H'->Paired (aM0 c.K F') ps a6->Q ps H'
abbrev PPf(X:Cx)(c:Ct)(E:XK)(keys:List (O9 E1))(vals:List E1)(f:Sg->R (List (Dz×Dz))):Prop:=PPr X keys vals (aS9 c E f)
theorem PPr.imp{X:Cx}{a:List (O9 E1)}{vs:List E1}{t t':TP}(h:PPr X a vs t)(i:∀ σ H Q,t' σ H Q->t σ H Q):PPr X a vs t':=λpos a5 s σ H Q I q=>h pos a5 s σ H Q I (i σ H Q q)
noncomputable def aM1:Sg->R (List (Dz×Dz)):=λ_=>.ok []
def aIN(f g:Sg->R Dz)(r:Sg->R (List (Dz×Dz))):Sg->R (List (Dz×Dz)):=λρ=>(f ρ).bind λx=>(g ρ).bind λy=>(r ρ).bind λt=>.ok ((x,y)::t)
theorem aP1:PPf X c E [] [] aM1:=PPr.imp aS8 λσ H Q ⟨ρ,F,ab,k⟩=>Rk.ok k [] F H (Ext.refl ab.fh) .nil
theorem aM2{k v:E1}{e:List (O9 E1)}{vs:List E1}{f g:Sg->R Dz}{r:Sg->R (List (Dz×Dz))}(n:PD X c E k f)(l:PD X c E v g)(i:PPf X c E e vs r):PPf X c E (some k::e) (v::vs) (aIN f g r):=PPr.imp (aPZ n l i) λσ H Q d=>by
 obtain⟨ρ,F,ab,k⟩:=d
 refine⟨ρ,F,ab,(Rk.bind k).imp λx _ q v h H1 s1 r1=>?_⟩
 refine⟨ρ,h,ab.ext s1,((Rk.bind q).ext s1).imp λy _ q u j H2 a r2=>?_⟩
 refine⟨ρ,j,ab.ext (s1.trans a),((Rk.bind q).ext (s1.trans a)).imp λt _ q ps o H3 b m=>?_⟩
 exact Rk.ok q _ o H3 ((s1.trans a).trans b) (.cons ⟨DatV.same (a.trans b).ff r1,DatV.same b.ff r2⟩ m)
noncomputable def aIO(i:Nat)(f:Sg->R (List (Dz×Dz))):Sg->R Fw:=λρ=>(f ρ).bind λa6=>(jX [] a6).bind λres=>.ok (.nx (ρ.set i (some (.m res))))
theorem aB4:∀ (a6 a7:List (Dz×Dz)) (x:Er),jX a7 a6≠.ex x
 | [],a7,x,h=>by cases h
 | (k,v)::t,a7,x,h=>by
  unfold jX at h
  split at h
  · exact aB4 t _ x h
  · cases h
theorem aP2{i:Nat}{f:Sg->R (List (Dz×Dz))}(t:X.K=c.K)(y:X.w=c.w)(h:PS X st (nO (aOP X (aS9 c E f)) (lV i))):PSf X c E st (aIO i f):=PS.imp h λD σ H ⟨ρ,F,ab,k⟩=>λp j=>by
 have e1:=Ext.own (F:=F) (o:=fI X.w p [] 0) ab.fh j
 refine⟨ρ,F,ab.ext e1,((Rk.bind k).ext e1).imp λd _ q ps g H2 b r2=>?_⟩
 have r:g p=none:=b.stay (cH ab.fh j) bL (λ_ z=>aDU z)
 have h2:H2 p=some (fI X.w p [] 0):=b.hh _ _ bL
 cases e:jX [] d with
 | bad=>rw[e]at q;exact q.elim
 | ex x=>exact absurd e (aB4 _ _ _)
 | ok res=>
  rw[e]at q
  refine⟨g,d,res,b.fh,r,h2,by rw[t];exact r2,e,λs l m=>?_⟩
  have v:Ext F H g (upd H2 p (fI X.w p s l)):=by
   refine⟨λa o z=>?_,b.ff,λa o z=>?_,λa z n=>?_⟩
   .have u:a≠p:=bQ z j
    rw[aW u]
    exact b.hh a o (by rw[aW u];exact z)
   .rw[aW (bQ z r)];exact b.fh a o z
   .have:=b.nw a z n
    by_cases w:a=p
    · grind
    · unfold pC at this; rw [aW w]at this; exact this
  rw[y]at v ⊢
  rw[t]at m
  exact Rk.ok q _ g _ b.ff (ab.setM v j bL r m)
end
end Fl
namespace L2
open PySem.Spec PyProof.Rows
def aTA(X:Cx)(T:String)(r:V->List V->Hp->VK->Prop)(to:TE)(t:TA):TE:=λσ H Q=>to σ H λx H1=>(∀ (a5:List (Az×Obj)) (s:S9) (v:V9),Inv X a5 σ H1 s->bO x v->s.TypeIs v T/\∀ a,v=.ref a->∃ ob,s.heap.get? a=some ob/\ob.dict=none)/\t σ H1 λxs H2=>r x xs H2 Q
theorem aTB{X:Cx}{o e:E1}{es:List E1}{to:TE}{t:TA}{name:Str}{apos cpos:Pos}{T id:String}{r:V->List V->Hp->VK->Prop}(g:PlainAttrs T)(slot:Slot T name id)(c:typeOf (.builtin id)=pure (.type "method_descriptor"))(k:MtR X id r)(n:PE X o to)(j:PA X (e::es) t)
  (a:attributeBase o name X.env (eval o X.env)=eval o X.env:=by rfl)
  (hfew:((backTo cpos (starEach (e::es) X.env)).all (λx=>!x.1) && (backToKw cpos (keywordEach [] X.env)).all (λx=>x.1.isSome)
   && decide ((e::es).length+([]:List Keyword).length+(if ([]:List Keyword).isEmpty then 0 else 1) < 30))=true:=by rfl)
  (hline:(apos.endLine == cpos.line)=true:=by rfl) (hs:starEach (e::es) X.env=(false,eval e X.env)::starEach es X.env:=by rfl) (hplain:(backTo cpos (starEach es X.env)).any (·.1)=false:=by rfl) :
  PE X (.Call (.Attribute o name apos) (e::es) [] cpos) (aTA X T r to t):=by
 intro a5 s σ H Q I h
 refine GT a hfew hline rfl (thn (n a5 s σ H _ I h) λv s1 b=>?_)
 obtain⟨x,H1,d,r1,l,m⟩:=b
 obtain⟨h1,h2⟩:=l a5 s1 v d r1
 refine⟨T,id,g,slot,c,h1,h2,?_⟩
 have f:=j cpos a5 s1 σ H1 _ d m
 rw[hs]at f ⊢
 refine GU (by show(false || (backTo cpos (starEach es X.env)).any (·.1))=false;rw[hplain]<;>rfl) (Calls.evalArgs_plain ?_)
 exact thn f λus i ⟨vs,H2,q,r2,p⟩=>k a5 i σ H2 x vs v us Q q r1 r2 p
end L2
namespace Fl
open L2 PyProof.Rows
theorem Ab.off'{c:Ct}{ρ:Sg}{σ:L2.St}{F H:Hp}(b:Ab c ρ σ F H)(i:Nat):Ab c (ρ.set i none) (σ.set i none) F H where
 len:=by rw[DC,DC];exact b.len
 fh:=b.fh
 slot:=λj a h=>by
  rcases get_set h with ⟨e,q,o⟩|⟨l,q⟩
  .cases q
  .obtain ⟨v,h1,h2⟩:=b.slot j a q
   grind
 apart:=λj k a m g h1 h2 n r=>by
  rcases get_set h1 with ⟨e,q,o⟩|⟨l,q⟩
  .cases q
  .rcases get_set h2 with ⟨s,d,p⟩|⟨f,d⟩
   .cases d
   .rw[BT l,BT f]
    exact b.apart j k a m g q d n r
 f0:=b.f0
 h0:=b.h0
 n0:=b.n0
 t0:=b.t0
noncomputable def aM3(i:Nat):Fw->Fw
 | .nx ρ=>.nx (ρ.set i none)
 | .bk ρ=>.bk (ρ.set i none)
 | .ct ρ=>.ct (ρ.set i none)
 | .rt a=>.rt a
def qL(K:Frag)(mg:Str->O9 V9)(Wc:Az)(cl:List Str):Prop:=∀ nm∈cl,∃ C bm,mg nm=some (.ref C)/\SX.ExcAny K C bm/\(Value.ref C::bm).contains (.ref Wc)=true
section
variable{X:Cx}{c:Ct}{E:XK}
end
def Is1(K:Frag)(mg:Str->O9 V9)(nm q:Str)(b:Bool):Prop:=∃ D C,mg q=some (.ref D)/\mg nm=some (.ref C)/\PySem.W.kitOne K (.ref C) (.ref D)=some b
def pY(K:Frag)(mg:Str->O9 V9)(nm:Str)(T:String)(b:Bool):Prop:=∃ C,mg nm=some (.ref C)/\PySem.W.kitOne K (.ref C) (.type T)=some b
section
variable{X:Cx}{c:Ct}{E:XK}{e:E1}{P:P9}{w:W9}{base:H9}
theorem aKO{K:Frag}{t:V9}{a b:V9}(h1:PySem.W.kitOne K t a=some false)(h2:PySem.W.kitOne K t b=some false):PySem.W.kitAny K t [a,b]=some false:=by
 simp[PySem.W.kitAny,h1,h2]
def aAX(P:P9)(w:W9)(K:Frag)(mg:Str->O9 V9)(base:H9)(T:Hp)(k:Nat)(x:Str)(ps:List Str)(G:List A->R A):Prop:=aDF P w K mg base k x ps (spF (gOf P w K mg base T) K mg ps.length G)
theorem aP3{K:Frag}{mg:Str->O9 V9}{x:Str}{st:Stmt}{N ps:List Str}{k:Nat}{fb:Sg->R Fw}(D:DefAt K mg x st ps)(S:FnScope N ps (aK st))
  (a:∀ (f:Az) (cdv:V9) (A:U9) (outer:List Env) (s:S9) (H F:Hp),RoomH k (A.deeper (envOfC x (aK st) s.heap.objs.size f cdv))->
   lY (yE P w K mg base N x (aK st) f cdv A outer s H) ⟨K,mg,w,F,H,gOf P w K mg base T,(envOfC x (aK st) s.heap.objs.size f cdv).cells,λ_=>none⟩ E0 (cX st) fb):aAX P w K mg base T (k+1) x ps (fnF N.length fb):=by
 refine D.okH S (λvs H Q E h=>?_) (λf cdv A outer s H vs Q c h=>?_)
 .obtain ⟨F,e,_,_,h2,b,_⟩:=h
  rw[h2.len,b]
 .obtain ⟨F,e,d,h1,h2,b,g⟩:=h
  exact⟨_,a f cdv A outer s H F c,qK d h1 h2 g⟩
def noX:R A->R A
 | .ex _=>.bad
 | r=>r
def yR(n:Nat)(G:List A->R A)(f:Sg->R (List A)):Sg->R A:=λρ=>(f ρ).bind λas=>if as.length=n then noX (G as)else .bad
theorem aTC{n:Nat}{G:List A->R A}{g:Gb}{K:Frag}{mg:Str->O9 V9}{f:Sg->R (List A)}(hG:g=c.g)(l:K=c.K)(t:mg=c.mg)(h:PE X e (x6 (spF g K mg n G) [] E0 (tAv c E f))):PV X c E e (yR n G f):=PE.imp h λσ H Q i=>by
 obtain⟨ρ,F,ab,k⟩:=i
 subst hG l t
 refine⟨ρ,F,ab,(Rk.bind k).imp λj _ q vs m H1 s1 r1=>?_⟩
 by_cases b:j.length=n
 .rw[AD b]at q
  refine⟨m,j,λa o z=>s1.ff a o (ab.f0 a o (ab.t0 a o z)),s1.fh,by rw[CT];exact r1,b,?_⟩
  cases d:G j with
  | bad=>rw[d]at q;exact q
  | ok a=>rw[d]at q;exact λv p H' s r=>Rk.ok q v p H' (s1.trans s) r
  | ex e=>rw[d]at q;exact q.elim
 .rw[AE b]at q;exact q.elim
end
theorem aGQ:bootBuiltins "ValueError"=some (.type "ValueError"):=by rfl
end Fl
namespace L2
open PySem.Spec PyProof.Rows
theorem cR.got{P:P9}{w:W9}{H:Hp}{h:H9}{a:Az}{o:HO}(x:cR P w H h a o):∃ u,h.get? a=some u:=by
 cases o with
 | lst xs=>obtain⟨_,_,_,_,e⟩:=x;exact⟨_,e⟩
 | tup xs=>obtain⟨_,_,_,⟨o,e,_⟩⟩:=x;exact⟨_,e⟩
 | dK a6=>obtain⟨_,_,_,_,o,_,_,e,_⟩:=x;exact⟨_,e⟩
 | dT a6=>obtain⟨_,_,_,_,o,_,_,e,_⟩:=x;exact⟨_,e⟩
 | set S n=>obtain⟨o,_,_,_,e,_⟩:=x;exact⟨_,e⟩
 | ins C dx fs=>obtain⟨_,_,_,e,_⟩:=x;exact⟨_,e⟩
 | own y=>exact x
 | xd fs=>obtain⟨_,⟨_,_,_,e,_⟩,_⟩:=x;exact⟨_,e⟩
 | rng lo hi=>obtain⟨_,_,_,e⟩:=x;exact⟨_,e⟩
 | frz ob u=>exact⟨_,x.1⟩
 | tbl ps=>obtain⟨_,e,_⟩:=x;exact⟨_,e⟩
 | cod q=>obtain⟨c,o,vs,t,e,b,_⟩:=x;cases e;exact⟨_,b⟩
 | met f y=>exact⟨_,x⟩
 | ext φ=>exact x.2.1
theorem HOk.free{P:P9}{w:W9}{H:Hp}{h:H9}{a:Az}(x:HOk P w H h)(e:h.get? a=none):H a=none:=by
 cases q:H a with
 | none=>rfl
 | some u=>
  obtain⟨o,z⟩:=(x a u q).got
  grind
theorem Inv.laidN{X:Cx}{a5:List (Az×Obj)}{σ:St}{H:Hp}{s:S9}{h':H9}{a:Az}{o:HO}{t':Nat}(I:Inv X a5 σ H s)(k:∀ b u,s.heap.get? b=some u->h'.get? b=some u)(f:s.heap.get? a=none)(new:cR X.prog X.w (upd H a o) h' a o) :
  Inv X a5 σ (upd H a o) {s with heap:=h',toks:=t'}:=by
 have d:H a=none:=I.hok.free f
 refine I.un ⟨λb u q _ _ _=>k b u q,λb u q _ _ _=>⟨u.slots,k b u q⟩,λb u q n _=>?_,λb u q _=>⟨u,k b u q⟩,λb xs q=>by rw[aW (bQ q d)];exact q,λb u xs q=>by rw[aW (bQ q d)];exact q,λb ps q=>by rw[aW (bQ q d)];exact q⟩ λb u e=>?_
 .rw[aW (λz=>by rw[z,f]at q;cases q)];exact n
 .by_cases g:b=a
  .subst g;rw[bL]at e;cases e;exact new
  .rw[aW g]at e
   exact(I.hok b u e).stay (λc v _ q=>k c v q) (λc q=>by rw[aW (bQ q d)];exact q) (λc xs q=>by rw[aW (bQ q d)];exact q) λc xs q=>by rw[aW (bQ q d)];exact q
structure ErrP(K:Frag)(mg:Str->Option V9)(x:Str)(W C:Az):Prop where
 c:SX.ExcC K W C
 m:mg x=some (.ref C)
 lk:∃ nm q N bs sn sub ab col dd k0 k1 k2 k3 k5,K.lookup C=some (excClassObj nm q C N bs (.ref W::SX.k6) true sn sub ab col dd k0 k1 k2 k3 k5 "ValueError.__new__")/\PySem.W.nsOkIn K N=true/\PySem.W.nsIn K N "__init__"=some none
 lw:∃ c0 dd cd sl,K.lookup W=some ⟨c0,dd,.cls cd,sl⟩/\PySem.W.nsOkIn K cd.ns=true/\PySem.W.nsIn K cd.ns "__init__"=some none
def aAY(C:Az)(E:XK)(ta:TA):TS:=λ_ σ H=>ta σ H λvs H1=>vs.length<=1000/\∀ e,H1 e=none->E (.ref C) (some e) (upd H1 e (ExO e C none))
theorem aOQ{K:Frag}{h:H9}{N:Az}{n:Str}(X:K.In h)(a:PySem.W.nsOkIn K N=true)(b:PySem.W.nsIn K N n=some none):∃ m,h.Ns N m/\m n=none:=by
 have:=Heap.Ns.of_isNs (PySem.W.isNs_of_in X a)
 exact⟨_,this,PySem.W.ns_none_of X this b⟩
section
variable{X:Cx}{E:XK}{W C:Az}{x:Str}{np cpos pos:Pos}{e0:E1}{rest:List E1}{ta:TA}
theorem i3(O:X.calm=true)(j:ErrP X.K X.mg x W C)(Q:Gl X x)(T:PA (X.fly E) (e0::rest) ta)(l:(x == ("__debug__":Str))=false:=by decide)
  (he:starEach (e0::rest) X.env=(false,eval e0 X.env)::starEach rest X.env:=by rfl) (hpl:(backTo cpos (starEach rest X.env)).any (·.1)=false:=by rfl) :
  PS (X.fly E) (.Raise (some (.Call (.Name x np) (e0::rest) [] cpos)) none pos) (aAY C E ta):=by
 intro a5 s σ H D I h
 obtain⟨nm,q,N,bs,sn,sub,ab,col,dd,k0,k1,k2,k3,k5,lk,J,u⟩:=j.lk
 obtain⟨c0,dw,cd,sl,lw,M,k⟩:=j.lw
 have b:wpAny (model X.prog X.w) X.A (eval (.Call (.Name x np) (e0::rest) [] cpos) X.env) (λv s1=>∃ e od vs,v=.ref e/\s1.heap.get? C=some (excClassObj nm q C N bs (.ref W::SX.k6) true sn sub ab col dd k0 k1 k2 k3 k5 "ValueError.__new__") /\
   s1.heap.get? e=some {cls:=.ref C,dict:=od,data:=.fields vs}/\vs[1]? = some .none/\Fly X E (.ref e) s1) (Fly X E) s:=by
  refine CQ (nX (X:=X) I.unwish Q j.m ?_ l)
  refine DO (h₀:=X.base) I.ok.mod.kin j.c.kp (thn (T cpos a5 s σ H _ I h) λus s1 ⟨vs,H1,i,r,hz,U⟩=>⟨i.kIn,?_⟩) he hpl
  have n:Inv X a5 σ H1 s1:=i.unwish
  obtain⟨y,g,d,L,os⟩:=s1
  have o:us.length<=sizeLine:=by rw[<-r.length,GR];omega
  have kin:X.K.In y:=n.kIn
  obtain⟨Z,S,B⟩:=aOQ kin J u
  obtain⟨mW,Y,G⟩:=aOQ kin M k
  refine wpAny_call_exc_subT PySem.F.excBase_ValueError (.own (kin _ _ lw) Y G .base) (kin _ _ lk) S B (λh' e a=>?_) o
  obtain⟨t,f,_,_⟩:=a.there
  have P:Inv X a5 σ (upd H1 e (ExO e C none)) ⟨h',g,d,L,os⟩:=n.laidN (t':=L) a.keeps a.new (aJX f)
  have V:=U e (n.hok.free a.new)
  have R:Inv X [] σ (upd H1 e (ExO e C none)) ⟨h',g,d,L,os⟩:=P.pins_of λp y=>absurd y (by simp)
  exact⟨e,none,_,rfl,P.kIn _ _ lk,f,rfl,e,C,none,σ,_,rfl,R,⟨bL,_,none,f,rfl,(λt z=>nomatch z),(λz=>nomatch z)⟩,V⟩
 show wpAny (model X.prog X.w) X.A (exec (.Raise (some (.Call (.Name x np) (e0::rest) [] cpos)) none pos) X.env) _ (Fly X E) s
 rw[arm_exec_Raise]
 first
  | refine AB (DE (SX.yC (SX.aMG W) (I.ok.hd O) (AB (BO b (λv s1 h1=>AB (DE (AM h1))) λ_ _ z=>z))))
  | (simp only[evalOpt,Option.map];refine AB (DE (SX.yC (SX.aMG W) (I.ok.hd O) (AB (BO b (λv s1 h1=>AB (DE (AM h1))) λ_ _ z=>z)))))
end
def few(i:Int):Prop:=i=40\/i=60\/i=200\/i=300
theorem aP4{i:Int}(h:few i):(Str.ofString (toString i)).length<=10/\i.natAbs.log2 < 1920:=by
 rcases h with rfl|rfl|rfl|rfl<;>decide +kernel
theorem kD(x y:Str):(x++y).length=x.length+y.length:=by
 show(x.cps++y.cps).size=x.cps.size+y.cps.size
 simp
def aTD(ta:TE):TE:=λσ H Q=>ta σ H λx H1=>∃ i:Int,x=.int i/\few i/\∀ z:Str,Q (.str z) H1
theorem aD6{X:Cx}{v:E1}{ta:TE}{a b:Str}{k1 k2:Nat}{f p2 n pos:Pos}(p:PE X v ta)(z:a.length<=1000:=by decide)(hb:b.length<=1000:=by decide) :
  PE X (.JoinedStr [.Constant (.str a) k1 f,.FormattedValue v (-1) none p2,.Constant (.str b) k2 n] pos) (aTD ta):=by
 intro a5 s σ H Q I h
 have j:sizeLine=16777216:=rfl
 have d:(Str.empty).length=0:=rfl
 refine wpAny_JoinedStr (Joins_cons (thn (aC4 (X:=X) a5 s σ H (λy H1=>y=.str a/\H1=H) I ⟨rfl,rfl⟩) λu s1 c=>?_))
 obtain⟨y,H1,g,r1,e1,e2⟩:=c
 subst e1 e2
 obtain⟨k,rfl⟩:=r1
 refine⟨a,k,rfl,by rw[kD,d];omega,Joins_cons (wpAny_FormattedValue_plain (thn (p a5 s1 σ _ _ g h) λu x c=>?_))⟩
 obtain⟨y,H2,t,r2,i,e,m,q⟩:=c
 subst e
 obtain⟨A,rfl⟩:=r2
 obtain⟨C,l⟩:=aP4 m
 refine wpAny_formatField_int l ⟨_,_,rfl,by rw[kD,kD,d];omega,Joins_cons (thn (aC4 (X:=X) a5 _ σ H2 (λy H1=>y=.str b/\H1=H2) (t.tok _) ⟨rfl,rfl⟩) λu B c=>?_)⟩
 obtain⟨y,H3,w,r,e1,e2⟩:=c
 subst e1 e2
 obtain⟨o,rfl⟩:=r
 refine⟨b,o,rfl,by rw[kD,kD,kD,d];omega,Joins_nil ⟨by rw[kD,kD,kD,d];omega,?_⟩⟩
 exact⟨.str _,_,w.tok _,⟨_,rfl⟩,q _⟩
end L2
namespace Fl
open L2 PyProof.Rows
instance (i:Int):Decidable (few i):=by unfold few;infer_instance
def qM(cn:Str)(f:Sg->R (List Dz)):Sg->R Fw:=λρ=>(f ρ).bind λxs=>if xs.length<=1000 then .ex ⟨cn,[]⟩else .bad
def mU(cn:Str)(g:Sg->R Dz):Sg->R Fw:=λρ=>(g ρ).bind λx=>match x with
 | .int i=>if few i then .ex ⟨cn,[]⟩else .bad
 | _=>.bad
section
variable{X:Cx}{c:Ct}{E:XK}{st:Stmt}{cn:Str}{C:Az}
theorem i3{f:Sg->R (List Dz)}(g:c.mg cn=some (.ref C))(h:PS X st (aAY C E (tAd c E f))):PSf X c E st (qM cn f):=PS.imp h λD σ H b=>by
 obtain⟨ρ,F,ab,k⟩:=b
 refine⟨ρ,F,ab,(Rk.bind k).imp λxs _ q vs i H1 s1 r1=>?_⟩
 by_cases a:xs.length<=1000
 .rw[AD a]at q
  exact⟨by rw[r1.length];exact a,λe d=>q e C _ _ ((ab.all.trans s1).trans (Ext.new s1.fh d)) ⟨g,none,bL,.inl ⟨rfl,rfl⟩⟩⟩
 .rw[AE a]at q;exact q.elim
theorem tX{g:Sg->R Dz}(d:c.mg cn=some (.ref C))(h:PS X st (aAY C E (eK (aTD (tV (cF c) c E g)) jN))):PSf X c E st (mU cn g):=PS.imp h λD σ H ⟨ρ,F,ab,k⟩=>by
 refine⟨ρ,F,ab,(Rk.bind k).imp λx b q v j H1 s1 r1=>?_⟩
 clear b
 split at q
 .rename_i i
  split at q
  .rename_i f
   obtain rfl:=bJ.int_of r1
   exact⟨i,rfl,f,λz=>⟨by show 1<=1000;decide,λe a=>q e C _ _ ((ab.all.trans s1).trans (Ext.new s1.fh a)) ⟨d,none,bL,.inl ⟨rfl,rfl⟩⟩⟩⟩
  .exact q.elim
 .exact q.elim
theorem aFY{K:Frag}{mg:Str->O9 V9}{Wc:Az}{a b:List Str}(h:qL K mg Wc a)(h2:qL K mg Wc b):qL K mg Wc (a++b):=λnm c=>by
 rcases BX.mp c with q|q
 · exact h nm q
 · exact h2 nm q
theorem aWI{i:Nat}{ρ:Sg}{σ:L2.St}{F H:Hp}{d:Er}{nm:Str}{W C:Az}(j:X.mg=c.mg)(b:SX.ExcC X.K W C)(g:X.mg nm=some (.ref C))(ab:Ab c ρ σ F H)(hi:ρ[i]? = some (some (.x d)))(h:d.c=nm) :
  ∃ a,σ[i]? = some (some (.ref a))/\TyX X.K H (.ref a) (.ref C):=by
 obtain⟨v,e,a,k,rfl,m,od,h1,h2⟩:=ab.slot i _ hi
 rw[h,<-j,g]at m
 cases m
 rcases h2 with ⟨_,rfl⟩|⟨dd,f,e1,e2,l,n⟩
 .exact ⟨a,e,.exc0 b (ab.fh _ _ h1)⟩
 .subst e1
  exact⟨a,e,.exc b (ab.fh _ _ h1) (ab.fh _ _ e2)⟩
end
end Fl
namespace L2
noncomputable def aTE(e:DictEntry):Bool:=match e.key with
 | .str _ _=>true
 | _=>false
theorem vG{K:Frag}{N:Az}{cl:V9}{d:O9 Az}{es:Array DictEntry}{ep:Nat}{sl:Array (O9 V9)}(l:K.lookup N=some ⟨cl,d,.dict es ep,sl⟩)(h:es.toList.all aTE=true):PySem.W.nsOkIn K N=true:=by
 unfold PySem.W.nsOkIn
 rw[show List.lookup N K=some ⟨cl,d,.dict es ep,sl⟩from l]
 show es.all _=true
 rw[<-Array.all_toList]
 exact h
end L2
namespace Fl
open L2 PyProof.Rows
end Fl
namespace HT
open PySem.Spec PyProof.Rows L2
end HT
namespace Fl
open L2 PyProof.Rows
def FnK(K:Frag)(H:Hp)(f:Az):Prop:=PySem.W.keepIn K (.ref f)=true\/∃ oc od fd sl,H f=some (FnO f ⟨oc,od,.func fd,sl⟩)
def aD7(X:Cx)(i:Nat)(E:XK)(t:TA):TE:=λσ H Q=>∃ f,σ[i]? = some (some (.ref f))/\FnK X.K H f/\t σ H λvs H1=>FnK X.K H1 f/\∃ k fd ps sp,Room k X.A/\FnOk X.prog X.w X.K X.mg X.base (CXe X.prog X.w) k f fd ps sp/\kW X.K fd ps []/\sp vs H1 Q E
theorem aD8{X:Cx}{i:Nat}{x:Str}{E:XK}{p pos:Pos}{e:E1}{es:List E1}{t:TA}(G:PE X (.Name x p) (kK i))(hx:oJ (CXe X.prog X.w) X E)(z:PA X (e::es) t)
  (y:starEach (e::es) X.env=(false,eval e X.env)::starEach es X.env:=by rfl) (hpl:(backTo pos (starEach es X.env)).any (·.1)=false:=by rfl):PE X (.Call (.Name x p) (e::es) [] pos) (aD7 X i E t):=by
 intro a5 s σ H Q I h
 obtain⟨f,D,d,h⟩:=h
 refine CQ (thn (G a5 s σ H (λv H'=>v=.ref f/\H'=H) I ⟨_,D,rfl,rfl⟩) λu B m=>?_)
 obtain⟨v,l,c,C,e1,e2⟩:=m
 subst e1 e2
 obtain rfl:u=Value.ref f:=C
 have g:∀ (us:List V9) (s1:S9),AP X a5 σ (λvs H1=>FnK X.K H1 f/\∃ k fd ps sp,Room k X.A/\FnOk X.prog X.w X.K X.mg X.base (CXe X.prog X.w) k f fd ps sp/\kW X.K fd ps []/\sp vs H1 Q E) us s1->
   (∃ H1,Inv X a5 σ H1 s1/\FnK X.K H1 f)/\wpAny (model X.prog X.w) X.A (call (.ref f) us) (EP X a5 σ Q) X.xe s1:=by
  rintro us s1 ⟨vs,H1,b,r,a,k,fd,ps,sp,hr,F,hb,q⟩
  refine⟨⟨H1,b,a⟩,aJS (dvs:=[]) (ds:=[]) F hr hb .nil hx b r ?_⟩
  grind
 rcases d with d|⟨j,od,fd,sl,d⟩
 .refine DO (h₀:=X.base) c.ok.mod.kin d (thn (z pos a5 B σ l _ c h) λus s1 n=>?_) y hpl
  obtain⟨⟨H1,b,_⟩,q⟩:=g us s1 n
  exact⟨b.kIn,q⟩
 .refine PySem.W.callWith_F ⟨j,od,fd,sl,FnO.get c.hok d⟩ (thn (z pos a5 B σ l _ c h) λus s1 n=>?_) y hpl
  obtain⟨⟨H1,b,a⟩,q⟩:=g us s1 n
  refine⟨?_,q⟩
  rcases a with a|⟨j,od,fd,sl,a⟩
  .cases e:X.K.lookup f with
   | none=>unfold PySem.W.keepIn at a;dsimp only at a;rw[e]at a;cases a
   | some o=>
    have e1:=b.kIn f o e
    exfalso
    have e2:=c.kIn f o e
    obtain⟨o',h1,h2⟩:∃ o',l f=some (FnO f o')/\True:=⟨_,d,trivial⟩
    have J:=c.bs f o (c.ok.mod.kin f o e)
    grind
  .exact ⟨j,od,fd,sl,FnO.get b.hok a⟩
def aIP(m i:Nat)(f:Sg->R (List Dz)):Sg->R Dz:=λρ=>match ρ[i]? with
 | some (some (.g k n G))=>(f ρ).bind λds=>if k<=m/\ds.length=n then G ds else .bad
 | _=>.bad
theorem aTF{X:Cx}{c:Ct}{E:XK}{e:E1}{m i:Nat}{T:Hp}{f:Sg->R (List Dz)}(hG:c.g=gOf X.prog X.w X.K X.mg X.base T)(s:X.K=c.K)(O:X.mg=c.mg)(P:Room m X.A)(h:PE X e (aD7 X i E (tAd c E f))):PD X c E e (aIP m i f):=PE.imp h λσ H Q ⟨ρ,F,ab,k⟩=>by
 unfold aIP at k
 split at k
 .rename_i l n G hi
  obtain⟨v,U,I⟩:=ab.slot i _ hi
  obtain⟨y,D,rfl,s1,B⟩:=(show AF c.g c.K c.mg F (.g l n G) v from I)
  rw[hG]at B
  obtain⟨fd,ps,W,N,S,V⟩:=(show Beh X.prog X.w X.K X.mg X.base T y D l n G from B)
  have j:∀ b H',aT F b->aT b H'->FnK X.K H' y:=λb H' L M=>V.imp id λ⟨J,od,fd,sl,e⟩=>⟨J,od,fd,sl,M _ _ (L _ _ (s1 _ _ e))⟩
  refine⟨y,U,j F H (cG F) ab.fh,ρ,F,ab,(Rk.bind k).imp λds _ q vs b H' e1 r=>?_⟩
  refine⟨j b H' e1.ff e1.fh,?_⟩
  by_cases p:l<=m/\ds.length=n
  .rw[AD p]at q
   refine⟨l,fd,ps,_,P.mono p.1,S,N,b,ds,λa o z=>e1.ff a o (s1 a o z),λa o z=>e1.ff a o (ab.f0 a o (ab.t0 a o (by rw[hG];exact z))),e1.fh,by rw[s];exact r,p.2,?_⟩
   cases t:G ds with
   | bad=>rw[t]at q;exact q
   | ok d=>rw[t]at q;exact λv u H2 e2 r2=>Rk.ok q v u H2 (e1.trans e2) (by rw[s]at r2;exact r2)
   | ex x=>rw[t]at q;exact λa C u H2 e2 r2=>q a C u H2 ((ab.all.trans e1).trans e2) (by rw[s,O]at r2;exact r2)
  .rw[AE p]at q;exact q.elim
 .exact k.elim
noncomputable def vH:Dz->Bool
 | .none=>true
 | .bool _=>true
 | .int _=>true
 | .str _=>true
 | _=>false
theorem aM4{K:Frag}{F a:Hp}{v:V}{d:Dz}(h:vH d=true)(r:DatV K F v d):DatV K a v d:=by
 cases d with
 | none=>cases r;exact .non
 | bool b=>cases r;exact .bl b
 | int i=>cases r;exact .int i
 | str x=>cases r;exact .str x
 | list xs=>cases h
 | tuple xs=>cases h
 | dict xs=>cases h
def nC(K:Frag)(F H:Hp):List V->List Dz->Prop
 | [],[]=>True
 | v::vs,d::ds=>bJ K F H v d/\nC K F H vs ds
 | _,_=>False
theorem nC.ext{K:Frag}{F H F' H':Hp}(e:Ext F H F' H'):∀ {vs:List V} {ds:List Dz},nC K F H vs ds->nC K F' H' vs ds
 | [],[],_=>trivial
 | v::vs,d::ds,h=>⟨bJ.ext e h.1,nC.ext e h.2⟩
theorem nC.len{K:Frag}{F H:Hp}:∀ {vs:List V} {ds:List Dz},nC K F H vs ds->vs.length=ds.length
 | [],[],_=>rfl
 | v::vs,d::ds,h=>by rw[A5,A5,nC.len h.2]
def tAr(c:Ct)(E:XK)(f:Sg->R (List Dz)):TA:=λσ H Q=>∃ ρ F,Ab c ρ σ F H/\Rk c E F H (f ρ) λds=>∀ vs F' H',Ext F H F' H'->nC c.K F' H' vs ds->Q vs H'
theorem aP5{X:Cx}{c:Ct}{E:XK}:PA X [] (tAr c E aL):=PA.imp aP λσ H Q ⟨ρ,F,ab,k⟩=>Rk.ok k [] F H (Ext.refl ab.fh) trivial
theorem aD9{X:Cx}{c:Ct}{E:XK}{e:E1}{es:List E1}{f:Sg->R Dz}{g:Sg->R (List Dz)}(h:PR X c E e f)(h2:PA X es (tAr c E g))(i:starEach (e::es) X.env=(false,eval e X.env)::starEach es X.env:=by rfl):PA X (e::es) (tAr c E (aA f g)):=PA.imp (aJ h h2 i) λσ H Q a=>by
 obtain⟨ρ,F,ab,k⟩:=a
 refine⟨ρ,F,ab,(Rk.bind k).imp λx _ q v d H1 s1 r1=>⟨ρ,d,ab.ext s1,((Rk.bind q).ext s1).imp λxs _ q vs j H2 b r2=>?_⟩⟩
 exact Rk.ok q (v::vs) j H2 (s1.trans b) ⟨bJ.ext b r1,r2⟩
theorem aTG{K:Frag}{F H:Hp}(s:aT F H):∀ {vs:List V} {ds:List Dz},nC K F H vs ds->∃ FL,aT F FL/\aT FL H/\DatVs K FL vs ds
 | [],[],_=>⟨F,cG F,s,.nil⟩
 | v::vs,d::ds,h=>by
  obtain⟨FL,a,b,r⟩:=aTG s h.2
  rcases h.1 with q|⟨p,us,xs,rfl,rfl,h1,h2⟩
  .exact ⟨FL,a,b,.cons (q.same a) r⟩
  .refine ⟨λx=>if x=p then some (.lst us)else FL x,λx o z=>?_,λx o z=>?_,?_⟩
   .by_cases c:x=p
    .subst c
     have:=s x o z
     grind
    .exact (AE c).trans (a x o z)
   .by_cases c:x=p
    .grind
    .exact b x o ((AE c).symm.trans z)
   .have e:aT FL (λx=>if x=p then some (.lst us)else FL x):=λx o z=>by
     by_cases c:x=p
     .subst c
      have:=b x o z
      grind
     .grind
    exact .cons (.lst (SqL.of (AD rfl)) (h2.same λx o z=>e x o (a x o z))) (r.same e)
def aCZ(m i:Nat)(f:Sg->R (List Dz)):Sg->R Dz:=λρ=>match ρ[i]? with
 | some (some (.g k n G))=>(f ρ).bind λds=>if k<=m/\ds.length=n then(match G ds with | .ok d=>if vH d=true then .ok d else .bad|_=>.bad)else .bad
 | _=>.bad
theorem aP6{X:Cx}{c:Ct}{E:XK}{e:E1}{m i:Nat}{T:Hp}{f:Sg->R (List Dz)}(hG:c.g=gOf X.prog X.w X.K X.mg X.base T)(D:X.K=c.K)(hM:X.mg=c.mg)(L:Room m X.A)(h:PE X e (aD7 X i E (tAr c E f))):PD X c E e (aCZ m i f):=PE.imp h λσ H Q ⟨ρ,F,ab,k⟩=>by
 unfold aCZ at k
 split at k
 .rename_i t n G hi
  obtain⟨v,M,O⟩:=ab.slot i _ hi
  obtain⟨y,N,rfl,s1,B⟩:=(show AF c.g c.K c.mg F (.g t n G) v from O)
  rw[hG]at B
  obtain⟨fd,ps,Z,S,V,W⟩:=(show Beh X.prog X.w X.K X.mg X.base T y N t n G from B)
  have l:∀ j H',aT F j->aT j H'->FnK X.K H' y:=λj H' J P=>W.imp id λ⟨I,od,fd,sl,e⟩=>⟨I,od,fd,sl,P _ _ (J _ _ (s1 _ _ e))⟩
  refine⟨y,M,l F H (cG F) ab.fh,ρ,F,ab,(Rk.bind k).imp λds _ q vs j H' e1 r=>?_⟩
  refine⟨l j H' e1.ff e1.fh,?_⟩
  by_cases s:t<=m/\ds.length=n
  .rw[AD s]at q
   obtain⟨Y,a,b,U⟩:=aTG e1.fh r
   refine⟨t,fd,ps,_,L.mono s.1,V,S,Y,ds,λx o z=>a x o (e1.ff x o (s1 x o z)),λx o z=>a x o (e1.ff x o (ab.f0 x o (ab.t0 x o (by rw[hG];exact z)))),b,by rw[D];exact U,s.2,?_⟩
   cases u:G ds with
   | bad=>rw[u]at q;exact q
   | ok d=>
    rw[u]at q
    intro v F2 H2 e2 r2
    have p:Rk c E F H (if vH d=true then R.ok d else .bad) _:=q
    by_cases C:vH d=true
    .rw[AD C]at p
     refine Rk.ok p v j H2 (e1.trans ⟨e2.hh,cG j,λx o z=>e2.hh x o (e1.fh x o z),λx z n=>absurd z n⟩) (by rw[D]at r2;exact aM4 C r2)
    .rw[AE C]at p;exact p.elim
   | ex x=>rw[u]at q;exact q.elim
  .rw[AE s]at q;exact q.elim
 .exact k.elim
theorem aP7{K:Frag}{F:Hp}{cs:List Az}{a:Az}{xs:List V}(b:Celd cs F)(h:SqL K F a xs):SqL K (hid cs F) a xs:=by
 rcases h with (h|⟨o,h⟩)|h
 · exact .inl (.inl (by rw [cC (b.out h λ_ v z => nomatch z)]; exact h))
 · exact .inl (.inr ⟨o, by rw [cC (b.out h λ_ v z => by unfold fV at z; cases z)]; exact h⟩)
 · exact .inr h
theorem aP8{K:Frag}{F:Hp}{cs:List Az}{a:Az}{xs:List V}(b:Celd cs F)(h:SqT K F a xs):SqT K (hid cs F) a xs:=by
 rcases h with (h|⟨o,h⟩)|h
 · exact .inl (.inl (by rw [cC (b.out h λ_ v z => nomatch z)]; exact h))
 · exact .inl (.inr ⟨o, by rw [cC (b.out h λ_ v z => by unfold fV at z; cases z)]; exact h⟩)
 · exact .inr h
mutual
theorem aGR{K:Frag}{F:Hp}{cs:List Az}(hc:Celd cs F):∀ {v:V} {d:Dz},DatV K F v d->DatV K (hid cs F) v d
 | _,_,.non=>.non
 | _,_,.bl b=>.bl b
 | _,_,.int i=>.int i
 | _,_,.str x=>.str x
 | _,_,.lst h r=>.lst (aP7 hc h) (oU hc r)
 | _,_,.tup h r=>.tup (aP8 hc h) (oU hc r)
 | _,_,.pl h=>.pl (by rw[cC (hc.out h λ_ v z=>nomatch z)];exact h)
theorem oU{K:Frag}{F:Hp}{cs:List Az}(hc:Celd cs F):∀ {vs:List V} {ds:List Dz},DatVs K F vs ds->DatVs K (hid cs F) vs ds
 | _,_,.nil=>.nil
 | _,_,.cons h r=>.cons (aGR hc h) (oU hc r)
end
theorem aP9{e C b:Az}{od:O9 Az}{o:Obj}{v:V}(h:ExO e C od=fV b o v):False:=by unfold ExO fV at h;cases h
theorem aM5{K:Frag}{mg:Str->O9 V9}{F:Hp}{e:Er}{a C:Az}{cs:List Az}(b:Celd cs F)(h:lX K mg F e a C):lX K mg (hid cs F) e a C/\a∉cs:=by
 obtain⟨m,od,h1,h2⟩:=h
 have c:=b.out h1 λ_ v z=>aP9 z
 refine⟨⟨m,od,by rw[cC c];exact h1,h2.imp id ?_⟩,c⟩
 rintro ⟨d,fvs,e1,e2,e3,e4⟩
 exact⟨d,fvs,e1,by rw[cC (b.out e2 λ_ v z=>nomatch z)];exact e2,e3,oU b e4⟩
theorem aEA{c:Cv}{H a:Hp}(s:aT (pub c H) a):Celd (dZ c) a:=λb d=>by
 obtain⟨p,e⟩:=jI.mp d
 exact⟨p.1,p.2,s _ _ (tO e)⟩
theorem aM6{a:Cv}{F H:Hp}(s:aT F H):aT (pub a F) (pub a H):=λb o e=>by
 by_cases c:b∈dZ a
 .obtain ⟨p,q⟩:=jI.mp c
  rw[tO q]at e ⊢;exact e
 .rw[fW c]at e ⊢;exact s b o e
theorem aB5{c:Cv}{F H f H2:Hp}(g:∀ b∈dZ c,H b=none)(s:aT F H)(e:Ext (pub c F) (pub c H) f H2):Ext F H (hid (dZ c) f) (hid (dZ c) H2):=by
 have i:∀ b∈dZ c,F b=none:=λb a=>cH s (g b a)
 have outH:∀ b o,H b=some o->b∉dZ c:=λb o q z=>by rw[g b z]at q;cases q
 have d:∀ b o,F b=some o->b∉dZ c:=λb o q z=>by rw[i b z]at q;cases q
 refine⟨λb o q=>?_,λb o q=>?_,λb o q=>?_,λb q n=>?_⟩
 .have a:=outH b o q
  rw[cC a];exact e.hh b o (by rw[fW a];exact q)
 .have a:=d b o q
  rw[cC a];exact e.ff b o (by rw[fW a];exact q)
 .obtain ⟨h,a⟩:=rO q
  rw[cC a];exact e.fh b o h
 .by_cases a:b∈dZ c
  .exact absurd (qD a) n
  .rw[cC a]at n
   have:=e.nw b (by rw[fW a];exact q) n
   unfold pC at this ⊢
   rw[fW a]at this;exact this
noncomputable def dOf:R A->R Dz
 | .ok (.d x)=>.ok x
 | .ok _=>.bad
 | .ex e=>.ex e
 | .bad=>.bad
def CloOk(P:P9)(w:W9)(K:Frag)(mg:Str->O9 V9)(base:H9)(T:Hp)(S:ClSt)(fr:List Str)(k n:Nat)(Gm:List A->List Dz->R Dz):Prop:=
 ∀ (F0 F1:Hp) (caps:List A) (cvs:List V) (f:Az) (cl:List (Str×Az)) (doc pm ct:V9) (cc:Az),aT T F0->AFs (gOf P w K mg base T) K mg F0 caps cvs->aT F0 F1->
  F1 f=some (FnO f (S.obj cl doc pm cc ct))->F1 cc=some (.cod S.qual)->CapAt F1 fr cl cvs->(∀ c∈bG fr cl,F0 c=none)->Beh P w K mg base T f F1 k n (Gm caps)
theorem aGS{cs:List Az}{F H d H2:Hp}(s:aT F H)(g:Celd cs F)(f:∀ c∈cs,H2 c=none)(e:Ext (hid cs F) (hid cs H) d H2):Ext F H (shw cs F d) (shw cs H H2)/\aT d (shw cs F d):=by
 have i:∀ c∈cs,d c=none:=λc h=>cH e.fh (f c h)
 refine⟨⟨λb o q=>?_,λb o q=>?_,λb o q=>?_,λb q n=>?_⟩,λb o q=>?_⟩
 .by_cases a:b∈cs
  .rw[tN a];exact q
  .rw[fU a];exact e.hh b o (by rw[cC a];exact q)
 .by_cases a:b∈cs
  .rw[tN a];exact q
  .rw[fU a];exact e.ff b o (by rw[cC a];exact q)
 .by_cases a:b∈cs
  .rw[tN a]at q ⊢;exact s b o q
  .rw[fU a]at q ⊢;exact e.fh b o q
 .by_cases a:b∈cs
  .obtain ⟨o,v,z⟩:=g b a
   grind
  .rw[fU a]at n
   have:=e.nw b (by rw[cC a];exact q) n
   unfold pC at this ⊢
   rw[cC a]at this;exact this
 .rw[fU λz=>by rw[i b z]at q;cases q];exact q
theorem AFs.data{g:Gb}{K:Frag}{mg:Str->O9 V9}{F:Hp}:∀ {vs:List V} {ds:List Dz},DatVs K F vs ds->AFs g K mg F (ds.map .d) vs
 | _,_,.nil=>trivial
 | _,_,.cons h r=>⟨h,AFs.data r⟩
theorem AFs.append{g:Gb}{K:Frag}{mg:Str->O9 V9}{F:Hp}:∀ {as bs:List A} {vs us:List V},AFs g K mg F as vs->AFs g K mg F bs us->AFs g K mg F (as++bs) (vs++us)
 | [],_,[],_,_,h=>h
 | a::as,bs,v::vs,us,h,h2=>⟨h.1,AFs.append h.2 h2⟩
section
variable{P:P9}{w:W9}{K:Frag}{mg:Str->O9 V9}{base:H9}{T:Hp}{S:ClSt}{N ps fr:List Str}{k:Nat}
theorem aB6{g h F H:Hp}{a:List A}{cvs vs:List V}{ds:List Dz}{cl:List (Str×Az)}(j:aT T g)(e:AFs (gOf P w K mg base T) K mg g a cvs)(l:aT g h)(f:aT h F)(k:aT F H)(C:CapAt h fr cl cvs)(i:∀ c∈bG fr cl,g c=none)(r:DatVs K F vs ds) :
  Celd (bG fr cl) F/\aT T (hid (bG fr cl) F)/\aT (hid (bG fr cl) F) (hid (bG fr cl) H)/\AFs (gOf P w K mg base T) K mg (hid (bG fr cl) F) (ds.map .d++a) (vs++cvs):=by
 have m:Celd (bG fr cl) F:=(C.same f).celd
 have n:aT g (hid (bG fr cl) F):=λb o q=>by
  rw[cC λz=>by rw[i b z]at q;cases q];exact f b o (l b o q)
 refine⟨m,λb o q=>n b o (j b o q),λb o q=>?_,(AFs.data (oU m r)).append (e.same n)⟩
 obtain⟨p,s⟩:=rO q
 rw[cC s];exact k b o p
def iT(n:Nat)(fb:Sg->R Fw):List A->List Dz->R Dz:=λcaps ds=>dOf (fnF n fb (ds.map .d++caps))
theorem aGT{F H:Hp}{cs:List Az}{Q:VK}{E:XK}{r:R A}(b:aT F H)(j:Celd cs F)(h:match dOf r with
 | .bad=>False
 | .ok d=>∀ v F' H',Ext F H F' H'->DatV K F' v d->Q v H'
 | .ex e=>∀ a C F' H',Ext F H F' H'->lX K mg F' e a C->E (.ref C) (some a) H'):match (generalizing:=false) r with
 | .bad=>False
 | .ok a=>∀ v F' H',Ext (hid cs F) (hid cs H) F' H'->AF (gOf P w K mg base T) K mg F' a v->(∀ a∈cs,H' a=none)->Q v (shw cs H H')
 | .ex e=>∀ a C F' H',Ext (hid cs F) (hid cs H) F' H'->lX K mg F' e a C->(∀ a∈cs,H' a=none)->E (.ref C) (some a) (shw cs H H'):=by
 cases r with
 | bad=>exact h
 | ok a=>
  cases a with
  | d x=>
   intro v F' H' e q c
   obtain⟨e2,i⟩:=aGS b j c e
   exact h v _ _ e2 (DatV.same i q)
  | l xs=>exact False.elim h
  | m xs=>exact False.elim h
  | x e=>exact False.elim h
  | g k n f=>exact False.elim h
  | k S=>exact False.elim h
  | f S=>exact False.elim h
  | o S=>exact False.elim h
 | ex x=>
  intro a C F' H' e q c
  obtain⟨e2,i⟩:=aGS b j c e
  exact h a C _ _ e2 (q.same i)
theorem aKP{body:List Stmt}{fb:Sg->R Fw}(X:S.body=.stmts body)(Sc:CloScope N ps fr S.scope)(y:∀ (cl:List (Str×Az)) (doc pm:V9) (cc:Az) (ct:V9) (us:List V9),us.length=ps.length->bindArgs (S.fd cl doc pm cc ct) ⟨us,[]⟩=pure (ps.zip us))
  (g:∀ (f cc:Az) (cl:List (Str×Az)) (A:U9) (outer:List Env) (s:S9) (H F:Hp) (E E':XK),Room k (A.deeper (dB S.qual S.scope s.heap.objs.size f (.ref cc) cl))->
   lY ((kC (CXe P w) P w K mg base N fr S.qual S.scope f (.ref cc) cl A outer s H E').fly E) ⟨K,mg,w,F,hid (bG fr cl) H,gOf P w K mg base T,(dB S.qual S.scope s.heap.objs.size f (.ref cc) cl).cells,λ_=>none⟩ E body fb) :
  CloOk P w K mg base T S fr (k+1) ps.length (iT N.length fb):=by
 intro Z F1 l cvs f cl doc pm ct cc B i q G m C u
 refine⟨S.fd cl doc pm cc ct,ps,rfl,.all (y cl doc pm cc ct),⟨λvs H Q E h=>?_,λA outer s H args us vs Q E L e0 p I x=>?_⟩,.inr ⟨_,_,_,_,G⟩⟩
 .obtain ⟨F,ds,_,_,_,h1,h2,_⟩:=h
  rw[h1.length,h2]
 .obtain ⟨F,ds,h1,h2,j,D,V,M⟩:=x
  obtain⟨U,J,W,O⟩:=aB6 B i q h1 j C u D
  refine aJ5 X (j _ _ (h1 _ _ G)) (j _ _ (h1 _ _ m)) Sc (C.same λb o z=>j b o (h1 b o z)) L e0 p I (by rw[D.length,V]) λt=>⟨_,g f cc cl A outer s H (hid (bG fr cl) F) _ E t,?_⟩
  have Y:=aGT (P:=P) (w:=w) (base:=base) (T:=T) (r:=fnF N.length fb (ds.map .d++l)) j U M
  refine qK (n:=N.length) (fb:=fb) (Q:=λv H'=>(∀ a∈bG fr cl,H' a=none)->Q v (shw (bG fr cl) H H')) (E:=λc e H'=>(∀ a∈bG fr cl,H' a=none)->E c e (shw (bG fr cl) H H')) J W O ?_
  grind
theorem aTH{body:E1}{fe:Sg->R Dz}(Z:S.body=.expr body)(Sc:CloScope N ps fr S.scope)(B:∀ (cl:List (Str×Az)) (doc pm:V9) (cc:Az) (ct:V9) (us:List V9),us.length=ps.length->bindArgs (S.fd cl doc pm cc ct) ⟨us,[]⟩=pure (ps.zip us))
  (i:∀ (f cc:Az) (cl:List (Str×Az)) (A:U9) (outer:List Env) (s:S9) (H F:Hp) (E E':XK),Room k (A.deeper (dB S.qual S.scope s.heap.objs.size f (.ref cc) cl))->
   PD ((kC (CXe P w) P w K mg base N fr S.qual S.scope f (.ref cc) cl A outer s H E').fly E) ⟨K,mg,w,F,hid (bG fr cl) H,gOf P w K mg base T,(dB S.qual S.scope s.heap.objs.size f (.ref cc) cl).cells,λ_=>none⟩ E body fe) :
  CloOk P w K mg base T S fr (k+1) ps.length (iT N.length (bS (vD fe))):=by
 intro F0 F1 c cvs f cl doc pm ct cc G j p J m C u
 refine⟨S.fd cl doc pm cc ct,ps,rfl,.all (B cl doc pm cc ct),⟨λvs H Q E h=>?_,λA outer s H args us vs Q E O e0 n L y=>?_⟩,.inr ⟨_,_,_,_,J⟩⟩
 .obtain ⟨F,ds,_,_,_,h1,h2,_⟩:=h
  rw[h1.length,h2]
 .obtain ⟨F,ds,h1,h2,l,I,X,U⟩:=y
  obtain⟨W,M,Y,V⟩:=aB6 G j p h1 l C u I
  refine aMJ Z (l _ _ (h1 _ _ J)) (l _ _ (h1 _ _ m)) Sc (C.same λb o z=>l b o (h1 b o z)) O e0 n L (by rw[I.length,X]) λq=>⟨_,i f cc cl A outer s H (hid (bG fr cl) F) _ E q,?_⟩
  have g:=aGT (P:=P) (w:=w) (base:=base) (T:=T) (r:=fnF N.length (bS (vD fe)) (ds.map .d++c)) l W U
  refine⟨_,_,aDY M Y V,?_⟩
  unfold fnF bS vD at g
  cases e:fe ((ds.map Fl.A.d++c).map some++List.replicate (N.length - (ds.map Fl.A.d++c).length) none)with
  | bad=>rw[e]at g;exact g
  | ok d=>rw[e]at g;exact λv D H' e1 r1 t=>g v D H' e1 r1 t
  | ex x=>rw[e]at g;exact λa C D H' e1 r1 t=>g a C D H' e1 r1 t
end
def r9(c:Ct)(F:Hp)(S:ClSt)(v:V):Prop:=∃ f cl doc pm cc ct,v=.ref f/\F f=some (FnO f (S.obj cl doc pm cc ct))/\F cc=some (.cod S.qual)/\ClOf c.cells S.scope cl
theorem r9.same{c:Ct}{F a:Hp}{S:ClSt}{v:V}(s:aT F a):r9 c F S v->r9 c a S v:=by
 rintro ⟨f,cl,doc,pm,cc,ct,h1,h2,h3,h4⟩
 exact⟨f,cl,doc,pm,cc,ct,h1,s _ _ h2,s _ _ h3,h4⟩
theorem aGU{c:Ct}{S:ClSt}{P0:Az}{qs:List (Pos×Str)}{cells:List (Str×Az)}{ρ:Sg}{σ:L2.St}{F H:Hp}{Q:VK}(i:cells=c.cells)(l:c.g.T P0=some (.tbl qs))(ab:Ab c ρ σ F H)(h:∀ v F' H',Ext F H F' H'->r9 c F' S v->Q v H'):tMk cells S P0 qs σ H Q:=by
 subst i
 refine⟨ab.fh _ _ (ab.f0 _ _ (ab.t0 _ _ l)),λf b cl doc pm ct H1 m k j=>?_⟩
 have e1:∃ d,Ext F H d H1/\d b=some (.cod S.qual):=by
  rcases m with ⟨q,rfl⟩|⟨q,rfl⟩
  .refine ⟨upd F b (.cod S.qual),⟨cG _,λa o z=>?_,λa o z=>?_,λa z n=>?_⟩,bL⟩
   .by_cases w:a=b
    .subst w
     have:=ab.fh a o z
     rw[q]at this;cases this
     exact bL
    .rw[aW w];exact z
   .by_cases w:a=b
    .subst w;rw[bL]at z;rw[q];exact z
    .rw[aW w]at z;exact ab.fh a o z
   .by_cases w:a=b
    .subst w;exact .inr ⟨_,q⟩
    .rw[aW w]at n;exact absurd z n
  .exact ⟨upd F b (.cod S.qual),Ext.new ab.fh q,bL⟩
 obtain⟨d,e1,e⟩:=e1
 have e2:Ext d H1 (upd d f (FnO f (S.obj cl doc pm b ct))) (upd H1 f (FnO f (S.obj cl doc pm b ct))):=Ext.new e1.fh k
 exact h (.ref f) _ _ (e1.trans e2) ⟨f,cl,doc,pm,b,ct,rfl,bL,e2.ff _ _ e,j⟩
noncomputable def vI(i:Nat)(q:Str):Sg->R Fw:=λρ=>.ok (.nx (ρ.set i (some (.k q))))
theorem aGV{X:Cx}{c:Ct}{E:XK}{st:Stmt}{i:Nat}{q:Str}{S:ClSt}{P0:Az}{qs:List (Pos×Str)}{cells:List (Str×Az)}(b:cells=c.cells)(j:c.cls q=some S)(n:c.g.T P0=some (.tbl qs))(h:PS X st (nO (tMk cells S P0 qs) (lV i))):PSf X c E st (vI i q):=PS.imp h λD σ H d=>by
 obtain⟨ρ,F,ab,k⟩:=d
 refine aGU b n ab λv m H' e l=>?_
 exact Rk.ok k _ m H' e.ff ((ab.ext e).setF (a:=.k q) (let ⟨f,cl,doc,pm,cc,ct,h⟩:=l;⟨S,f,cl,doc,pm,cc,ct,j,h⟩) λz=>nomatch z)
noncomputable def vJ:O9 (O9 A)->O9 A
 | some (some (.d x))=>some (.d x)
 | some (some (.x e))=>some (.x e)
 | some (some (.g k n G))=>some (.g k n G)
 | _=>none
noncomputable def iU:List Nat->Sg->O9 (List A)
 | [],_=>some []
 | j::js,ρ=>match vJ ρ[j]?,iU js ρ with
  | some a,some as=>some (a::as)
  | _,_=>none
theorem yS{o:O9 (O9 A)}{a:A}(h:vJ o=some a):o=some (some a)/\∀ {c:Ct} {F H:Hp} {v:V},AO c F H a v->AF c.g c.K c.mg F a v:=by
 unfold vJ at h
 split at h<;>cases h
 · exact⟨rfl, λz => z⟩
 · exact⟨rfl, λz => z⟩
 · exact⟨rfl, λz => z⟩
theorem aGW{c:Ct}{ρ:Sg}{σ:L2.St}{F H:Hp}(ab:Ab c ρ σ F H):∀ {js:List Nat} {caps:List A},iU js ρ=some caps->∃ cvs,AFs c.g c.K c.mg F caps cvs/\cvs.length=js.length/\∀ (i:Nat) j,js[i]? = some j->∃ v,cvs[i]? = some v/\σ[j]? = some (some v)
 | [],_,h=>by cases h;exact⟨[],trivial,rfl,λi j z=>by simp at z⟩
 | j::js,caps,h=>by
  unfold iU at h
  split at h
  .rename_i a as h1 h2
   cases h
   obtain⟨cvs,r,l,g⟩:=aGW ab h2
   obtain⟨b,f⟩:=yS h1
   obtain⟨v,m,d⟩:=ab.slot j a b
   refine⟨v::cvs,⟨f d,r⟩,by simp[l],λi k e=>?_⟩
   grind
  .cases h
def aEB(X:Cx)(T:Hp)(c:Ct)(js:List Nat)(ρ:Sg)(F:Hp)(a:A)(v:V):Prop:=AF c.g c.K c.mg F a v \/
 ∃ S fr sl k n Gm caps,a=.g k n (Gm caps)/\r9 c F S v/\CloOk X.prog X.w X.K X.mg X.base T S fr k n Gm/\(∀ y,(y,NameKind.free)∈S.scope.names->y∈fr)/\(∀ y∈fr,(y,NameKind.free)∈S.scope.names)/\sl.map (λj=>X.N[j]?)=fr.map some/\(∀ j∈sl,j∈js)/\iU sl ρ=some caps
theorem aEB.same{X:Cx}{T:Hp}{c:Ct}{js:List Nat}{ρ:Sg}{F d:Hp}{a:A}{v:V}(s:aT F d)(h:aEB X T c js ρ F a v):aEB X T c js ρ d a v:=by
 rcases h with h|⟨S,fr,sl,k,n,Gm,b,h1,h2,e⟩
 · exact .inl (AF.same s h)
 · exact .inr ⟨S, fr, sl, k, n, Gm, b, h1, h2.same s, e⟩
def aIQ(X:Cx)(T:Hp)(c:Ct)(js:List Nat)(ρ:Sg)(F:Hp):List A->List V->Prop
 | [],[]=>True
 | a::as,v::vs=>aEB X T c js ρ F a v/\aIQ X T c js ρ F as vs
 | _,_=>False
def tK1(X:Cx)(T:Hp)(c:Ct)(js:List Nat)(E:XK)(f:Sg->R A):TE:=λσ H Q=>∃ ρ F,Ab c ρ σ F H/\Rk c E F H (f ρ) λa=>∀ v F' H',Ext F H F' H'->aEB X T c js ρ F' a v->Q v H'
def tKs(X:Cx)(T:Hp)(c:Ct)(js:List Nat)(E:XK)(f:Sg->R (List A)):TA:=λσ H Q=>∃ ρ F,Ab c ρ σ F H/\Rk c E F H (f ρ) λas=>∀ vs F' H',Ext F H F' H'->aIQ X T c js ρ F' as vs->Q vs H'
section
variable{X:Cx}{T:Hp}{c:Ct}{js:List Nat}{E:XK}{e:E1}{es:List E1}
theorem aIR{f:Sg->R A}(h:PV X c E e f):PE X e (tK1 X T c js E f):=PE.imp h λσ H Q ⟨ρ,F,ab,k⟩=>⟨ρ,F,ab,k.imp λa _ q v b H' e1 r=>q v b H' e1 (.inl r)⟩
def sA(q:Str)(sl:List Nat)(k n:Nat)(Gm:List A->List Dz->R Dz)(i:Nat):Sg->R A:=λρ=>match ρ[i]?,iU sl ρ with
 | some (some (.k q')),some caps=>if q'=q then .ok (.g k n (Gm caps))else .bad
 | _,_=>.bad
theorem aGX{q:Str}{S:ClSt}{fr:List Str}{sl:List Nat}{k n i:Nat}{Gm:List A->List Dz->R Dz}(l:c.cls q=some S)(M:CloOk X.prog X.w X.K X.mg X.base T S fr k n Gm)(h1:∀ y,(y,NameKind.free)∈S.scope.names->y∈fr)(h2:∀ y∈fr,(y,NameKind.free)∈S.scope.names)
  (t:sl.map (λj=>X.N[j]?)=fr.map some) (o:∀ j∈sl,j∈js) (h:PE X e (kK i)):PE X e (tK1 X T c js E (sA q sl k n Gm i)):=PE.imp h λσ H Q ⟨ρ,F,ab,k⟩=>by
 unfold sA at k
 split at k
 .rename_i p a hi m
  by_cases d:p=q
  .rw[AD d]at k
   subst d
   obtain⟨v,r,u,f,cl,doc,pm,s,ct,g,b⟩:=ab.slot i _ hi
   rw[l]at g;cases g
   have b:r9 c F S v:=⟨f,cl,doc,pm,s,ct,b⟩
   exact⟨v,r,Rk.ok k v F H (Ext.refl ab.fh) (.inr ⟨_,fr,sl,_,_,Gm,a,rfl,b,M,h1,h2,t,o,m⟩)⟩
  .rw[AE d]at k;exact k.elim
 .exact k.elim
def aAZ(sl:List Nat)(k n:Nat)(Gm:List A->List Dz->R Dz):Sg->R A:=λρ=>match iU sl ρ with
 | some caps=>.ok (.g k n (Gm caps))
 | none=>.bad
theorem aTI{S:ClSt}{fr:List Str}{sl:List Nat}{k n:Nat}{Gm:List A->List Dz->R Dz}{P0:Az}{qs:List (Pos×Str)}{cells:List (Str×Az)}(b:cells=c.cells)(l:c.g.T P0=some (.tbl qs))(M:CloOk X.prog X.w X.K X.mg X.base T S fr k n Gm)(h1:∀ y,(y,NameKind.free)∈S.scope.names->y∈fr)(h2:∀ y∈fr,(y,NameKind.free)∈S.scope.names)
  (m:sl.map (λj=>X.N[j]?)=fr.map some) (o:∀ j∈sl,j∈js) (h:PE X e (tMk cells S P0 qs)):PE X e (tK1 X T c js E (aAZ sl k n Gm)):=PE.imp h λσ H Q ⟨ρ,F,ab,k⟩=>by
 unfold aAZ at k
 split at k
 .rename_i a d
  exact aGU b l ab λv i H' e1 f=>Rk.ok k v i H' e1 (.inr ⟨_,fr,sl,_,_,Gm,a,rfl,f,M,h1,h2,m,o,d⟩)
 .exact k.elim
theorem aGY:PA X [] (tKs X T c js E aL):=PA.imp aP λσ H Q ⟨ρ,F,ab,k⟩=>Rk.ok k [] F H (Ext.refl ab.fh) trivial
end
section
variable{X:Cx}{T:Hp}{c:Ct}{js:List Nat}{E:XK}{e:E1}{es:List E1}
theorem mV{f:Sg->R A}{g:Sg->R (List A)}(h:PE X e (tK1 X T c js E f))(h2:PA X es (tKs X T c js E g))(i:starEach (e::es) X.env=(false,eval e X.env)::starEach es X.env:=by rfl):PA X (e::es) (tKs X T c js E (aA f g)):=PA.imp (aJ h h2 i) λσ H Q a=>by
 obtain⟨ρ,F,ab,k⟩:=a
 refine⟨ρ,F,ab,(Rk.bind k).imp λx _ q v d H1 s1 r1=>⟨ρ,d,ab.ext s1,((Rk.bind q).ext s1).imp λxs _ q vs j H2 b r2=>?_⟩⟩
 exact Rk.ok q (v::vs) j H2 (s1.trans b) ⟨r1.same b.ff,r2⟩
theorem aEC:∀ {js:List Nat} {ρ:Sg} {caps:List A},iU js ρ=some caps->∀ j∈js,∃ a,ρ[j]? = some (some a)
 | [],_,_,_,j,hj=>by simp at hj
 | i::js,ρ,caps,h,j,hj=>by
  unfold iU at h
  split at h
  .rename_i a b h1 h2
   rcases A6.mp hj with z|z
   · subst z; exact⟨a, (yS h1).1⟩
   · exact aEC h2 j z
  .cases h
theorem aQA{α:Type}{N:List α}{sl:List Nat}{fr:List α}(h:sl.map (λj=>N[j]?)=fr.map some):sl.length=fr.length/\∀ (i:Nat) x,fr[i]? = some x->∃ j,sl[i]? = some j/\N[j]? = some x:=by
 have a:sl.length=fr.length:=by have:=DF List.length h;simpa using this
 refine⟨a,λi x e=>?_⟩
 have hi:i < fr.length:=(AU.mp e).1
 have h2:(sl.map (λj=>N[j]?))[i]? = (fr.map some)[i]?:=by rw[h]
 grind
theorem aM7{S:ClSt}{fr:List Str}{sl:List Nat}{k n:Nat}{Gm:List A->List Dz->R Dz}{d:List A}{ρ:Sg}{σ:L2.St}{F H:Hp}{m:Cv}{v:V}(hG:c.g=gOf X.prog X.w X.K X.mg X.base T)(C:X.K=c.K)(G:X.mg=c.mg)(p:X.env.cells=c.cells)(ab:Ab c ρ σ F H)(R:PubRel X σ H js m)
  (Z:r9 c F S v) (M:CloOk X.prog X.w X.K X.mg X.base T S fr k n Gm) (h1:∀ y,(y,NameKind.free)∈S.scope.names->y∈fr) (h2:∀ y∈fr,(y,NameKind.free)∈S.scope.names)
  (U:sl.map (λj=>X.N[j]?)=fr.map some) (Q:∀ j∈sl,j∈js) (Y:iU sl ρ=some d):AF c.g c.K c.mg (pub m F) (.g k n (Gm d)) v:=by
 obtain⟨f,cl,doc,pm,cc,ct,rfl,q1,q2,u⟩:=Z
 obtain⟨cvs,r,l,W⟩:=aGW ab Y
 obtain⟨L,g3⟩:=aQA U
 have q:∀ b∈dZ m,F b=none:=λb hb=>cH ab.fh (R.free b hb)
 have D:aT F (pub m F):=mR q
 have t:∀ (i:Nat) x v,fr[i]? = some x->cvs[i]? = some v->∃ a o,cl.lookup x=some a/\m.lookup a=some (o,v):=λi x v e1 e2=>by
  obtain⟨j,h,s⟩:=g3 i x e1
  obtain⟨v',J,e6⟩:=W i j h
  rw[e2]at J;cases J
  obtain⟨x',a,o,v2,I,e8,O,aa⟩:=R.all j (Q j (AH h))
  rw[s]at I;cases I
  rw[e6]at O;cases O
  obtain⟨a',E⟩:=u.all (x,.free) (h2 x (AH e1)) rfl
  have ac:=u.of _ _ E
  grind
 refine⟨f,pub m F,rfl,cG _,?_⟩
 rw[hG]
 refine M F (pub m F) d cvs f cl doc pm ct cc (λa o z=>ab.f0 a o (ab.t0 a o (by rw[hG];exact z))) (by rw[C,G,<-C,<-G];rw[hG]at r;rw[<-C,<-G]at r;exact r) D (D _ _ q1) (D _ _ q2) ⟨l.trans L,λn c e=>h1 n (u.only n c e),λn n' c e P=>R.inj n n' c (by rw[p];exact u.of _ _ e) (by rw[p];exact u.of _ _ P),λi x v e1 e2=>?_⟩ λa ha=>?_
 .obtain ⟨a,o,h,s⟩:=t i x v e1 e2
  exact⟨a,o,h,tO s⟩
 .obtain ⟨x,hx,e⟩:=C8.mp ha
  obtain⟨i,hi,B⟩:=E3.mp hx
  obtain⟨a',o,h,s⟩:=t i x (cvs[i]'(by rw[l,L];exact hi)) (by rw[AW hi,B]) (AW _)
  rw[e]at h;cases h
  exact q a (jI.mpr ⟨_,s⟩)
theorem aB7{ρ:Sg}{σ:L2.St}{F H:Hp}{cv:Cv}(hG:c.g=gOf X.prog X.w X.K X.mg X.base T)(hK:X.K=c.K)(hM:X.mg=c.mg)(hcl:X.env.cells=c.cells)(ab:Ab c ρ σ F H)(R:PubRel X σ H js cv):∀ {as:List A} {vs:List V},aIQ X T c js ρ F as vs->AFs c.g c.K c.mg (pub cv F) as vs
 | [],[],_=>trivial
 | a::as,v::vs,h=>by
  refine⟨?_,aB7 hG hK hM hcl ab R h.2⟩
  rcases h.1 with q|⟨S,fr,sl,k,n,Gm,d,rfl,e,l,p,i,m,j,f⟩
  · exact AF.same (mR λb o => cH ab.fh (R.free b o)) q
  · exact aM7 hG hK hM hcl ab R e l p i m j f
def oV(js:List Nat)(n:Nat)(G:List A->R A)(f:Sg->R (List A)):Sg->R A:=λρ=>match iU js ρ with
 | some _=>(f ρ).bind λas=>if as.length=n then(dOf (G as)).bind λx=>.ok (.d x)else .bad
 | none=>.bad
theorem aKQ{n:Nat}{G:List A->R A}{g:Gb}{K:Frag}{mg:Str->O9 V9}{f:Sg->R (List A)}(hG:c.g=gOf X.prog X.w X.K X.mg X.base T)(W:X.K=c.K)(hM:X.mg=c.mg)(p:X.env.cells=c.cells)(M:g=c.g)(hk:K=c.K)(hm:mg=c.mg)
  (u:∀ j∈js,∃ x,X.N[j]? = some x/\X.env.kindOf x=some .cell/\X.fn x=true) (h:PE X e (aKA X js (spF g K mg n G) E (tKs X T c js E f))):PV X c E e (oV js n G f):=PE.imp h λσ H Q ⟨ρ,F,ab,k⟩=>by
 subst M hk hm
 unfold oV at k
 split at k
 .rename_i L V
  refine⟨ρ,F,ab,(Rk.bind k).imp λB _ q vs D H1 e1 r1=>⟨λj J=>?_,λI R=>?_⟩⟩
  .obtain ⟨x,O,a2,U⟩:=u j J
   obtain⟨a,Z⟩:=aEC V j J
   obtain⟨v,P,_⟩:=ab.slot j a Z
   exact⟨x,v,O,a2,U,P⟩
  .by_cases s:B.length=n
   .rw[AD s]at q
    have r:=ab.ext e1
    have t:∀ b∈dZ I,D b=none:=λb y=>cH e1.fh (R.free b y)
    refine⟨pub I D,B,λa o z=>mR t a o (e1.ff a o (ab.f0 a o (ab.t0 a o z))),aM6 e1.fh,aB7 hG W hM p r R r1,s,?_⟩
    cases i:G B with
    | bad=>rw[i]at q;exact q
    | ok a=>
     rw[i]at q
     cases a with
     | d x=>
      intro v Y H2 e2 r2
      exact Rk.ok q v _ _ (e1.trans (aB5 R.free e1.fh e2)) (aGR (aEA e2.ff) r2)
     | l xs=>exact False.elim q
     | m xs=>exact False.elim q
     | x xs=>exact False.elim q
     | g k n f=>exact False.elim q
     | k S=>exact False.elim q
     | f S=>exact False.elim q
     | o S=>exact False.elim q
    | ex x=>
     rw[i]at q
     intro a C Y H2 e2 r2
     obtain⟨q1,q2⟩:=aM5 (aEA e2.ff) r2
     exact⟨q a C _ _ ((ab.all.trans e1).trans (aB5 R.free e1.fh e2)) q1,λb y=>by cases y;exact q2⟩
   .rw[AE s]at q;exact q.elim
 .exact k.elim
end
section
variable{P:P9}{w:W9}{K:Frag}{mg:Str->O9 V9}{base:H9}{T:Hp}
def gF(G:List A->R A):List Dz->R Dz:=λds=>dOf (G (ds.map .d))
theorem aKR{k:Nat}{x:Str}{ps:List Str}{G:List A->R A}(C:aS P w K mg base T k x ps G):∃ f,mg x=some (.ref f)/\∀ F1,Beh P w K mg base T f F1 k ps.length (gF G):=by
 obtain⟨f,fd,F,b,m,i⟩:=C
 refine⟨f,m,λF1=>⟨fd,ps,rfl,b,F.imp λvs H Q E h=>?_,.inl i⟩⟩
 obtain⟨F,ds,_,h2,j,p,q,c⟩:=h
 refine⟨F,ds.map .d,h2,j,AFs.data p,by simpa using q,?_⟩
 unfold gF at c
 cases e:G (ds.map .d)with
 | bad=>rw[e]at c;exact c
 | ok a=>
  rw[e]at c
  cases a with
  | d x=>exact c
  | l xs=>exact False.elim c
  | m xs=>exact False.elim c
  | x xs=>exact False.elim c
  | g k n f=>exact False.elim c
  | k S=>exact False.elim c
  | f S=>exact False.elim c
  | o S=>exact False.elim c
 | ex x=>rw[e]at c;exact c
def aIS(k n:Nat)(G:List A->R A):Sg->R A:=λ_=>.ok (.g k n (gF G))
theorem aQB{X:Cx}{c:Ct}{E:XK}{k:Nat}{x:Str}{ps:List Str}{G:List A->R A}{p:Pos}(hG:c.g=gOf X.prog X.w X.K X.mg X.base T)(C:aS X.prog X.w X.K X.mg X.base T k x ps G)(b:Gl X x)(a:(x == ("__debug__":Str))=false:=by decide):PV X c E (.Name x p) (aIS k ps.length G):=by
 obtain⟨f,m,B⟩:=aKR C
 exact PE.imp (fA (v:=.ref f) b m rfl a) λσ H Q ⟨ρ,F,ab,k⟩=>Rk.ok k (.ref f) F H (Ext.refl ab.fh) ⟨f,F,rfl,cG F,by rw[hG];exact B F⟩
structure DefAtT(K:Frag)(mg:Str->Option V9)(base:Heap)(T:Hp)(qs:List (Pos×Str))(x:Str)(st:Stmt)(ps:List Str):Prop where
 ex:∃ f oc od kV doc pm an c0 ct osl P0,K.lookup f=some ⟨oc,od,.func (PySem.W.fnOf x x (iM st) (cX st) (aK st) .none kV doc pm an (.ref c0) ct),osl⟩/\PySem.W.codeIn K (.ref c0) x=true/\PySem.W.keepIn K (.ref f)=true /\
  kW K (PySem.W.fnOf x x (iM st) (cX st) (aK st) .none kV doc pm an (.ref c0) ct) ps []/\mg x=some (.ref f)/\Tb mg base c0 P0/\T P0=some (.tbl qs)
theorem aTJ{h:H9}{qs:List (Pos×Str)}{xs:List Str}{x:Str}{st:Stmt}{ps:List Str}(D:DefAt K mg x st ps)(n:K.In h)(p:aDQ mg h base T qs xs)(hx:x∈xs):DefAtT K mg base T qs x st ps:=by
 obtain⟨f,fd,F,b,m⟩:=D.ex
 obtain⟨i,od,kV,doc,pm,j,d,ct,c,rfl,g,a⟩:=F.ex
 obtain⟨c0,P0,k,l,o⟩:=p x hx
 have e:d=.ref c0:=o f _ _ m (n _ _ g) rfl
 subst e
 exact⟨f,i,od,kV,doc,pm,j,c0,ct,c,P0,g,a,F.kp,b,m,l,k⟩
theorem aGZ{x:Str}{st:Stmt}{N ps:List Str}{k:Nat}{qs:List (Pos×Str)}{cls:Str->O9 ClSt}{fb:Sg->R Fw}(D:DefAtT K mg base T qs x st ps)(S:FnScope N ps (aK st))
  (a:∀ (f c0 P0:Az) (A:U9) (outer:List Env) (s:S9) (H F:Hp) (E:XK),Tb mg base c0 P0->T P0=some (.tbl qs)->Room k (A.deeper (envOfC x (aK st) s.heap.objs.size f (.ref c0)))->
   lY ((cxOf (CXe P w) P w K mg base N x (aK st) f (.ref c0) A outer s H E).fly E) ⟨K,mg,w,F,H,gOf P w K mg base T,(envOfC x (aK st) s.heap.objs.size f (.ref c0)).cells,cls⟩ E (cX st) fb):aS P w K mg base T (k+1) x ps (fnF N.length fb):=by
 obtain⟨f,r,od,kV,doc,pm,t,c0,ct,o,P0,q,c,g,b,m,i,e⟩:=D.ex
 refine⟨f,_,aH1 q c S (λvs H Q E h=>?_) (λA outer s H vs Q E n h=>?_),b,m,g⟩
 .obtain ⟨F,p,_,_,h2,d,_⟩:=h
  rw[h2.len,d]
 .obtain ⟨F,p,l,h1,h2,d,j⟩:=h
  exact⟨_,(a f c0 P0 A outer s H F E i e n).unfly λ_ _ z=>aBW z,qK l h1 h2 j⟩
end
noncomputable def aTK:Stmt->E1
 | .Assign _ e _=>e
 | .Return (some e) _=>e
 | _=>.Constant .none 0 ⟨0,0,0,0⟩
noncomputable def aTL(e:E1)(i:Nat):E1:=match e with
 | .Call _ as _ _=>as.getD i (.Constant .none 0 ⟨0,0,0,0⟩)
 | e=>e
noncomputable def clS(q:Str):Stmt->ClSt
 | .FunctionDef x a b _ _ _ sc _ _ _=>⟨x,q,a,.stmts b,sc⟩
 | s=>⟨"",q,iM s,.stmts [],aK s⟩
noncomputable def clE(q:Str):E1->ClSt
 | .Lambda a b sc _=>⟨"<lambda>",q,a,.expr b,sc⟩
 | _=>⟨"",q,iM (.Pass ⟨0,0,0,0⟩),.stmts [],aK (.Pass ⟨0,0,0,0⟩)⟩
noncomputable def aTM:Stmt->Pos
 | .FunctionDef _ _ _ _ _ _ _ _ _ p=>p
 | _=>⟨0,0,0,0⟩
noncomputable def aWJ:E1->Pos
 | .Lambda _ _ _ p=>p
 | _=>⟨0,0,0,0⟩
theorem aKS{X:Cx}:∀ j∈([]:List Nat),∃ x,X.N[j]? = some x/\X.env.kindOf x=some .cell/\X.fn x=true:=by grind
theorem aA0{X:Cx}{i:Nat}{js:List Nat}(h:∃ x,X.N[i]? = some x/\X.env.kindOf x=some .cell/\X.fn x=true)(t:∀ j∈js,∃ x,X.N[j]? = some x/\X.env.kindOf x=some .cell/\X.fn x=true):∀ j∈i::js,∃ x,X.N[j]? = some x/\X.env.kindOf x=some .cell/\X.fn x=true:=λj a=>by
 grind
end Fl
namespace Zp
section
variable{prog:P9}{w:W9}{A:U9}{E:V9->S9->Prop}{s:S9}
theorem wD{it t:Az}{i:Nat}{items}{x:V9}{Q:V9->S9->Prop}(a:s.heap.IsTupleIter it t i)
  (h:s.heap.IsTuple t items) (hx:items[i]? = some x) (g:∀ h',h'.IsTupleIter it t (i+1)->Heap.SameBut it s.heap h'->Q x {s with heap:=h'}) :
  wpAny (model prog w) A (Builtin.SmallTypes.nextOf (.ref it)) Q E s:=by
 obtain⟨o,c,f,b⟩:=id a
 obtain⟨k,d,_,j,e⟩:=h
 unfold Builtin.SmallTypes.nextOf
 refine AB (DN (name:=Str.ofString "__next__") a.typeIs DG
  (EV DG a.typeIs FN ?_ (FK _)))
 show wpAny _ _ (field (.ref it) 0 >>= _) _ _ s
 refine AB (B8 c b (x:=.ref t) rfl ?_)
 show wpAny _ _ (if (Value.ref t == Value.none)=true then _ else _) _ _ s
 rw[AE (show ¬ ((Value.ref t == Value.none)=true)from CG)]
 show wpAny _ _ (field (.ref it) 1 >>= _) _ _ s
 refine AB (B8 c b (x:=.int i 0) rfl ?_)
 show wpAny _ _ (seqItems? (.ref t) >>= _) _ _ s
 refine AB (CS d e ?_)
 simp only[B2,hx]
 refine AB (EK c b (by simp) (AM ⟨x,rfl,AM (g _ ?_ (CF ..))⟩))
 exact⟨_,CJ _ c (EY (DS b _)),(Obj.cls_mapFields ..).trans f,by
  rw[DS b];simp[rawInt]⟩
theorem xB{it t:Az}{i:Nat}{items}{Q:V9->S9->Prop}(h:A.handled=none)
  (b:s.heap.IsTupleIter it t i) (k:s.heap.IsTuple t items) (hx:items[i]? = none)
  (j:∀ h' e,Heap.ExtBut it s.heap h'->(∃ o,h'.get? e=some o/\o.cls=.type "StopIteration")->E (.ref e) {s with heap:=h'}) :
  wpAny (model prog w) A (Builtin.SmallTypes.nextOf (.ref it)) Q E s:=by
 obtain⟨o,f,l,g⟩:=id b
 obtain⟨p,c,_,n,d⟩:=k
 unfold Builtin.SmallTypes.nextOf
 refine AB (DN (name:=Str.ofString "__next__") b.typeIs DG
  (EV DG b.typeIs FN ?_ (FK _)))
 show wpAny _ _ (field (.ref it) 0 >>= _) _ _ s
 refine AB (B8 f g (x:=.ref t) rfl ?_)
 show wpAny _ _ (if (Value.ref t == Value.none)=true then _ else _) _ _ s
 rw[AE (show ¬ ((Value.ref t == Value.none)=true)from CG)]
 show wpAny _ _ (field (.ref it) 1 >>= _) _ _ s
 refine AB (B8 f g (x:=.int i 0) rfl ?_)
 show wpAny _ _ (seqItems? (.ref t) >>= _) _ _ s
 refine AB (CS c d ?_)
 simp only[B2,hx]
 refine AB (E8 (AB (EK f g (by simp) ?_)))
 show wpAny _ _ (newExc (.type "StopIteration") [] >>= _) _ _ _
 refine AB ?_
 simp only[newExc,newTuple]
 refine AB (EQ ?_ (by size_fits))
 refine AB (m:=firstArgMember _ _) (wpAny_of_eq (a:=Value.none) (by first|rfl|(simp only[firstArgMember];rfl)) ?_)
 refine EQ ?_ (by size_fits)
 simp only[raiseNew]
 refine AB (wpAny_handled ?_)
 first|rw[show A.in1.handled=none from h]|rw[h]
 refine AB (AM (wpAny_throw ?_))
 exact j _ _ (((CF ..).extBut.push _).push _) ⟨_,A9 _ rfl,rfl⟩
end
theorem aFZ{prog:P9}{w:W9}{A:U9}(e:A.handled=none)(it l:Az)(c:l≠it)(items:Array V9) :
  Draws prog w A it [it,l] items.size (λi v=>items[i]? = some v) (λi h=>h.IsTupleIter it l i/\h.IsTuple l items) where
 live:=λ_ _ st=>let ⟨o,ho,_⟩:=st.1;⟨o,ho⟩
 frame:=λ_ _ _ st d=>⟨let ⟨o,ho,r⟩:=st.1;⟨o,d it (by simp) o ho,r⟩,let ⟨o,ho,r⟩:=st.2;⟨o,d l (by simp) o ho,r⟩⟩
 item:=λi s Q E hi st f=>by
  refine wD st.1 st.2 (x:=items[i]) (by simp[hi]) λh' a b=>?_
  exact f _ h' s.toks (by simp[hi]) ⟨a,st.2.extBut b.extBut c⟩ b
 done:=λs Q E st g=>xB e st.1 st.2 (by simp) g
structure Apart(z TI TO i1 i2:Az)(f1 f2:List Az):Prop where
 TIz:TI≠z
 TOz:TO≠z
 i1z:i1≠z
 i2z:i2≠z
 TITO:TI≠TO
 TIi1:TI≠i1
 TIi2:TI≠i2
 TOi1:TO≠i1
 TOi2:TO≠i2
 i12:i1≠i2
 z1:z∉f1
 z2:z∉f2
 t1:TO∉f1
 t2:TO∉f2
 i1f2:i1∉f2
 i2f1:i2∉f1
section
variable{prog:P9}{w:W9}{A:U9}{E:V9->S9->Prop}{s:S9}
abbrev pZ(h:H9)(z TI TO:Az)(f0 f1:V9):Prop:=h.get? z=some {cls:=.type "zip",dict:=none,data:=.fields #[f0,f1,.bool false,.ref TI,.ref TO],slots:=#[]}
theorem aM8{M:Model}{A:U9}{E:V9->S9->Prop}{s:S9}{a:Az}{Q:O9 Obj->S9->Prop}(h:Q (s.heap.get? a) s):wpAny M A (loadIfAlive a) Q E s:=λΓ p _=>by
 unfold loadIfAlive
 simp_all
theorem aB8{z TI TO:Az}{f0:V9}{b:Bool}{Q:Bool->S9->Prop}(hz:pZ s.heap z TI TO f0 (.bool b))(a:f0=.none\/∃ T:Az,f0=rawInt T/\s.heap.get? T=none)(h:Q true s):wpAny (model prog w) A (Builtin.SmallTypes.ownedTupleIsFree (.ref z)) Q E s:=by
 unfold Builtin.SmallTypes.ownedTupleIsFree
 refine AB (B8 hz rfl (x:=f0) rfl ?_)
 rcases a with rfl|⟨T,rfl,c⟩
 .exact AM h
 .show wpAny _ _ (loadIfAlive ((T:Int)).toNat >>= _) _ _ s
  refine AB (aM8 ?_)
  rw[show((T:Int)).toNat=T by omega,c]
  exact AM h
theorem aKT{z TI TO W Y:Az}{f1 f2:List Az}{n1 n2 i:Nat}{P1 P2:Nat->V9->Prop}{S1 S2:Nat->H9->Prop}{a b f0:V9}{bb:Bool}{Q:V9->S9->Prop}(D:Apart z TI TO W Y f1 f2)
  (D1:Draws prog w A W f1 n1 P1 S1) (D2:Draws prog w A Y f2 n2 P2 S2)
  (hz:pZ s.heap z TI TO f0 (.bool bb)) (ae:f0=.none\/∃ T:Az,f0=rawInt T/\s.heap.get? T=none) (ah:IsPair s.heap TI (.ref W) (.ref Y)) (ai:IsPair s.heap TO a b) (h1:S1 i s.heap) (h2:S2 i s.heap) (l1:i < n1) (l2:i < n2)
  (hQ:∀ x y h' tk,P1 i x->P2 i y->IsZip h' z TI TO (rawInt s.heap.objs.size)->IsPair h' TO x y->S1 (i+1) h'->S2 (i+1) h'->IsPair h' s.heap.objs.size x y->h'.objs.size=s.heap.objs.size+1->
   (∀ c o,c≠z->c≠TO->c≠W->c≠Y->s.heap.get? c=some o->h'.get? c=some o)->Q (.ref s.heap.objs.size) {s with heap:=h',toks:=tk}) :
  wpAny (model prog w) A (Builtin.«zip.__next__» ⟨[.ref z],[]⟩) (λad s'=>∃ v,ad=.done (.ret v)/\Q v s') E s:=by
 show wpAny _ _ (field (.ref z) 2 >>= _) _ _ _
 refine AB (B8 hz rfl (x:=.bool false) rfl ?_)
 show wpAny _ _ (field (.ref z) 3 >>= _) _ _ _
 refine AB (B8 hz rfl (x:=.ref TI) rfl ?_)
 refine AB (CS ah rfl ?_)
 show wpAny _ _ (Builtin.SmallTypes.ownedTupleIsFree (.ref z) >>= _) _ _ _
 refine AB (aB8 hz ae ?_)
 simp only[BU]
 refine AB (E8 ?_)
 refine AB (B8 hz rfl (x:=.ref TO) rfl ?_)
 refine AB (C9 hz (by simp) λM F n=>?_)
 replace F:pZ M z TI TO .ellipsis (.bool bb):=F
 refine AB ?_
 simp only[List.zipIdx_cons,List.zipIdx_nil,DR,FJ]
 have fr:∀ {f:List Az} {c:Az} {g g':H9},Heap.SameBut c g g'->c∉f->∀ b∈f,∀ o,g.get? b=some o->g'.get? b=some o:=λhs hc b hb o e=>hs.extBut _ _ (λz=>hc (z▸hb)) e
 refine AB (AB (FU ?_))
 show wpAny _ _ (Builtin.SmallTypes.nextOf (.ref W) >>= _) _ _ _
 refine AB (D1.item i {s with heap:=M} _ _ l1 (D1.frame _ _ _ h1 (fr n D.z1)) λx H ag px P j=>AM ?_)
 have J:IsPair H TO a b:=j.extBut _ _ D.TOi1 (n.extBut _ _ D.TOz ai)
 refine AB (CS J rfl ?_)
 refine AB (E9 J λK r l=>?_)
 replace r:IsPair K TO x b:=r
 refine AB (wpAny_letGo (AM ?_))
 refine AB (AB (FU ?_))
 show wpAny _ _ (Builtin.SmallTypes.nextOf (.ref Y) >>= _) _ _ _
 refine AB (D2.item i {s with heap:=K,toks:=ag} _ _ l2 (D2.frame _ _ _ (D2.frame _ _ _ (D2.frame _ _ _ h2 (fr n D.z2)) (fr j D.i1f2)) (fr l D.t2)) λy G af py R k=>AM ?_)
 have k:Heap.SameBut Y K G:=k
 have j:Heap.SameBut W M H:=j
 have I:IsPair G TO x b:=k.extBut _ _ D.TOi2 r
 refine AB (CS I rfl ?_)
 refine AB (E9 I λd m h=>?_)
 replace m:IsPair d TO x y:=m
 refine AB (wpAny_letGo (AM (AM ?_)))
 refine AB (CS m rfl ?_)
 refine AB (wpAny_newTuple ?_)
 have aa:d.objs.size=s.heap.objs.size:=by rw[h.1];show G.objs.size=_;rw[k.1,l.1];show H.objs.size=_;rw[j.1,n.1]
 have l:Heap.SameBut TO H K:=l
 have h:Heap.SameBut TO G d:=h
 have L:pZ d z TI TO .ellipsis (.bool bb):=h.extBut _ _ D.TOz.symm (k.extBut _ _ D.i2z.symm (l.extBut _ _ D.TOz.symm (j.extBut _ _ D.i1z.symm F)))
 have S:∀ c o,c≠z->c≠TO->c≠W->c≠Y->s.heap.get? c=some o->d.get? c=some o:=λc o X c2 c3 c4 e=>
  h.extBut _ _ c2 (k.extBut _ _ c4 (l.extBut _ _ c2 (j.extBut _ _ c3 (n.extBut _ _ X e))))
 have Z:S1 (i+1) d:=D1.frame _ _ _ (D1.frame _ _ _ (D1.frame _ _ _ P (fr l D.t1)) (fr k D.i2f1)) (fr h D.t1)
 have V:S2 (i+1) d:=D2.frame _ _ _ R (fr h D.t2)
 have O:z < d.objs.size:=AT L
 show wpAny _ _ (Builtin.SmallTypes.ownedTupleHandOut (.ref z) (.ref d.objs.size) >>= _) _ _ _
 refine AB ?_
 unfold Builtin.SmallTypes.ownedTupleHandOut
 have U:pZ (d.push {cls:=.type "tuple",data:=.seq #[x,y]}) z TI TO .ellipsis (.bool bb):=AC _ L
 refine AB (C9 U (by simp) λh₇ u B=>?_)
 replace u:pZ h₇ z TI TO (rawInt d.objs.size) (.bool bb):=u
 refine C9 u (by simp) λt p C=>?_
 replace p:IsZip t z TI TO (rawInt d.objs.size):=p
 have up:∀ c o,c≠z->d.get? c=some o->t.get? c=some o:=λc o X e=>C.extBut _ _ X (B.extBut _ _ X (AC _ e))
 have N:IsPair t d.objs.size x y:=C.extBut _ _ (DL O) (B.extBut _ _ (DL O) (A9 _ rfl))
 have ac:t.objs.size=d.objs.size+1:=by rw[C.1,B.1,B4]
 rw[aa]at p N ac
 refine AM ⟨_,rfl,?_⟩
 show Q (.ref d.objs.size) _
 rw[aa]
 exact hQ x y t af px py p (up _ _ D.TOz m) (D1.frame _ _ _ Z λb hb o e=>up b o (λq=>D.z1 (q▸hb)) e) (D2.frame _ _ _ V λb hb o e=>up b o (λq=>D.z2 (q▸hb)) e) N ac λc o X c2 c3 c4 e=>up c o X (S c o X c2 c3 c4 e)
theorem aM9{z TI TO F G:Az}{f1 Y:List Az}{n1 n2 i:Nat}{P1 P2:Nat->V9->Prop}{Z S2:Nat->H9->Prop}{a b f0:V9}{L:Bool}{Q:Fin->S9->Prop}(D:Apart z TI TO F G f1 Y)
  (O:Draws prog w A F f1 n1 P1 Z) (M:Draws prog w A G Y n2 P2 S2)
  (hz:pZ s.heap z TI TO f0 (.bool L)) (R:f0=.none\/∃ T:Az,f0=rawInt T/\s.heap.get? T=none) (W:IsPair s.heap TI (.ref F) (.ref G)) (X:IsPair s.heap TO a b) (h1:Z i s.heap) (h2:S2 i s.heap) (H:i=n1\/(i < n1/\i=n2))
  (hE:∀ h' tk e,(∀ c o,c≠z->c≠TO->c≠F->c≠G->s.heap.get? c=some o->h'.get? c=some o)->(∃ o,h'.get? e=some o/\o.cls=.type "StopIteration")->E (.ref e) {s with heap:=h',toks:=tk}) :
  wpAny (model prog w) A (Builtin.«zip.__next__» ⟨[.ref z],[]⟩) Q E s:=by
 show wpAny _ _ (field (.ref z) 2 >>= _) _ _ _
 refine AB (B8 hz rfl (x:=.bool false) rfl ?_)
 show wpAny _ _ (field (.ref z) 3 >>= _) _ _ _
 refine AB (B8 hz rfl (x:=.ref TI) rfl ?_)
 refine AB (CS W rfl ?_)
 show wpAny _ _ (Builtin.SmallTypes.ownedTupleIsFree (.ref z) >>= _) _ _ _
 refine AB (aB8 hz R ?_)
 simp only[BU]
 refine AB (E8 ?_)
 refine AB (B8 hz rfl (x:=.ref TO) rfl ?_)
 refine AB (C9 hz (by simp) λq l j=>?_)
 replace l:pZ q z TI TO .ellipsis (.bool L):=l
 refine AB ?_
 simp only[List.zipIdx_cons,List.zipIdx_nil,DR,FJ]
 have fr:∀ {f:List Az} {c:Az} {g g':H9},Heap.SameBut c g g'->c∉f->∀ b∈f,∀ o,g.get? b=some o->g'.get? b=some o:=λhs hc b hb o e=>hs.extBut _ _ (λz=>hc (z▸hb)) e
 refine AB (AB (FU ?_))
 show wpAny _ _ (Builtin.SmallTypes.nextOf (.ref F) >>= _) _ _ _
 rcases H with rfl|⟨l1,rfl⟩
 .refine AB (O.done {s with heap:=q} _ _ (O.frame _ _ _ h1 (fr j D.z1)) λm e d U=>?_)
  obtain⟨V,p,y⟩:=U
  have u:pZ m z TI TO .ellipsis (.bool L):=d _ _ D.i1z.symm l
  have C:e≠z:=λx=>by subst x;rw[u]at p;cases p;simp at y
  refine C9 u (by simp) λn _ h=>hE n s.toks e (λc o J _ S _ x=>h.extBut _ _ J (d _ _ S (j.extBut _ _ J x))) ⟨V,h.extBut _ _ C p,y⟩
 .refine AB (O.item i {s with heap:=q} _ _ l1 (O.frame _ _ _ h1 (fr j D.z1)) λx m I px P d=>AM ?_)
  have d:Heap.SameBut F q m:=d
  have r:IsPair m TO a b:=d.extBut _ _ D.TOi1 (j.extBut _ _ D.TOz X)
  refine AB (CS r rfl ?_)
  refine AB (E9 r λn N h=>?_)
  have h:Heap.SameBut TO m n:=h
  refine AB (wpAny_letGo (AM ?_))
  refine AB (AB (FU ?_))
  show wpAny _ _ (Builtin.SmallTypes.nextOf (.ref G) >>= _) _ _ _
  refine AB (M.done {s with heap:=n,toks:=I} _ _ (M.frame _ _ _ (M.frame _ _ _ (M.frame _ _ _ h2 (fr j D.z2)) (fr d D.i1f2)) (fr h D.t2)) λB e k U=>?_)
  have k:Heap.ExtBut G n B:=k
  obtain⟨V,p,y⟩:=U
  have v:pZ B z TI TO .ellipsis (.bool L):=k _ _ D.i2z.symm (h.extBut _ _ D.TOz.symm (d.extBut _ _ D.i1z.symm l))
  have C:e≠z:=λx=>by subst x;rw[v]at p;cases p;simp at y
  refine C9 v (by simp) λK _ t=>hE K I e (λc o J c2 S c4 x=>t.extBut _ _ J (k _ _ c4 (h.extBut _ _ c2 (d.extBut _ _ S (j.extBut _ _ J x))))) ⟨V,t.extBut _ _ C p,y⟩
theorem aNA{z TI TO e d:Az}{p m:List Az}{n1 n2 i:Nat}{l n:Nat->V9->Prop}{j g:Nat->H9->Prop}{a b:V9}{Q:V9->S9->Prop}(D:Apart z TI TO e d p m)
 (t:Draws prog w A e p n1 l j) (u:Draws prog w A d m n2 n g)
 (hz:IsZip s.heap z TI TO .none) (k:IsPair s.heap TI (.ref e) (.ref d)) (f:IsPair s.heap TO a b) (h1:j i s.heap) (h2:g i s.heap) (B:i < n1) (q:i < n2)
 (r:∀ x y h' tk,l i x->n i y->IsZip h' z TI TO (rawInt s.heap.objs.size)->IsPair h' TO x y->j (i+1) h'->g (i+1) h'->IsPair h' s.heap.objs.size x y->h'.objs.size=s.heap.objs.size+1->
  (∀ c o,c≠z->c≠TO->c≠e->c≠d->s.heap.get? c=some o->h'.get? c=some o)->Q (.ref s.heap.objs.size) {s with heap:=h',toks:=tk}) :
 wpAny (model prog w) A (Builtin.«zip.__next__» ⟨[.ref z],[]⟩) (λh s'=>∃ v,h=.done (.ret v)/\Q v s') E s:=aKT D t u hz (.inl rfl) k f h1 h2 B q r
theorem aQC{z TI TO f g:Az}{n k:List Az}{n1 n2 i:Nat}{p u:Nat->V9->Prop}{m l:Nat->H9->Prop}{a b:V9}{Q:Fin->S9->Prop}(D:Apart z TI TO f g n k)
 (r:Draws prog w A f n n1 p m) (t:Draws prog w A g k n2 u l)
 (hz:IsZip s.heap z TI TO .none) (j:IsPair s.heap TI (.ref f) (.ref g)) (h:IsPair s.heap TO a b) (h1:m i s.heap) (h2:l i s.heap) (d:i=n1\/(i < n1/\i=n2))
 (q:∀ h' tk e,(∀ c o,c≠z->c≠TO->c≠f->c≠g->s.heap.get? c=some o->h'.get? c=some o)->(∃ o,h'.get? e=some o/\o.cls=.type "StopIteration")->E (.ref e) {s with heap:=h',toks:=tk}) :
 wpAny (model prog w) A (Builtin.«zip.__next__» ⟨[.ref z],[]⟩) Q E s:=aM9 D r t hz (.inl rfl) j h h1 h2 d q
theorem aKU{z TI TO e d:Az}{n m:List Az}{n1 n2 i:Nat}{k l:Nat->V9->Prop}{h g:Nat->H9->Prop}{a b:V9}{Q:O9 V9->S9->Prop}(D:Apart z TI TO e d n m)
  (K:Draws prog w A.in1 e n n1 k h) (I:Draws prog w A.in1 d m n2 l g)
  (hz:IsZip s.heap z TI TO .none) (j:IsPair s.heap TI (.ref e) (.ref d)) (f:IsPair s.heap TO a b) (h1:h i s.heap) (h2:g i s.heap) (L:i < n1) (t:i < n2)
  (B:∀ x y h' tk,k i x->l i y->IsZip h' z TI TO (rawInt s.heap.objs.size)->IsPair h' TO x y->h (i+1) h'->g (i+1) h'->IsPair h' s.heap.objs.size x y->h'.objs.size=s.heap.objs.size+1->
   (∀ c o,c≠z->c≠TO->c≠e->c≠d->s.heap.get? c=some o->h'.get? c=some o)->Q (some (.ref s.heap.objs.size)) {s with heap:=h',toks:=tk}) :
  wpAny (model prog w) A (pyNext (.ref z)) Q E s:=by
 have p:s.TypeIs (.ref z) "zip":=⟨_,hz,rfl⟩
 unfold pyNext
 exact AB (FR (DN (name:=Str.ofString "__next__") p FA
  (EV FA p F.entry_zip_next
   (aNA D K I hz j f h1 h2 L t λx y h' tk q p2 u v H C G J r=>AM (B x y h' tk q p2 u v H C G J r)) (F.args_zip_next_1 _))))
theorem aNB{z TI TO g f:Az}{n l:List Az}{n1 n2 i:Nat}{r u:Nat->V9->Prop}{m k:Nat->H9->Prop}{a b:V9}{Q:O9 V9->S9->Prop}(D:Apart z TI TO g f n l)
  (C:Draws prog w A.in1 g n n1 r m) (B:Draws prog w A.in1 f l n2 u k)
  (hz:IsZip s.heap z TI TO .none) (j:IsPair s.heap TI (.ref g) (.ref f)) (h:IsPair s.heap TO a b) (h1:m i s.heap) (h2:k i s.heap) (d:i=n1\/(i < n1/\i=n2))
  (v:∀ h' tk,(∀ c o,c≠z->c≠TO->c≠g->c≠f->s.heap.get? c=some o->h'.get? c=some o)->Q none {s with heap:=h',toks:=tk}):wpAny (model prog w) A (pyNext (.ref z)) Q E s:=by
 have p:s.TypeIs (.ref z) "zip":=⟨_,hz,rfl⟩
 unfold pyNext
 refine AB (FR (DN (name:=Str.ofString "__next__") p FA
  (EV FA p F.entry_zip_next (aQC D C B hz j h h1 h2 d λh' tk e y t=>?_) (F.args_zip_next_1 _))))
 obtain⟨o,x,q⟩:=t
 refine AB (wpAny_isInstance (T:="StopIteration") (b:=true) ⟨o,x,q⟩ isSubtype_stop ?_)
 exact AM (v _ _ y)
end
def oW(v:V9)(o:Obj)(h:H9):Prop:=∀ (prog:P9) (w:W9) (A:U9) (E:V9->S9->Prop) (s:S9) (Q:V9->S9->Prop),s.heap=h->Q (.ref h.objs.size) {s with heap:=h.push o}->wpAny (model prog w) A (pyIter v) Q E s
noncomputable abbrev H2(h:H9)(o1 o2:Obj):H9:=(h.push o1).push o2
noncomputable abbrev H3(h:H9)(o1 o2:Obj):H9:=(H2 h o1 o2).push {cls:=.type "tuple",data:=.seq #[.ref h.objs.size,.ref (h.push o1).objs.size]}
noncomputable abbrev H4(h:H9)(o1 o2:Obj):H9:=(H3 h o1 o2).push {cls:=.type "tuple",data:=.seq #[.none,.none]}
noncomputable abbrev H5(h:H9)(o1 o2:Obj):H9:=(H4 h o1 o2).push {cls:=.type "zip",data:=.fields #[.none,.bool false,.bool false,.ref (H2 h o1 o2).objs.size,.ref (H3 h o1 o2).objs.size]}
theorem aKV(f j:V9)(a e:Obj) :
  Meets (Builtin.«zip.__new__» ⟨[.type "zip",f,j],[]⟩) (λ_ R s=>oW f a s.heap/\oW j e (s.heap.push a) /\
   R (.ok (.ret (.ref (H4 s.heap a e).objs.size))) {s with heap:=H5 s.heap a e}):=
 .of_wp λprog w A R s h=>by
  obtain⟨b,g,d,c,os⟩:=s;obtain⟨k,l,h⟩:=h
  have m:=sub_zip
  have n:∀ {A:U9} {E:V9->S9->Prop} {Q:V9->S9->Prop},Q (.ref b.objs.size) ⟨b.push a,g,d,c,os⟩->wpAny (model prog w) A (pyIter f) Q E ⟨b,g,d,c,os⟩:=λi=>k prog w _ _ ⟨b,g,d,c,os⟩ _ rfl i
  have p2:∀ {A:U9} {E:V9->S9->Prop} {Q:V9->S9->Prop},Q (.ref (b.push a).objs.size) ⟨(b.push a).push e,g,d,c,os⟩->wpAny (model prog w) A (pyIter j) Q E ⟨b.push a,g,d,c,os⟩:=λi=>l prog w _ _ ⟨b.push a,g,d,c,os⟩ _ rfl i
  wp_walk using n,p2
  exact⟨_,rfl,h⟩
section
variable{prog:P9}{w:W9}{A:U9}{E:V9->S9->Prop}{s:S9}
theorem aNC{k e:V9}{a b:Obj}{Q:V9->S9->Prop}(h1:oW k a s.heap)(h2:oW e b (s.heap.push a))(t:a.isFreed=false)(r:b.isFreed=false)
  (h:∀ h',IsZip h' (s.heap.objs.size+4) (s.heap.objs.size+2) (s.heap.objs.size+3) .none->IsPair h' (s.heap.objs.size+2) (.ref s.heap.objs.size) (.ref (s.heap.objs.size+1))->
   IsPair h' (s.heap.objs.size+3) .none .none->h'.get? s.heap.objs.size=some a->h'.get? (s.heap.objs.size+1)=some b->h'.objs.size=s.heap.objs.size+5->
   (∀ c o,s.heap.get? c=some o->h'.get? c=some o)->Q (.ref (s.heap.objs.size+4)) {s with heap:=h'}) :
  wpAny (model prog w) A (call (.type "zip") [k,e]) Q E s:=by
 refine callType_new F.called_zip (by decide) (F.typeCall_zip_2 _ _) (F.newCall_zip_2 _ _) (λobj=>F.args_object_init_3 obj _ _) F.entry_zip_new
  (aKV k e a b) ⟨h1,h2,?_⟩
 have j:(s.heap.push a).objs.size=s.heap.objs.size+1:=B4 ..
 have i:(H2 s.heap a b).objs.size=s.heap.objs.size+2:=by rw[B4,j]
 have d:(H3 s.heap a b).objs.size=s.heap.objs.size+3:=by rw[B4,i]
 have f:(H4 s.heap a b).objs.size=s.heap.objs.size+4:=by rw[B4,d]
 have p:(H5 s.heap a b).objs.size=s.heap.objs.size+5:=by rw[B4,f]
 have g:(H5 s.heap a b).get? (H4 s.heap a b).objs.size=some _:=A9 _ rfl
 have n:(H5 s.heap a b).get? (H3 s.heap a b).objs.size=some _:=AC _ (A9 _ rfl)
 have m:(H5 s.heap a b).get? (H2 s.heap a b).objs.size=some _:=AC _ (AC _ (A9 _ rfl))
 have l:(H5 s.heap a b).get? (s.heap.push a).objs.size=some b:=AC _ (AC _ (AC _ (A9 _ r)))
 have q:(H5 s.heap a b).get? s.heap.objs.size=some a:=AC _ (AC _ (AC _ (AC _ (A9 _ t))))
 show _/\_
 rw[i,d,f]at g
 rw[j,i]at m
 rw[d]at n
 rw[j]at l
 rw[f]
 exact⟨⟨_,g,rfl⟩,h _ g m n q l p λc o x=>
  AC _ (AC _ (AC _ (AC _ (AC _ x))))⟩
end
end Zp
namespace L2
open PySem.Spec PyProof.Rows
abbrev Col:=Hp->List V->Prop
structure ColOk(P:Program)(w:World)(K:Frag)(C:Col)(it:Az)(tn:Nat->Heap->Prop):Prop where
 obj:∀ i h,tn i h->∃ o,h.get? it=some o/\∀ v,o.data≠.cell v
 keep:∀ i h h',tn i h->(∀ o,h.get? it=some o->h'.get? it=some o)->tn i h'
 one:∀ (X:Cx),X.prog=P->X.w=w->X.K=K->∀ a5 s σ H xs ys,Inv X a5 σ H s->C H xs->C H ys->xs=ys
 draw:∀ (X:Cx),X.prog=P->X.w=w->X.K=K->∀ (i:Nat) (a5:List (Az×Obj)) (s:S9) (σ:St) (H:Hp) (xs:List V) (A:Around),Inv X a5 σ H s->kL X a5 H it->tn i s.heap->C H xs->A.handled=none->
  ∃ fp Pv St,Draws P w A it fp xs.length Pv St/\St i s.heap/\(∀ j h,St j h->tn j h)/\(∀ j v,Pv j v->∃ x,xs[j]? = some x/\bO x v)/\∀ b,kL X a5 H b->b≠it->b∉fp
theorem aG0{X:Cx}{a5:List (Az×Obj)}{σ:St}{H:Hp}{s:S9}{b a:Az}{o:Obj}(I:Inv X a5 σ H s)(d:kL X a5 H b)(e:X.base.get? a=some o):b≠a:=by
 obtain⟨_,_,_,f,_⟩:=d
 intro z
 rcases f with c|c
 .exact I.ok.noex a o e (z▸c)
 .have h:=AT e
  have g:=I.ok.bsz
  grind
theorem aKW{X:Cx}{a5:List (Az×Obj)}{σ:St}{H:Hp}{s:S9}{b a:Az}{xs:List V}(I:Inv X a5 σ H s)(c:kL X a5 H b)(h:SqL X.K H a xs):b≠a:=by
 rcases h with (h|⟨o,h⟩)|⟨o,vs,n,h,_⟩
 · intro z; rw [<- z, c.1]at h; cases h
 · intro z; rw [<- z, c.1]at h; cases h
 · exact aG0 I c (I.ok.mod.kin _ _ h)
theorem aKX{X:Cx}{a5:List (Az×Obj)}{σ:St}{H:Hp}{s:S9}{b a:Az}{xs:List V}(I:Inv X a5 σ H s)(c:kL X a5 H b)(h:SqT X.K H a xs):b≠a:=by
 rcases h with (h|⟨o,h⟩)|⟨o,vs,n,h,_⟩
 · intro z; rw [<- z, c.1]at h; cases h
 · intro z; rw [<- z, c.1]at h; cases h
 · exact aG0 I c (I.ok.mod.kin _ _ h)
theorem aND{P:P9}{w:W9}{K:Frag}(a it:Az):ColOk P w K (λH xs=>SqL K H a xs) it (λi h=>h.IsListIter it a i) where
 obj:=λi h ⟨o,e,c,d⟩=>⟨o,e,λv z=>by rw[d]at z;cases z⟩
 keep:=λi h h' st k=>st.at λo e=>k o e
 one:=by
  intro X r q g a5 s σ H xs ys I h1 h2
  subst g
  exact I.list_inj h1 h2
 draw:=by
  intro X r q g i a5 s σ H xs A I C st m D
  subst r q g
  obtain⟨f,l,p,E⟩:=I.list m
  have n:=aKW I C m
  refine⟨[it,a],(λi v=>f.toArray[i]? = some v),(λi h=>h.IsListIter it a i/\h.IsList a f.toArray),by rw[show xs.length=f.toArray.size by rw[l.length];simp];exact Draws.list D it a (BS n) f.toArray,⟨st,p.isList⟩,λj h z=>z.1,λj v e=>?_,λb B J y=>?_⟩
  .have t:f[j]? = some v:=by simpa using e
   have x:j < xs.length:=by rw[l.length];exact(AU.mp t).1
   obtain⟨u,F,G⟩:=l.get (AW x)
   grind
  .rcases A6.mp y with z|z
   · grind
   · exact aKW I B m (by simpa using z)
theorem aKY{P:P9}{w:W9}{K:Frag}(a it:Az):ColOk P w K (λH xs=>SqT K H a xs) it (λi h=>h.IsTupleIter it a i) where
 obj:=λi h ⟨o,e,c,d⟩=>⟨o,e,λv z=>by rw[d]at z;cases z⟩
 keep:=λi h h' ⟨o,e,r⟩ k=>⟨o,k o e,r⟩
 one:=by
  intro X t q g a5 s σ H xs ys I h1 h2
  subst g
  exact I.tuple_inj h1 h2
 draw:=by
  intro X t q g i a5 s σ H xs A I D st m E
  subst t q g
  obtain⟨f,l,p,F⟩:=I.tuple m
  have n:=aKX I D m
  refine⟨[it,a],(λi v=>f.toArray[i]? = some v),(λi h=>h.IsTupleIter it a i/\h.IsTuple a f.toArray),by rw[show xs.length=f.toArray.size by rw[l.length];simp];exact Zp.aFZ E it a (BS n) f.toArray,⟨st,p⟩,λj h z=>z.1,λj v e=>?_,λb C L B=>?_⟩
  .have x:f[j]? = some v:=by simpa using e
   have y:j < xs.length:=by rw[l.length];exact(AU.mp x).1
   obtain⟨u,G,J⟩:=l.get (AW y)
   grind
  .rcases A6.mp B with z|z
   · grind
   · exact aKX I C m (by simpa using z)
noncomputable def xC(z:Str):List V:=z.cps.toList.map λc=>V.str ⟨#[c]⟩
theorem aQD{P:P9}{w:W9}{K:Frag}(z:Str)(t:Tok)(it:Az):ColOk P w K (λ_ xs=>xs=xC z) it (λi h=>h.IsStrIter it (strIterType z) z t i) where
 obj:=λi h ⟨o,e,c,d⟩=>⟨o,e,λv z=>by rw[d]at z;cases z⟩
 keep:=λi h h' ⟨o,e,r⟩ k=>⟨o,k o e,r⟩
 one:=λ_ _ _ _ _ _ _ _ _ _ _ h1 h2=>h1.trans h2.symm
 draw:=by
  intro X p g f i a5 s σ H xs A I y st l a
  subst p g f l
  have n:Draws X.prog X.w A it [it] z.cps.size (λi v=>∃ c u,z.cps[i]? = some c/\v=.str ⟨#[c]⟩ u) (λi h=>h.IsStrIter it (strIterType z) z t i):=by
   unfold strIterType
   split
   · exact Draws.strAscii a it z t
   · exact Draws.strWide a it z t
  refine⟨[it],_,_,by rw[show(xC z).length=z.cps.size by unfold xC;simp];exact n,st,λj h z=>z,?_,λb x q m=>q (by simpa using m)⟩
  rintro j v ⟨c,u,hc,rfl⟩
  exact⟨.str ⟨#[c]⟩,by unfold xC;rw[AG,GW,hc];rfl,u,rfl⟩
def Itz(C1 C2:Col):It:=
 ⟨λi H=>∃ xs ys,C1 H xs/\C2 H ys/\i < xs.length/\i < ys.length,λi H x H'=>∃ p u v,H p=none/\x=.ref p/\H'=upd H p (.tup [u,v])/\(∀ xs,C1 H xs->xs[i]? = some u)/\∀ ys,C2 H ys->ys[i]? = some v,
  λi H=>∃ xs ys,C1 H xs/\C2 H ys/\(i=xs.length\/(i < xs.length/\i=ys.length))⟩
theorem aNE{P:P9}{w:W9}{K:Frag}{es:List E1}{k1}{aa:Pos}{C1 C2:Col}{z TI TO l j:Az}{t1 t2:Nat->H9->Prop}(W:ColOk P w K C1 l t1)(Q:ColOk P w K C2 j t2)(hd:[z,TI,TO,l,j].Nodup) :
  Turn P w K (.Tuple es k1 aa) (Itz C1 C2) [z,TI,TO,l,j] z (λi h=>IsZip h z TI TO .none/\IsPair h TI (.ref l) (.ref j)/\(∃ a b,IsPair h TO a b)/\t1 i h/\t2 i h) where
 mem:=by simp
 obj:=λi h ak c hc=>by
  obtain⟨s1,M,⟨a,b,O⟩,L,N⟩:=ak
  simp only[A6,CP,EW]at hc
  rcases hc with rfl|rfl|rfl|rfl|rfl
  .grind
  .grind
  .grind
  .exact W.obj i h L
  .exact Q.obj i h N
 keep:=λi h h' ⟨s1,M,⟨a,b,O⟩,L,N⟩ k=>⟨k z (by simp) _ s1,k TI (by simp) _ M,⟨a,b,k TO (by simp) _ O⟩,W.keep i h h' L λo e=>k l (by simp) o e,Q.keep i h h' N λo e=>k j (by simp) o e⟩
 item:=by
  intro X G C F hc i a5 s σ H E I f st hg
  obtain⟨s1,M,⟨a,b,O⟩,L,N⟩:=st
  obtain⟨xs,ys,q1,q2,l1,l2⟩:=hg
  simp only[DP,A6,CP,EW,not_or,D4,and_true,not_false_eq_true]at hd
  obtain⟨⟨d1,d2,Z,Y⟩,⟨d5,d6,d7⟩,⟨d8,d9⟩,p⟩:=hd
  have B:X.A.in1.handled=none:=I.ok.hd hc
  obtain⟨f1,P1,S1,D1,a1,a2,a3,T⟩:=W.draw X G C F i a5 s σ H xs X.A.in1 I (f l (by simp)) L q1 B
  obtain⟨f2,P2,S2,D2,b1,b2,b3,R⟩:=Q.draw X G C F i a5 s σ H ys X.A.in1 I (f j (by simp)) N q2 B
  have af:=λzs (h:C1 H zs)=>W.one X G C F a5 s σ H zs xs I h q1
  have ad:=λzs (h:C2 H zs)=>Q.one X G C F a5 s σ H zs ys I h q2
  subst G C F
  have D:Zp.Apart z TI TO l j f1 f2:=⟨BS d1,BS d2,BS Z,BS Y,d5,d6,d7,d8,d9,p,T z (f z (by simp)) Z,R z (f z (by simp)) Y,T TO (f TO (by simp)) d8,R TO (f TO (by simp)) d9,R l (f l (by simp)) p,T j (f j (by simp)) (BS p)⟩
  refine Zp.aKU D D1 D2 s1 M O a1 b1 l1 l2 λx y h' tk px py g1 g2 g3 g4 g5 g6 kp=>?_
  obtain⟨u,hu,ru⟩:=a3 i x px
  obtain⟨v,hv,rv⟩:=b3 i y py
  refine⟨_,rfl,wpAny_letOwnedTupleGo_zip g1 λh2 se sb=>?_⟩
  have al:s.heap.objs.size≠z:=DL (AT s1)
  have aj:h2.get? s.heap.objs.size=some {cls:=.type "tuple",data:=.seq #[x,y]}:=(sb.2 _ al).trans g5
  have fT:H s.heap.objs.size=none:=I.hok.fresh (AQ _)
  have g:∀ c o,c∉[z,TI,TO,l,j]->s.heap.get? c=some o->h2.get? c=some o:=λc o d q=>by
   simp only[A6,CP,EW,not_or]at d
   exact(sb.2 c d.1).trans (kp c o d.1 d.2.2.1 d.2.2.2.1 d.2.2.2.2 q)
  have ai:∀ c t,H c=some t->c∉[z,TI,TO,l,j]:=λc t q J=>by rw[(f c J).1]at q;cases q
  have ag:HOk X.prog X.w H h2:=λc t q=>by
   refine(I.hok c t q).stay (λc' v' d q'=>g c' v' ?_ q') (λ_ q=>q) (λ_ _ q=>q) λ_ _ q=>q
   grind
  have ae:HOk X.prog X.w (upd H s.heap.objs.size (.tup [u,v])) h2:=HOk.track ag fT ⟨by show 2<=sizeLine;decide,[x,y],.cons ru (.cons rv .nil),⟨_,aj,⟨rfl,rfl⟩,_,rfl⟩⟩
  have V:∀ c t,H c=some t->c≠s.heap.objs.size:=λc t q=>bQ q fT
  have I2:Inv X a5 σ (upd H s.heap.objs.size (.tup [u,v])) {s with heap:=h2,gens:=s.gens,drawn:=s.drawn,toks:=tk}:=by
   refine I.step (ch:=[z,TI,TO,l,j]) (λc d=>?_) (λc o _ _ d q _=>g c o d q) (λc o _ _ d q _=>⟨o.slots,g c o d q⟩)
    (λc o _ q n=>by rw[aW (BP (AT q))];exact n) (λc o d q=>⟨o,g c o d q⟩) (λc ys q=>by rw[aW (V c _ q)];exact q) (λc o t q=>by rw[aW (V c _ q)];exact q)
    (λc ps q=>by rw[aW (V c _ q)];exact q) (λm hm=>?_) ae I.bare
   .obtain ⟨e0,e1,e2,e3,e4,e5⟩:=f c d
    grind
   .obtain ⟨o,S,ep,ho,r⟩:=hm
    exact⟨o,S,ep,g _ o (λJ=>(f _ J).2.1 rfl) ho,r⟩
  refine⟨.ref s.heap.objs.size,_,I2,rfl,⟨_,u,v,fT,rfl,rfl,λzs U=>by rw[af zs U];exact hu,λzs U=>by rw[ad zs U];exact hv⟩,⟨se,(sb.2 TI (BS d1)).trans (kp TI _ (BS d1) d5 d6 d7 M),⟨x,y,(sb.2 TO (BS d2)).trans g2⟩,W.keep _ _ _ (a2 _ _ g3) λo e=>(sb.2 l (BS Z)).trans e,Q.keep _ _ _ (b2 _ _ g4) λo e=>(sb.2 j (BS Y)).trans e⟩,λc d=>?_⟩
  rw[aW]
  .exact (f c d).1
  .intro J
   have am:c < s.heap.objs.size:=by
    simp only[A6,CP,EW]at d
    rcases d with rfl|rfl|rfl|rfl|rfl
    · grind
    · exact AT M
    · exact AT O
    · obtain⟨o, e, _⟩ := W.obj _ _ L; exact AT e
    · obtain⟨o, e, _⟩ := Q.obj _ _ N; exact AT e
   grind
 done:=by
  intro X G C F hc i a5 s σ H E I f st hg
  obtain⟨s1,M,⟨a,b,O⟩,L,N⟩:=st
  obtain⟨xs,ys,q1,q2,ac⟩:=hg
  simp only[DP,A6,CP,EW,not_or,D4,and_true,not_false_eq_true]at hd
  obtain⟨⟨d1,d2,Z,Y⟩,⟨d5,d6,d7⟩,⟨d8,d9⟩,p⟩:=hd
  have B:X.A.in1.handled=none:=I.ok.hd hc
  obtain⟨f1,P1,S1,D1,a1,a2,a3,T⟩:=W.draw X G C F i a5 s σ H xs X.A.in1 I (f l (by simp)) L q1 B
  obtain⟨f2,P2,S2,D2,b1,b2,b3,R⟩:=Q.draw X G C F i a5 s σ H ys X.A.in1 I (f j (by simp)) N q2 B
  subst G C F
  have D:Zp.Apart z TI TO l j f1 f2:=⟨BS d1,BS d2,BS Z,BS Y,d5,d6,d7,d8,d9,p,T z (f z (by simp)) Z,R z (f z (by simp)) Y,T TO (f TO (by simp)) d8,R TO (f TO (by simp)) d9,R l (f l (by simp)) p,T j (f j (by simp)) (BS p)⟩
  refine Zp.aNB D D1 D2 s1 M O a1 b1 ac λh' tk kp=>⟨rfl,?_⟩
  have g:∀ c o,c∉[z,TI,TO,l,j]->s.heap.get? c=some o->h'.get? c=some o:=λc o d q=>by
   grind
  have ai:∀ c t,H c=some t->c∉[z,TI,TO,l,j]:=λc t q J=>by rw[(f c J).1]at q;cases q
  have ah:∀ c o,s.heap.get? c=some o->c∈[TI]->h'.get? c=some o:=λc o e hm=>by
   grind
  refine I.step (g':=s.gens) (d':=s.drawn) (ch:=[z,TI,TO,l,j]) (λc d=>?_) (λc o _ _ d q _=>g c o d q) (λc o _ _ d q _=>⟨o.slots,g c o d q⟩) (λ_ _ _ _ n=>n) (λc o d q=>⟨o,g c o d q⟩) (λ_ _ q=>q) (λ_ _ _ q=>q) (λ_ _ q=>q) (λm hm=>?_) (λc t q=>?_) I.bare
  .obtain ⟨e0,e1,e2,e3,e4,e5⟩:=f c d
   grind
  .obtain ⟨o,S,ep,ho,r⟩:=hm
   exact⟨o,S,ep,g _ o (λJ=>(f _ J).2.1 rfl) ho,r⟩
  .refine (I.hok c t q).stay (λc' v' d q'=>g c' v' ?_ q') (λ_ q=>q) (λ_ _ q=>q) λ_ _ q=>q
   grind
 self:=λ_ _ _ _ _ st h=>wpAny_pyIter_zip st.1 h
def aA1(K:Frag)(H:Hp)(x:V)(C:Col):Prop:=
 (∃ a xs,x=.ref a/\SqL K H a xs/\C=λH xs=>SqL K H a xs)\/(∃ a xs,x=.ref a/\SqT K H a xs/\C=λH xs=>SqT K H a xs)\/∃ z,x=.str z/\C=λ_ xs=>xs=xC z
theorem xD{X:Cx}{a5:List (Az×Obj)}{σ:St}{H:Hp}{s:S9}{x:V}{u:V9}{C:Col}(I:Inv X a5 σ H s)(r:bO x u)(h:aA1 X.K H x C) :
  ∃ (o:Obj) (tn:Az->Nat->H9->Prop),(∀ h':H9,(∀ b ob,s.heap.get? b=some ob->h'.get? b=some ob)->Zp.oW u o h')/\o.isFreed=false/\(∀ it,ColOk X.prog X.w X.K C it (tn it))/\∀ it h',h'.get? it=some o->tn it 0 h':=by
 rcases h with ⟨a,xs,rfl,f,rfl⟩|⟨a,xs,rfl,f,rfl⟩|⟨z,rfl,rfl⟩
 .cases r
  obtain⟨c,j,p,g⟩:=I.list f
  refine⟨{cls:=.type "list_iterator",data:=.fields #[.ref a,.int 0 0]},λit i h=>h.IsListIter it a i,λh' d prog w A E s' Q e q=>?_,rfl,λit=>aND a it,λit h' e=>⟨_,e,rfl,rfl⟩⟩
  subst e
  refine wpAny_pyIter_list (l:=a) (items:=c.toArray) ?_ q
  obtain⟨o,e,r⟩:=p.isList
  exact⟨o,d _ _ e,r⟩
 .cases r
  obtain⟨c,j,p,g⟩:=I.tuple f
  refine⟨{cls:=.type "tuple_iterator",data:=.fields #[.ref a,.int 0 0]},λit i h=>h.IsTupleIter it a i,λh' d prog w A E s' Q e q=>?_,rfl,λit=>aKY a it,λit h' e=>⟨_,e,rfl,rfl⟩⟩
  subst e
  refine wpAny_pyIter_tuple (t:=a) (items:=c.toArray) ?_ q
  obtain⟨o,e,r⟩:=p
  exact⟨o,d _ _ e,r⟩
 .obtain ⟨t,rfl⟩:=r
  refine⟨{cls:=.type (strIterType z),data:=.fields #[.str z t,.int 0 0]},λit i h=>h.IsStrIter it (strIterType z) z t i,λh' d prog w A E s' Q e q=>?_,rfl,λit=>aQD z t it,λit h' e=>⟨_,e,rfl,rfl⟩⟩
  subst e
  exact wpAny_pyIter_strU q
def aTN(K:Frag)(ta:TA):TI:=λσ H R=>ta σ H λvs H1=>∃ x y C1 C2,vs=[x,y]/\aA1 K H1 x C1/\aA1 K H1 y C2/\R (Itz C1 C2) H1
theorem aTO{X:Cx}{es:List E1}{k1}{g:Pos}{a b:E1}{ta:TA}{p pos:Pos}(l:Gl X "zip")(E:X.mg "zip"=none)(C:PA X [a,b] ta)(A:starEach [a,b] X.env=[(false,eval a X.env),(false,eval b X.env)]:=by rfl)(hs2:starEach [b] X.env=[(false,eval b X.env)]:=by rfl) :
  PI X (.Tuple es k1 g) (.Call (.Name "zip" p) [a,b] [] pos) (aTN X.K ta):=by
 intro a5 s σ H R I h
 refine Call_ (p8 I l E PyProof.Rows.boot_zip (C7 (thn (C pos a5 s σ H _ I h) λus s1 ⟨vs,H1,d,r1,J⟩=>?_) (by rw[A,hs2]) (by rw[hs2];rfl)))
 obtain⟨x,y,M,V,rfl,B,m,q⟩:=J
 cases r1 with
 | cons ru rr=>
  cases rr with
  | cons rv rr=>
   cases rr
   rename_i W _ P
   obtain⟨U,Q,o,F,v,u⟩:=xD d ru B
   obtain⟨N,S,t,k,z,G⟩:=xD d rv m
   refine Zp.aNC (o _ λ_ _ e=>e) (t _ λ_ _ e=>AC _ e) F k λh' i r j D w T n=>?_
   have L:Inv X a5 σ H1 {s1 with heap:=h'}:=d.kept (t':=s1.toks) n
   refine wpAny_pyIter_zip i ?_
   refine⟨s1.heap.objs.size+4,[s1.heap.objs.size+4,s1.heap.objs.size+2,s1.heap.objs.size+3,s1.heap.objs.size,s1.heap.objs.size+1],_,_,H1,rfl,L,aNE (v _) (z _) ?_,⟨i,r,⟨_,_,j⟩,u _ _ D,G _ _ w⟩,λc O=>?_,q⟩
   .grind
   .have f:s1.heap.objs.size<=c:=by
     grind
    exact d.fpOk f (d.hok.fresh f)
end L2
namespace Fl
open L2 PyProof.Rows
noncomputable def aOR(p:Dz×Dz):Dz:=.tuple [p.1,p.2]
noncomputable def aED(x y:Dz):R (List Dz):=(bE x).bind λxs=>(bE y).bind λys=>.ok ((xs.zip ys).map aOR)
theorem yT{d:Dz}{xs:List Dz}(h:bE d=.ok xs):xs.length<=16777216:=by
 unfold bE at h
 grind
theorem tY{d:Dz}{e:Er}:bE d≠.ex e:=by
 intro h
 unfold bE at h
 grind
theorem xE{K:Frag}{F:Hp}:∀ (cs:List Nat),DatVs K F (cs.map λc=>V.str ⟨#[c]⟩) (cs.map λc=>PyData.str ⟨#[c]⟩)
 | []=>.nil
 | c::t=>.cons (.str _) (xE t)
theorem aG1{K:Frag}{F B:Hp}{v:V}{d:Dz}{xs:List Dz}(s:aT F B)(r:bJ K F B v d)(h:bE d=.ok xs):∃ C vs,aA1 K B v C/\(∀ H1,aT B H1->C H1 vs)/\DatVs K F vs xs:=by
 unfold bE at h
 split at h
 .split at h
  .cases h
   obtain⟨p,vs,rfl,h1,h2⟩:=bJ.lst_of s r
   exact⟨_,vs,.inl ⟨p,vs,rfl,h1,rfl⟩,λH1 q=>h1.same q,h2⟩
  .cases h
 .split at h
  .cases h
   obtain⟨p,vs,rfl,h1,_,h2⟩:=bJ.tup_of s r
   exact⟨_,vs,.inr (.inl ⟨p,vs,rfl,h1.same s,rfl⟩),λH1 q=>(h1.same s).same q,h2⟩
  .cases h
 .rename_i z
  split at h
  .cases h
   obtain rfl:=bJ.str_of r
   exact⟨_,xC z,.inr (.inr ⟨z,rfl,rfl⟩),λ_ _=>rfl,xE _⟩
  .cases h
 .cases h
theorem aNF{K:Frag}{F B:Hp}{v:V}{d:Dz}{xs:List Dz}(s:aT F B)(r:DatV K F v d)(h:bE d=.ok xs):∃ C vs,aA1 K B v C/\(∀ H1,aT F H1->C H1 vs)/\DatVs K F vs xs:=by
 unfold bE at h
 split at h
 .split at h
  .cases h
   obtain⟨p,vs,rfl,h1,h2⟩:=DatV.lst_of r
   exact⟨_,vs,.inl ⟨p,vs,rfl,h1.same s,rfl⟩,λH1 q=>h1.same q,h2⟩
  .cases h
 .split at h
  .cases h
   obtain⟨p,vs,rfl,h1,h2⟩:=DatV.tup_of r
   exact⟨_,vs,.inr (.inl ⟨p,vs,rfl,h1.same s,rfl⟩),λH1 q=>h1.same q,h2⟩
  .cases h
 .rename_i z
  split at h
  .cases h
   obtain rfl:=DatV.str_of r
   exact⟨_,xC z,.inr (.inr ⟨z,rfl,rfl⟩),λ_ _=>rfl,xE _⟩
  .cases h
 .cases h
theorem aQE{α β:Type}:∀ {xs:List α} {ys:List β} {i:Nat} {x:α} {y:β},xs[i]? = some x->ys[i]? = some y->(xs.zip ys)[i]? = some (x,y)
 | [],_,_,_,_,h,_=>by simp at h
 | _::_,[],_,_,_,_,h=>by simp at h
 | x::xs,y::ys,0,_,_,h1,h2=>by simp at h1 h2;subst h1 h2;rfl
 | x::xs,y::ys,i+1,_,_,h1,h2=>by
  grind
theorem aQF{K:Frag}{F B:Hp}{h l:Col}{us vs:List V}{xs ys:List Dz}(hz:xs.length<=16777216)(h1:∀ H1,aT F H1->aT B H1->h H1 us)(h2:∀ H1,aT F H1->aT B H1->l H1 vs)(f:DatVs K F us xs)(d2:DatVs K F vs ys) :
  Yld K (Itz h l) F B ((xs.zip ys).map aOR) where
 len:=by rw[eE,AA,GQ];omega
 go:=λi g H1 c d b hi=>by
  rw[AA,GQ]at hi
  have a:aT F H1:=λx o z=>d x o (c x o z)
  exact⟨us,vs,h1 H1 a b,h2 H1 a b,by rw[f.length];omega,by rw[d2.length];omega⟩
 yld:=λi g H1 v H2 x c d b y e=>by
  obtain⟨p,u,w,j,rfl,rfl,n,m⟩:=y
  have a:aT F H1:=λx o z=>d x o (c x o z)
  obtain⟨dx,e1,r1⟩:=f.get (n us (h1 H1 a b))
  obtain⟨q,e2,r2⟩:=d2.get (m vs (h2 H1 a b))
  rw[AG,aQE e1 e2]at e
  cases e
  have k:=aT.upd (o:=.tup [u,w]) (cH d j)
  exact⟨_,Ext.new d j,.tup (SqT.of bL) (.cons ((r1.same c).same k) (.cons ((r2.same c).same k) .nil))⟩
 stop:=λg H1 c d b=>by
  have a:aT F H1:=λx o z=>d x o (c x o z)
  refine⟨us,vs,h1 H1 a b,h2 H1 a b,?_⟩
  rw[AA,GQ,f.length,d2.length]
  omega
section
variable{X:Cx}{c:Ct}{E:XK}{tg e:E1}
theorem aQG{f g:Sg->R Dz}(j:X.K=c.K)(h:PI X tg e (aTN X.K (eK (tV (cF c) c E f) (eK (tV (cF c) c E g) jN)))):PIf X c E tg e (λρ=>(f ρ).bind λx=>(g ρ).bind λy=>aED x y):=PI.imp h λσ H Q a=>by
 obtain⟨ρ,F,ab,k⟩:=a
 refine⟨ρ,F,ab,(Rk.bind k).imp λx _ q v i H1 s1 r1=>⟨ρ,i,ab.ext s1,((Rk.bind q).ext s1).imp λy _ q w d H' s r=>?_⟩⟩
 unfold aED at q
 cases e1:bE x with
 | bad=>rw[e1]at q;exact q.elim
 | ex e=>exact absurd e1 tY
 | ok xs=>
  rw[e1]at q
  cases e2:bE y with
  | bad=>rw[R.bind_ok,e2]at q;exact q.elim
  | ex e=>exact absurd e2 tY
  | ok ys=>
   rw[R.bind_ok,e2]at q
   have b:bJ c.K d H' v x:=bJ.ext s r1
   obtain⟨l,us,o,p,A⟩:=aG1 s.fh b e1
   obtain⟨u,vs,t,n,m⟩:=aG1 s.fh r e2
   rw[j]
   exact⟨v,w,l,u,rfl,o,t,Rk.ok q _ H' d H' (s1.trans s) (cG _) (aQF (yT e1) (λH1 _ z=>p H1 z) (λH1 _ z=>n H1 z) A m)⟩
end
end Fl
namespace L2
open PySem.Spec PyProof.Rows
section
variable{K:Type}[DecidableEq K]{prog:P9}{w:W9}{knd:KeyKind prog w K}{A:U9}{E:V9->S9->Prop}{s:S9}
theorem qN{a:List (K×V9)}{k:K}(h:valueAt a k=none):k∉a.map (·.1):=λq=>by
 obtain⟨kv,b,e⟩:=AX.mp q
 unfold valueAt at h
 have h:=Option.map_eq_none_iff.mp h
 grind
theorem aNG{d:Az}{f:List (K×V9)}{k:K}{key y:V9}{Q:V9->S9->Prop}(c:knd.is k key=true)(j:s.heap.DictOf knd d f)
  (h1:∀ v,valueAt f k=some v->Q v {s with toks:=s.toks+1})
  (h2:valueAt f k=none->∀ h',h'.DictOf knd d (f++[(k,y)])->Heap.SameBut d s.heap h'->Q y {s with heap:=h',toks:=s.toks+1})
  (hsz:f.length<=sizeLine):wpAny (model prog w) A (dictSetDefault d key y) Q E s:=by
 have hz:s.heap.DictLe d sizeLine:=λo es n h g=>by
  obtain⟨o',C,z,a,_,b,_,i,_⟩:=j
  rw[h]at a;cases a
  rw[g]at b;cases b
  have e1:=i.length
  grind
 cases e:valueAt f k with
 | some v=>exact wpAny_dictSetDefault_of (hz:=hz) c j.mapOf (λu B=>h1 u B) λm=>by rw[e]at m;cases m
 | none=>
  have x:=qN e
  obtain⟨o,es,n,h,r,g,p,i,m⟩:=j
  have hi:(es.findIdx? λe=>knd.is k e.key)=none:=by
   have q:(es.findIdx? λe=>knd.is k e.key)=f.findIdx? λkv=>decide (kv.1=k):=by rw[<-i.findIdx k];obtain⟨l⟩:=es;simp
   grind
  unfold dictSetDefault
  try with_reducible refine DD ?_
  refine AB (knd.pyHash c (AB (wpAny_dictFind_of (s:={s with toks:=s.toks+1}) c h g p ?_)))
  rw[hi]
  have t:=hz _ _ _ h g
  refine AB (E8 (AB (wpAny_updateDictKeys (hz:=t) (s:={s with toks:=s.toks+1}) h g (AM (h2 e _ ⟨_,_,n+1,CJ _ h (Obj.isFreed_of_dict (D7 g _)),r.mapDictKeys _,D7 g _,p.push c _,?_,?_⟩ (CF ..))))))
  .have q:=i.append c (knd.hash k) y
   grind
  .grind
end
section
variable{K:Type}[DecidableEq K]{prog:P9}{w:W9}{knd:HeapKind prog w K}{A:U9}{E:V9->S9->Prop}{s:S9}
theorem aQH{d a:Az}{xs:List (K×Az×V9)}{k:K}{y:V9}{Q:V9->S9->Prop}(q:knd.room A)(b:knd.is s.heap k a)(z:s.heap.DictOfH knd d xs)
  (h1:∀ p,atKey xs k=some p->Q p.2 {s with toks:=s.toks+knd.draws k})
  (h2:atKey xs k=none->∀ h',h'.DictOfH knd d (storedH xs k a y)->Heap.SameBut d s.heap h'->Q y {s with heap:=h',toks:=s.toks+knd.draws k})
  (hsz:xs.length<=sizeLine):wpAny (model prog w) A (dictSetDefault d (.ref a) y) Q E s:=by
 obtain⟨o,es,B,f,v,c,m,l,u⟩:=z
 unfold dictSetDefault
 try with_reducible refine DD ?_
 refine AB (knd.pyHash q b (AB (wpAny_dictFind_heap (s:={s with toks:=s.toks+knd.draws k}) q b f c m l u (λi=>?_) (λj p r=>?_))))
 .have t:k∉xs.map (·.1):=not_mem_keys_of_get i
  have h:=atKey_none_of_get i
  have h2:=h2 h
  rw[storedH_new h]at h2
  have n:es.size<=sizeLine:=by have e:=size_of_entries m;omega
  refine AB (E8 (AB (wpAny_updateDictKeys (hz:=n) (s:={s with toks:=s.toks+knd.draws k}) f c (AM (h2 _ ⟨_,_,B+1,CJ _ f (Obj.isFreed_of_dict (D7 c _)),v.mapDictKeys _,D7 c _,by simp[m,entryOfKey],λx g=>?_,?_⟩ (CF ..))))))
  .rcases BX.mp g with g|g
   · exact knd.keeps (l x g) f c (CF ..)
   · rw [A8.mp g]; exact knd.keeps b f c (CF ..)
  .grind
 .refine AB (wpAny_dictEntries (s:={s with toks:=s.toks+knd.draws k}) f c ?_)
  rw[entry_at m j,r]
  exact AB (E8 (AM (h1 p (atKey_of_get u r))))
end
theorem aEE{prog:P9}{w:W9}{d:Az}{key y:V9}(c:(d == sysModules)=false) :
  MeetsIn prog w (Builtin.«dict.setdefault» ⟨[.ref d,key,y],[]⟩) (λA R s=>s.TypeIs (.ref d) "dict"/\wpAny (model prog w) A.in1 (dictSetDefault d key y) (λv s'=>R (.ok (.ret v)) s') (λe s'=>R (.error e) s') s):=
 .of_wp λA R s a=>by
  obtain⟨b,h⟩:=a
  unfold Builtin.«dict.setdefault»
  refine AB ?_
  unfold Builtin.Dict.keyAndDefault
  refine AB (wpAny_notOrdered_dict b ?_)
  show wpAny _ _ (pure (d,key,some y)) _ _ s
  refine AM ?_
  show wpAny _ _ (if (d == sysModules)=true then _ else(dictSetDefault d key y >>= _)) _ _ s
  rw[AE (by rw[c];exact CG)]
  exact AB (BO h (λv s' q=>AM ⟨v,rfl,q⟩) λ_ _ q=>q)
end L2
namespace Fl
open L2 PyProof.Rows
def aTP(X:Cx):V->List V->Hp->VK->Prop:=λx xs H Q=>∃ p es k kv y,x=.ref p/\xs=[kv,y]/\DicAt X H p es k kv/\es.length<=sizeLine/\(∀ v,atE es k=some v->Q v H)/\(atE es k=none->∀ ep,Q y (upd H p (fI X.w p (oN es k kv y) ep)))
section
variable{X:Cx}{c:Ct}{E:XK}{e a b:E1}{st:Stmt}{pos:Pos}
theorem aTQ(P:X.A.units+64 < cLine):MtR X "dict.setdefault" (aTP X):=by
 intro a5 s σ H x xs v us Q I T R h
 obtain⟨p,es,k,kv,y,rfl,rfl,D,L,N,O⟩:=h
 cases(show v=Value.ref p from T)
 cases R with
 | @cons _ ku _ us r1 t=>
  cases t with
  | @cons _ yu _ us r2 t=>
   cases t
   have c:s.TypeIs (.ref p) "dict":=by
    obtain⟨ep,j⟩:=D.o
    obtain⟨⟨_,o,m,h1,h2,_⟩,_,_⟩:=(show cR X.prog X.w H s.heap p (fI X.w p es ep)from I.hok p _ j)
    exact⟨o,h1,h2.1⟩
   obtain⟨q,⟨b,xs,rfl,rfl,g,J,dd⟩|⟨d,xs,rfl,rfl,g,J,dd⟩⟩:=D.cases I r1
   .have G:xs.length<=sizeLine:=by rw[<-Paired.length g];exact L
    have a:=qF (k:=k) g
    refine call_meetsIn D5 c FF (FB _ _ _) (aEE q) ⟨c,aQH (nK P) J dd (λU F=>?_) (λF h' f E=>?_) G⟩
    .rw[F]at a
     cases e:atE es k with
     | none=>rw[e]at a;cases a
     | some z=>
      rw[e]at a
      exact⟨_,H,I.tok _,a,N z e⟩
    .rw[F]at a
     have e:atE es k=none:=by
      cases e:atE es k with
      | none=>rfl
      | some z=>rw[e]at a;cases a
     obtain⟨i,m,ep,l,h2,C,r,_,M⟩:=f
     obtain⟨u,j⟩:=D.o
     refine⟨y,_,n4 I (by rw[j];exact True.intro) E ⟨i,l⟩ (lN (ep:=ep) q ⟨i,m,l,h2,C,?_⟩),r2,O e ep⟩
     rw[r]
     exact rQ (aIC r2 g)
   .have G:xs.length<=sizeLine:=by rw[<-Paired.length g];exact L
    have a:=qG (k:=d) g
    refine call_meetsIn D5 c FF (FB _ _ _) (aEE q) ⟨c,aNG J dd (λv n=>?_) (λn h' f E=>?_) G⟩
    .rw[n]at a
     cases e:atE es (jQ d)with
     | none=>rw[e]at a;cases a
     | some z=>
      rw[e]at a
      exact⟨_,H,I.tok _,a,N z e⟩
    .rw[n]at a
     have e:atE es (jQ d)=none:=by
      cases e:atE es (jQ d)with
      | none=>rfl
      | some z=>rw[e]at a;cases a
     have pv:=aID (k:=d) r2 g
     have K:stored xs d yu=xs++[(d,yu)]:=by
      unfold stored
      rw[AE]
      intro z
      obtain⟨kv,h1,h2⟩:=GG.mp z
      exact qN n (AX.mpr ⟨kv,h1,BD h2⟩)
     rw[K]at pv
     obtain⟨i,m,ep,l,h2,C,r,M,_⟩:=f
     obtain⟨u,j⟩:=D.o
     refine⟨y,_,n4 I (by rw[j];exact True.intro) E ⟨i,l⟩ (lN (ep:=ep) q ⟨i,m,l,h2,C,?_⟩),r2,O e ep⟩
     exact rR pv M λS B=>r S (by simpa using B)
noncomputable def vK(i:Nat)(f g:Sg->R Dz):Sg->R Fw:=λρ=>match ρ[i]? with
 | some (some (.m a6))=>(f ρ).bind λk=>(g ρ).bind λy=>if eD k (a6.map (·.1))=true/\a6.length<=16777216 then .ok (.nx (if eB a6 k=true then ρ else ρ.set i (some (.m (putM a6 k y)))))else .bad
 | _=>.bad
theorem aQI{i:Nat}{f g:Sg->R Dz}(T:X.K=c.K)(C:X.w=c.w)(h:PS X st (aCT (aTA X "dict" (aTP X) (kK i) (eK (tV (eH c) c E f) (eK (tV (eH c) c E g) jN))))):PSf X c E st (vK i f g):=PS.imp h λD σ H ⟨ρ,F,ab,k⟩=>by
 unfold vK at k
 split at k
 .rename_i j hi
  obtain⟨_,A,p,es,rfl,⟨J,N⟩,_⟩:=ab.slot i _ hi
  refine⟨_,A,λa5 s v I r=>?_,ρ,F,ab,(Rk.bind k).imp λd _ q v Q H1 s1 r1=>?_⟩
  .cases (show v=Value.ref p from r)
   rw[<-C]at N
   obtain⟨⟨_,o,V,h1,h2,_⟩,_,_⟩:=(show cR X.prog X.w H s.heap p (fI X.w p es J)from I.hok p _ N)
   exact⟨⟨o,h1,h2.1⟩,λa z=>by cases z;exact⟨o,h1,h2.2.1⟩⟩
  .refine ⟨ρ,Q,ab.ext s1,((Rk.bind q).ext s1).imp λy _ q u M H2 t r2=>?_⟩
   split at q
   .rename_i L
    have b:=s1.trans t
    have e:=ab.ext b
    obtain⟨U,n,l,O,m⟩:=aCY T C e hi (DatV.same t.ff r1) L.1
    rw[A]at l
    cases l
    have G:=aAQ (k:=d) m.k1 m.vs
    refine⟨p,n,d,v,u,rfl,rfl,O,?_,λz P=>?_,λP=>?_⟩
    .have:n.length=j.length:=by have:=DF List.length m.k1;simpa using this
     rw[this,eE];exact L.2
    .have B:eB j d=true:=by
      rcases G with ⟨S,_⟩|⟨_,_,_,x,_⟩
      · grind
      · unfold eB; rw [x]; rfl
     rw[AD B]at q
     exact Rk.ok q σ M _ b.ff e
    .have B:¬ eB j d=true:=by
      rcases G with ⟨_,x⟩|⟨_,_,S,_,_⟩
      · unfold eB; rw [x]; intro z; cases z
      · grind
     rw[AE B]at q
     intro J
     rw[C]
     exact Rk.ok q σ M _ b.ff (e.putM hi A (m.put (DatV.same t.ff r1) r2))
   .exact q.elim
 .exact k.elim
end
end Fl
namespace Zp
theorem aKZ(v:V9)(o:Obj) :
  Meets (Builtin.«enumerate.__new__» ⟨[.type "enumerate",v],[]⟩) (λ_ R s=>oW v o s.heap /\
   R (.ok (.ret (.ref (s.heap.push o).objs.size))) {s with heap:=(s.heap.push o).push {cls:=.type "enumerate",data:=.fields #[.none,.bool false,.ref s.heap.objs.size,rawInt 0,.none,.none]}}):=
 .of_wp λprog w A R s h=>by
  obtain⟨a,g,d,b,os⟩:=s;obtain⟨i,h⟩:=h
  have f:=sub_enumerate
  have e:∀ {A:U9} {E:V9->S9->Prop} {Q:V9->S9->Prop},Q (.ref a.objs.size) ⟨a.push o,g,d,b,os⟩->wpAny (model prog w) A (pyIter v) Q E ⟨a,g,d,b,os⟩:=λj=>i prog w _ _ ⟨a,g,d,b,os⟩ _ rfl j
  wp_walk
  refine wpAny_stack_any λst=>AM ?_
  split
  .rename_i c _ _ _ _ _
   cases(c == Value.type "enumerate")<;>(wp_walk using e;exact⟨_,rfl,h⟩)
  .wp_walk using e
   exact⟨_,rfl,h⟩
theorem aNH{prog:P9}{w:W9}{A:U9}{E:V9->S9->Prop}{s:S9}{v:V9}{o:Obj}{Q:V9->S9->Prop}(h1:oW v o s.heap)(d:o.isFreed=false)
  (h:∀ h',IsEnum h' (s.heap.objs.size+1) s.heap.objs.size 0 .none->h'.get? s.heap.objs.size=some o->h'.objs.size=s.heap.objs.size+2->(∀ b o,s.heap.get? b=some o->h'.get? b=some o)->Q (.ref (s.heap.objs.size+1)) {s with heap:=h'}) :
  wpAny (model prog w) A (call (.type "enumerate") [v]) Q E s:=by
 refine callType_new F.called_enumerate (by decide) (F.typeCall_enumerate_1 _) (F.newCall_enumerate_1 _) (λobj=>F.args_object_init_2 obj _) F.entry_enumerate_new (aKZ v o) ⟨h1,?_⟩
 have c:(s.heap.push o).objs.size=s.heap.objs.size+1:=B4 ..
 show _/\_
 rw[c]
 have a:IsEnum ((s.heap.push o).push {cls:=.type "enumerate",data:=.fields #[.none,.bool false,.ref s.heap.objs.size,rawInt 0,.none,.none]}) (s.heap.objs.size+1) s.heap.objs.size 0 .none:=by
  have q:=A9 (s.heap.push o) (o:={cls:=.type "enumerate",data:=.fields #[.none,.bool false,.ref s.heap.objs.size,rawInt 0,.none,.none]}) rfl
  grind
 exact⟨⟨_,a,rfl⟩,h _ a (AC _ (A9 _ d)) (by rw[B4,c]) λb o y=>AC _ (AC _ y)⟩
end Zp
namespace L2
open PySem.Spec PyProof.Rows
def Itn(C:Col):It:=
 ⟨λi H=>∃ xs,C H xs/\i < xs.length,λi H x H'=>∃ p v,H p=none/\x=.ref p/\H'=upd H p (.tup [.int i,v])/\∀ xs,C H xs->xs[i]? = some v,λi H=>∃ xs,C H xs/\i=xs.length⟩
theorem aK0{P:P9}{w:W9}{K:Frag}{es:List E1}{k1}{L:Pos}{C:Col}{e it:Az}{tn:Nat->H9->Prop}(c:ColOk P w K C it tn)(v:e≠it) :
  Turn P w K (.Tuple es k1 L) (Itn C) [e,it] e (λi h=>(∃ old,IsEnum h e it i old)/\tn i h) where
 mem:=by simp
 obj:=λi h st b a=>by
  obtain⟨⟨old,s1⟩,j⟩:=st
  rcases A6.mp a with z|z
  .grind
  .obtain rfl:b=it:=by simpa using z
   exact c.obj i h j
 keep:=λi h h' st k=>by
  obtain⟨⟨old,s1⟩,j⟩:=st
  exact⟨⟨old,k e (by simp) _ s1⟩,c.keep i h h' j λo q=>k it (by simp) o q⟩
 item:=by
  intro X F B y hc i a5 s σ H E I g st W
  obtain⟨⟨old,s1⟩,j⟩:=st
  obtain⟨xs,O,J⟩:=W
  have p:X.A.in1.handled=none:=I.ok.hd hc
  obtain⟨fp,Pv,S,D,Q,a2,a3,a4⟩:=c.draw X F B y i a5 s σ H xs X.A.in1 I (g it (by simp)) j O p
  have one:=λzs (h:C H zs)=>c.one X F B y a5 s σ H zs xs I h O
  subst F B y
  obtain⟨o2,Y,_⟩:=c.obj _ _ j
  refine wpAny_pyNext_enum_itemD D s1 Q J v (a4 e (g e (by simp)) v) λu h' U pu so si st ae kp=>?_
  obtain⟨x,T,ru⟩:=a3 i u pu
  refine⟨_,rfl,wpAny_letOwnedTupleGo_enum so λh2 se Z=>?_⟩
  have aa:s.heap.objs.size≠e:=DL (AT s1)
  have V:h2.get? s.heap.objs.size=some {cls:=.type "tuple",data:=.seq #[.int i U,u]}:=(Z.2 _ aa).trans st
  have fT:H s.heap.objs.size=none:=I.hok.fresh (AQ _)
  have f:∀ b o,b∉[e,it]->s.heap.get? b=some o->h2.get? b=some o:=λb o a q=>by
   simp only[A6,CP,EW,not_or]at a
   exact(Z.2 b a.1).trans (kp b o a.1 a.2 q)
  have ad:∀ b l,H b=some l->b∉[e,it]:=λb l q N=>by rw[(g b N).1]at q;cases q
  have M:HOk X.prog X.w H h2:=λb l q=>by
   refine(I.hok b l q).stay (λc' v' d q'=>f c' v' ?_ q') (λ_ q=>q) (λ_ _ q=>q) λ_ _ q=>q
   grind
  have G:HOk X.prog X.w (upd H s.heap.objs.size (.tup [.int i,x])) h2:=HOk.track M fT ⟨by show 2<=sizeLine;decide,[.int i U,u],.cons ⟨_,rfl⟩ (.cons ru .nil),⟨_,V,⟨rfl,rfl⟩,_,rfl⟩⟩
  have t:∀ b l,H b=some l->b≠s.heap.objs.size:=λb l q=>bQ q fT
  have I2:Inv X a5 σ (upd H s.heap.objs.size (.tup [.int i,x])) {s with heap:=h2,gens:=s.gens,drawn:=s.drawn,toks:=U+1}:=by
   refine I.step (ch:=[e,it]) (λb a=>?_) (λb o _ _ d q _=>f b o d q) (λb o _ _ d q _=>⟨o.slots,f b o d q⟩)
    (λb o _ q n=>by rw[aW (BP (AT q))];exact n) (λb o d q=>⟨o,f b o d q⟩) (λb ys q=>by rw[aW (t b _ q)];exact q) (λb o l q=>by rw[aW (t b _ q)];exact q)
    (λb ps q=>by rw[aW (t b _ q)];exact q) (λm hm=>?_) G I.bare
   .obtain ⟨e0,e1,e2,e3,e4,e5⟩:=g b a
    grind
   .obtain ⟨o,ac,ep,ho,r⟩:=hm
    exact⟨o,ac,ep,f _ o (λN=>(g _ N).2.1 rfl) ho,r⟩
  refine⟨.ref s.heap.objs.size,_,I2,rfl,⟨_,x,fT,rfl,rfl,λzs R=>by rw[one zs R];exact T⟩,⟨⟨_,by simpa using se⟩,c.keep _ _ _ (a2 _ _ si) λo q=>(Z.2 it v.symm).trans q⟩,λb a=>?_⟩
  rw[aW]
  .exact (g b a).1
  .intro N
   have J:b < s.heap.objs.size:=by
    simp only[A6,CP,EW]at a
    rcases a with rfl|rfl
    · grind
    · exact AT Y
   grind
 done:=by
  intro X F B y hc i a5 s σ H E I g st W
  obtain⟨⟨old,s1⟩,j⟩:=st
  obtain⟨xs,O,rfl⟩:=W
  have p:X.A.in1.handled=none:=I.ok.hd hc
  obtain⟨fp,Pv,S,D,Q,a2,a3,a4⟩:=c.draw X F B y _ a5 s σ H xs X.A.in1 I (g it (by simp)) j O p
  subst F B y
  obtain⟨g0,g1,g2,g3,g4,g5⟩:=g it (by simp)
  exact wpAny_pyNext_enum_endD D s1 Q λh' eb=>⟨rfl,I.turned (t':=s.toks) (λb o a q=>eb b o a q) g0 g1 g3 g4 g5⟩
 self:=λ_ _ _ _ _ st h=>wpAny_pyIter_enum st.1.choose_spec h
def aOS(K:Frag)(ta:TA):TI:=λσ H R=>ta σ H λvs H1=>∃ x C,vs=[x]/\aA1 K H1 x C/\R (Itn C) H1
theorem aQJ{X:Cx}{es:List E1}{k1}{d:Pos}{a:E1}{ta:TA}{p pos:Pos}(i:Gl X "enumerate")(y:X.mg "enumerate"=none)(w:PA X [a] ta)(r:starEach [a] X.env=[(false,eval a X.env)]:=by rfl) :
  PI X (.Tuple es k1 d) (.Call (.Name "enumerate" p) [a] [] pos) (aOS X.K ta):=by
 intro a5 s σ H R I h
 refine Call_ (p8 I i y PyProof.Rows.boot_enumerate (C7 (thn (w pos a5 s σ H _ I h) λus s1 f=>?_) r rfl))
 obtain⟨vs,H1,c,r1,D⟩:=f
 obtain⟨x,C,rfl,t,q⟩:=D
 obtain⟨u,rfl,j⟩:=x5 r1
 obtain⟨G,F,l,A,n,m⟩:=xD c j t
 refine Zp.aNH (l _ λ_ _ e=>e) A λh' g o v k=>?_
 have E:Inv X a5 σ H1 {s1 with heap:=h'}:=c.kept (t':=s1.toks) k
 refine wpAny_pyIter_enum g ?_
 refine⟨s1.heap.objs.size+1,[s1.heap.objs.size+1,s1.heap.objs.size],_,_,H1,rfl,E,aK0 (n _) (DL (Nat.lt_succ_self _)),⟨⟨_,g⟩,m _ _ o⟩,λb B=>?_,q⟩
 rcases A6.mp B with z|z
 .subst z
  exact c.fpOk (Nat.le_succ _) (c.hok.fresh (Nat.le_succ _))
 .obtain rfl:b=s1.heap.objs.size:=by simpa using z
  exact c.fpOk (AQ _) (c.hok.fresh (AQ _))
end L2
namespace Fl
open L2 PyProof.Rows
def xF(p:Dz×Nat):Dz:=.tuple [.int (p.2:Int),p.1]
def yU(x:Dz):R (List Dz):=(bE x).bind λxs=>.ok (xs.zipIdx.map xF)
theorem aQK{K:Frag}{F B:Hp}{C:Col}{us:List V}{xs:List Dz}(hz:xs.length<=16777216)(h1:∀ H1,aT F H1->aT B H1->C H1 us)(f:DatVs K F us xs):Yld K (Itn C) F B (xs.zipIdx.map xF) where
 len:=by rw[eE,AA,DT];exact hz
 go:=λi g H1 b a d hi=>by
  rw[AA,DT]at hi
  have c:aT F H1:=λx o z=>a x o (b x o z)
  exact⟨us,h1 H1 c d,by rw[f.length];exact hi⟩
 yld:=λi g H1 v H2 x b a d y e=>by
  obtain⟨p,u,h,rfl,rfl,j⟩:=y
  have c:aT F H1:=λx o z=>a x o (b x o z)
  obtain⟨dx,e1,r1⟩:=f.get (j us (h1 H1 c d))
  rw[AG,List.getElem?_zipIdx,e1]at e
  simp only[FC,CU]at e
  cases e
  have k:=aT.upd (o:=.tup [.int i,u]) (cH a h)
  exact⟨_,Ext.new a h,.tup (SqT.of bL) (.cons (.int _) (.cons ((r1.same b).same k) .nil))⟩
 stop:=λg H1 b a d=>by
  have c:aT F H1:=λx o z=>a x o (b x o z)
  refine⟨us,h1 H1 c d,?_⟩
  rw[AA,DT,f.length]
section
variable{X:Cx}{c:Ct}{E:XK}{tg e:E1}
theorem aQL{f:Sg->R Dz}(b:X.K=c.K)(h:PI X tg e (aOS X.K (eK (tV (eH c) c E f) jN))):PI0 X c E tg e (e1 yU f):=PI.imp h λσ H Q a=>by
 obtain⟨ρ,F,ab,k⟩:=a
 refine⟨ρ,F,ab,(Rk.bind k).imp λx _ q v g H' s r=>?_⟩
 unfold yU at q
 cases e1:bE x with
 | bad=>rw[e1]at q;exact q.elim
 | ex e=>exact absurd e1 tY
 | ok xs=>
  rw[e1]at q
  obtain⟨d,us,j,l,i⟩:=aNF s.fh r e1
  rw[b]
  exact⟨v,d,rfl,j,Rk.ok q _ g H' s (aQK (yT e1) (λH1 z _=>l H1 z) i)⟩
end
def p4(i:Nat)(tb:List (Str×Bool)):Sg->R Dz:=λρ=>match ρ[i]? with
 | some (some (.x e))=>(match tb.lookup e.c with
  | some b=>.ok (.bool b)
  | none=>.bad)
 | _=>.bad
def xG(K:Frag)(mg:Str->O9 V9)(cv:V9)(tb:List (Str×Bool)):Prop:=∀ p∈tb,∃ W C,SX.ExcC K W C/\mg p.1=some (.ref C)/\PySem.W.kitOne K (.ref C) cv=some p.2
def IsA(K:Frag)(mg:Str->O9 V9)(q:Str)(tb:List (Str×Bool)):Prop:=∃ D,mg q=some (.ref D)/\xG K mg (.ref D) tb
theorem tZ{K:Frag}{mg:Str->O9 V9}{a:V9}{tb:List (Str×Bool)}{W C:Az}{nm:Str}{b:Bool}(c:SX.ExcC K W C)(m:mg nm=some (.ref C))(k:PySem.W.kitOne K (.ref C) a=some b)(t:xG K mg a tb):xG K mg a ((nm,b)::tb):=λp d=>by
 rcases A6.mp d with rfl|h
 · exact⟨W, C, c, m, k⟩
 · exact t p h
theorem aA2{K:Frag}{mg:Str->O9 V9}{b:V9}:xG K mg b []:=λp a=>nomatch a
theorem lQ{K:Frag}{mg:Str->O9 V9}{W C:Az}{nm q:Str}{b:Bool}(c:SX.ExcC K W C)(m:mg nm=some (.ref C))(i:Is1 K mg nm q b):IsA K mg q [(nm,b)]:=by
 obtain⟨D,d,h1,h2,a⟩:=i
 rw[m]at h2
 cases h2
 exact⟨D,h1,tZ c m a aA2⟩
theorem jY{K:Frag}{mg:Str->O9 V9}{tb:List (Str×Bool)}{W C:Az}{nm q:Str}{b:Bool}(c:SX.ExcC K W C)(m:mg nm=some (.ref C))(i:Is1 K mg nm q b)(t:IsA K mg q tb):IsA K mg q ((nm,b)::tb):=by
 obtain⟨D,f,h1,h2,d⟩:=i
 obtain⟨g,a,e⟩:=t
 rw[m]at h2
 cases h2
 rw[h1]at a
 cases a
 exact⟨D,h1,tZ c m d e⟩
theorem sB{K:Frag}{mg:Str->O9 V9}{tb:List (Str×Bool)}{W C:Az}{nm:Str}{T:String}{b:Bool}(c:SX.ExcC K W C)(m:mg nm=some (.ref C))(i:pY K mg nm T b)(t:xG K mg (.type T) tb):xG K mg (.type T) ((nm,b)::tb):=by
 obtain⟨d,h2,a⟩:=i
 rw[m]at h2
 cases h2
 exact tZ c m a t
theorem xH{β:Type}{x:Str}{b:β}:∀ {tb:List (Str×β)},tb.lookup x=some b->(x,b)∈tb
 | [],h=>by cases h
 | (y,c)::t,h=>by
  rw[CM]at h
  cases q:(x == y)with
  | true=>rw[q]at h;cases h;rw[eq_of_beq q];exact AV
  | false=>rw[q]at h;exact AL _ (xH h)
section
variable{X:Cx}{c:Ct}{E:XK}{e:E1}
theorem aEF{i:Nat}{tb:List (Str×Bool)}{v:V}{d:V9}(n:X.mg=c.mg)(g:wS v=some d)(is:xG X.K X.mg d tb)
  (h:PE X e (tCB (λxs H Q=>∃ x c t d b,xs=[x,c]/\TyX X.K H x t/\wS c=some d/\PySem.W.kitOne X.K t d=some b/\Q (.bl b) H) (eK (kK i) (eK (tC v) jN)))):PD X c E e (p4 i tb):=PE.imp h λσ H Q ⟨ρ,F,ab,k⟩=>by
 unfold p4 at k
 split at k
 .rename_i o hi
  split at k
  .rename_i b m
   obtain⟨W,C,h1,h2,f⟩:=is _ (xH m)
   obtain⟨a,j,l⟩:=aWI n h1 h2 ab hi rfl
   exact⟨_,j,_,_,_,_,b,rfl,l,g,f,Rk.ok k _ F H (Ext.refl ab.fh) (.bl b)⟩
  .exact k.elim
 .exact k.elim
theorem yV{i:Nat}{tb:List (Str×Bool)}{q:Str}(a:X.mg=c.mg)(is:IsA X.K X.mg q tb)
  (h:∀ D,X.mg q=some (.ref D)->PE X e (tCB (λxs H Q=>∃ x c t cv b,xs=[x,c]/\TyX X.K H x t/\wS c=some cv/\PySem.W.kitOne X.K t cv=some b/\Q (.bl b) H) (eK (kK i) (eK (tC (.ref D)) jN)))):PD X c E e (p4 i tb):=by
 obtain⟨D,h1,h2⟩:=is
 exact aEF a rfl h2 (h D h1)
def UpK(K:Frag)(mg:Str->O9 V9)(cl:List Str):Prop:=∃ Wc bm,mg "WayError"=some (.ref Wc)/\SX.ExcAny K Wc bm/\qL K mg Wc cl
theorem aTR{K:Frag}{mg:Str->O9 V9}{a b:List Str}(h:UpK K mg a)(h2:UpK K mg b):UpK K mg (a++b):=by
 obtain⟨W,bm,m,w,k⟩:=h
 obtain⟨e,d,c,w2,k2⟩:=h2
 rw[m]at c
 cases c
 exact⟨W,bm,m,w,aFY k k2⟩
end
end Fl
namespace Zp
end Zp
namespace Fl
open L2 PyProof.Rows
section
variable{X:Cx}{c:Ct}{E:XK}{tg e:E1}
end
end Fl
namespace Zp
end Zp
namespace HT
open PySem.Spec PyProof.Rows L2
end HT
namespace Fl
open L2 PyProof.Rows
end Fl
namespace L2
open PySem.Spec PyProof.Rows
end L2
namespace Mc
open L2 PyProof.Rows Fl
noncomputable def sC:Sg->R Fw:=(bS (vD (e1 dLen (e2 dIx (e2 dIx (rV 0) (eC (.int 0))) (eC (.int 1))))))
noncomputable def cN:List A->R A:=fnF 1 sC
noncomputable def sD:Sg->R Fw:=(bS (vD (eL (fK [none,some 1] (e1 bE (rV 0)) (stN 0) gR (e2 dIx (e2 dIx (rV 0) (eC (.int 1))) (rV 1))))))
noncomputable def kE:List A->R A:=fnF 2 sD
noncomputable def rhT:Sg->R Bool:=(aIH (e1 asB (e2 dLt (e1 dLen (rV 5)) (e1 dLen (rV 3)))) (aAM (e1 asB (aCZ 12 2 (aA (rV 3) (aA (e1 dLen (rV 5)) aL))))))
noncomputable def rhF:Sg->R Fw:=(aV (sIf (e1 asB (wW true 4 (eV 7))) (aV (vF 4 (eV 7) (e1 dLen (rV 3)))
 (lA 3 (eV 7))) sNx)
 (lA 6 (vE 4 (eV 7))))
noncomputable def rhB:Sg->R Fw:=(aV (iI 6 (dO aL))
 (aV (oR (e1 bE (aIP 12 1 (aA (e2 dIx (rV 3) (e1 dLen (rV 5))) aL))) (stN 7) rhF)
 (lA 5 (e1 dTup (rV 6)))))
noncomputable def t4:Sg->R Fw:=aV (iI 3 (dO (aA (eV 0) aL))) (aV (aIO 4 (aIN (eV 0) (eC (.int 0)) aM1)) (aV (iI 5 (dO aL)) (aV (cT rhT rhB) (sFz 5 (sFz 3 (bS (vD (cJ (aA (eV 3) (aA (eV 5) aL))))))))) )
noncomputable def hV:List A->R A:=fnF 8 t4
noncomputable def pI:Sg->R Fw:=(bS (vD (e1 (oS "str") (rV 0))))
noncomputable def gM:List A->R A:=fnF 1 pI
noncomputable def l5:Sg->R Fw:=(aV (bT 1 (vD (e1 dTup (eL (fK [none] (e1 bE (rV 0)) (stN 0) gR (e2 dIx (rV 0) (eC (.int 0))))))))
 (bS (vD (cJ (aA (e2 dIx (rV 1) (eC (.int 0))) (aA (eV 1) aL))))))
noncomputable def hX:List A->R A:=fnF 2 l5
noncomputable def oT:Sg->R Bool:=(aAM (e1 asB (eA (aY 1 gM (aA (vV 2) aL)))))
noncomputable def oB:Sg->R Fw:=(aV (sIf (e1 asB (wW false 3 (eV 2))) (bS (vD (eC (.str "ever")))) sNx)
 (aV (vF 3 (eV 2) (eC (.bool true)))
 (aV (bT 4 (vD (e2 dIx (rV 1) (rV 2))))
 (aV (sIf (e1 asB (e2 dEq (e2 dIx (rV 4) (eC (.int 1))) (eC (.int 1)))) (bS (vD (e2 dIx (rV 4) (eC (.int 0))))) sNx)
 (bT 2 (vD (e2 dIx (rV 0) (e2 dIx (rV 4) (eC (.int 0))))))))))
noncomputable def t5:Sg->R Fw:=aV (vC 3) (aV (cT oT oB) (bS (vV 2)))
noncomputable def jZ:List A->R A:=fnF 5 t5
noncomputable def xI:Sg->R Fw:=(aV (bT 2 (aY 3 jZ (aA (vD (e2 dIx (rV 0) (eC (.int 1)))) (aA (vV 1) (aA (vD (e2 dIx (rV 0) (eC (.int 0)))) aL)))))
 (aV (bT 3 (vD (e1 dTup (eL (fK [none,some 0,some 1] (jJ (e1 dLen (rV 1))) (stN 0) gR (eA (aY 3 jZ (aA (vD (e2 dIx (rV 1) (eC (.int 1)))) (aA (vV 2) (aA (vV 0) aL))))))))))
 (bS (vD (cJ (aA (eV 2) (aA (eV 3) aL)))))))
noncomputable def i6:List A->R A:=fnF 4 xI
noncomputable def wT:Sg->R Bool:=(aAM (e1 asB (eA (aY 1 gM (aA (vV 2) aL)))))
noncomputable def wB:Sg->R Fw:=(aV (sIf (e1 asB (wW false 3 (eV 2))) (bS (vD (eC (.str "ever")))) sNx)
 (aV (vF 3 (eV 2) (eC (.bool true)))
 (aV (bT 4 (vD (e2 dIx (e2 dIx (rV 0) (rV 2)) (eC (.int 2)))))
 (bT 2 (vD (eIf (e1 asB (eA (aY 1 gM (aA (vV 4) aL)))) (eV 4) (e2 dIx (e2 dIx (rV 1) (eC (.int 1))) (rV 4))))))))
noncomputable def nQ:Sg->R Fw:=aV (bT 2 (vD (e2 dIx (rV 1) (eC (.int 0))))) (aV (vC 3) (aV (cT wT wB) (bS (vV 2))))
noncomputable def fO:List A->R A:=fnF 5 nQ
noncomputable def eW:Sg->R Fw:=(bS (vD (eL (fK [none,some 0] (e1 bE (rV 1)) (stN 0) gR (eA (aY 2 i6 (aA (vV 1) (aA (vV 0) aL))))))))
noncomputable def gC:Sg->R Fw:=(bS (vD (e2 dGt (e1 dLen (rV 0)) (eC (.int 200)))))
noncomputable def pJ:Sg->R Fw:=(aV (iI 1 (fK [none,some 0] (jJ (eA (aY 1 cN (aA (vV 0) aL)))) (stN 0) gR (eA (aY 2 kE (aA (vV 1) (aA (vV 0) aL))))))
 (aV (vI 2 "one_way.<locals>.after")
 (aV (sFz 1 (bT 3 (oV [1] 3 hV (aA (aY 1 hX (aA (vV 0) aL)) (aA (sA "one_way.<locals>.after" [1] 4 1 (iT 2 eW) 2) (aA (aAZ [] 1 2 (iT 2 gC)) aL))))))
 (aV (bT 4 (vD (e2 dIx (rV 3) (eC (.int 0)))))
 (aV (sIf (e1 asB (e2 dGt (e1 dLen (rV 4)) (eC (.int 200)))) (mU "TooMany" (eC (.int 200))) sNx)
 (bS (vD (cJ (aA (e1 dTup (e2 dIx (rV 3) (eC (.int 1)))) (aA (e1 dTup (eL (fK [none,some 0] (e1 bE (rV 4)) (stN 0) gR (eA (aY 2 fO (aA (vV 1) (aA (vV 0) aL))))))) aL))))))))))
noncomputable def dC:List A->R A:=fnF 5 pJ
noncomputable def mX:Sg->R Fw:=(bS (vD (cJ (aA (e2 dIx (rV 0) (eC (.int 2))) (aA (e1 dTup (eL (fK [none] (e1 bE (e2 dIx (rV 0) (eC (.int 1)))) (stN 0) gR (cJ (aA (e2 dIx (rV 0) (eC (.int 0))) (aA (e1 dNeg (e2 dIx (rV 0) (eC (.int 1)))) aL)))))) (aA (e2 dIx (rV 0) (eC (.int 0))) aL))))))
noncomputable def gN:List A->R A:=fnF 1 mX
noncomputable def sE:Sg->R Fw:=(bS (vD (e1 dTup (eL (fK [none] (e1 bE (rV 0)) (stN 0) gR (eA (aY 1 gN (aA (vV 0) aL))))))))
noncomputable def l6:List A->R A:=fnF 1 sE
noncomputable def aA3:Sg->R Fw:=(bS (vD (eC (.bool false))))
noncomputable def lR:List A->R A:=fnF 2 aA3
noncomputable def xJ:Sg->R Fw:=(aV (vC 1)
 (aV (oR (e1 yU (eV 0)) (stT [(stN 2),(stN 3)]) (vK 1 (eV 3) (eV 2)))
 (bS (vD (eL (fK [none,some 1] (e1 bE (rV 0)) (stN 0) gR (vE 1 (eV 0))))))))
noncomputable def i7:List A->R A:=fnF 4 xJ
noncomputable def kF:Sg->R Fw:=(bS (vD (e1 dTup (eL (fK [none,some 0] (e1 bE (rV 1)) (stN 0) gR (e2 dIx (rV 1) (rV 0)))))))
noncomputable def dG:List A->R A:=fnF 2 kF
noncomputable def aA4:Sg->R Fw:=(bS (aY 1 i7 (aA (vD (eL (fK [none,none,some 1] (e2 aED (rV 1) (rV 0)) (stT [(stN 0),(stN 1)]) gR (cJ (aA (eV 0) (aA (eA (aY 2 dG (aA (vV 2) (aA (vV 1) aL)))) aL)))))) aL)))
noncomputable def oC:List A->R A:=fnF 2 aA4
noncomputable def arT:Sg->R Bool:=(e1 asB (e2 dNe (rV 2) (rV 1)))
noncomputable def arB:Sg->R Fw:=(aV (bT 1 (vV 2)) (bT 2 (aY 2 oC (aA (vD (e2 dIx (rV 0) (eC (.int 0)))) (aA (vV 1) aL)))))
noncomputable def nR:Sg->R Fw:=(aV (bT 1 (aY 1 i7 (aA (vD (e2 dIx (rV 0) (eC (.int 1)))) aL)))
 (aV (bT 2 (aY 2 oC (aA (vD (e2 dIx (rV 0) (eC (.int 0)))) (aA (vV 1) aL)))) (aV (cT arT arB) (bS (vV 1)))))
noncomputable def eS:List A->R A:=fnF 3 nR
noncomputable def fY:Sg->R Fw:=(bS (aY 2 dG (aA (vV 1) (aA (vD (e2 dIx (e2 dIx (rV 2) (eC (.int 0))) (rV 0))) aL))))
noncomputable def aA5:Sg->R Fw:=(aV (bT 1 (aY 1 eS (aA (vV 0) aL)))
 (aV (vI 2 "least.<locals>.after")
 (aV (bT 3 (oV [1,0] 3 hV (aA (vD (e2 dIx (rV 1) (eC (.int 0)))) (aA (sA "least.<locals>.after" [1,0] 2 1 (iT 3 fY) 2) (aA (aIS 1 2 lR) aL)))))
 (bS (vD (cJ (aA (e1 dTup (e2 dIx (rV 3) (eC (.int 1)))) (aA (e1 dTup (eL (fK [none,some 0] (e1 bE (e2 dIx (rV 3) (eC (.int 0)))) (stN 0) gR (e2 dIx (e2 dIx (rV 1) (eC (.int 1))) (rV 0))))) aL))))))))
noncomputable def oD:List A->R A:=fnF 4 aA5
noncomputable def l7:Sg->R Fw:=(bS (vD (eIf (e1 asB (e2 dEq (rV 0) (eC (.str "ever")))) (eC (.str "out")) (eV 0))))
noncomputable def fM:List A->R A:=fnF 1 l7
noncomputable def mY:Sg->R Fw:=(aV (bT 2 (vD (eIf (e1 asB (e2 dEq (rV 1) (eC (.int 0)))) (eC (.int 0)) (eC (.str "out")))))
 (bS (vD (cJ (aA (eV 2) (aA (e1 dTup (eL (fK [none] (e1 bE (e2 dIx (e2 dIx (rV 0) (eC (.int 0))) (rV 1))) (stN 0) gR (cJ (aA (eV 0) (aA (eC (.int 1)) aL)))))) (aA (e2 dIx (e2 dIx (rV 0) (eC (.int 1))) (rV 1)) aL)))))))
noncomputable def gO:List A->R A:=fnF 3 mY
noncomputable def l8:Sg->R Fw:=(aV (bT 1 (aY 1 dC (aA (vV 0) aL)))
 (aV (bT 2 (vD (e1 dTup (eL (fK [none] (e1 bE (e2 dIx (rV 1) (eC (.int 1)))) (stN 0) gR (eA (aY 1 fM (aA (vV 0) aL))))))))
 (aV (bT 3 (aY 1 oD (aA (vD (cJ (aA (e2 dIx (rV 1) (eC (.int 0))) (aA (eV 2) aL)))) aL)))
 (aV (bT 4 (vD (e1 dLen (e2 dIx (rV 3) (eC (.int 0))))))
 (aV (sIf (e1 asB (e2 dGt (rV 4) (eC (.int 60)))) (mU "TooMany" (eC (.int 60))) sNx)
 (bS (vD (e1 dTup (eL (fK [none,some 3] (jJ (rV 4)) (stN 0) gR (eA (aY 2 gO (aA (vV 1) (aA (vV 0) aL))))))))))))))
noncomputable def dD:List A->R A:=fnF 5 l8
noncomputable def l9:Sg->R Fw:=(bS (vD (eIf (e1 asB (e2 dIn (rV 0) (eC (.tuple [.str "by",.str "out"])))) (eV 0) (e2 dN (rV 0) (rV 1)))))
noncomputable def gS:List A->R A:=fnF 2 l9
noncomputable def p5:Sg->R Fw:=(aV (bT 2 (vD (e1 dTup (eL (fK [none,some 1] (e1 bE (e2 dIx (rV 0) (eC (.int 1)))) (stN 0) gR (cJ (aA (e2 dN (e2 dIx (rV 0) (eC (.int 0))) (rV 1)) (aA (e2 dIx (rV 0) (eC (.int 1))) aL))))))))
 (bS (vD (cJ (aA (eA (aY 2 gS (aA (vD (e2 dIx (rV 0) (eC (.int 0)))) (aA (vV 1) aL)))) (aA (eV 2) (aA (eA (aY 2 gS (aA (vD (e2 dIx (rV 0) (eC (.int 2)))) (aA (vV 1) aL)))) aL)))))))
noncomputable def jK:List A->R A:=fnF 3 p5
noncomputable def aA6:Sg->R Fw:=(bS (vD (eL (fK [none,some 1] (e1 bE (rV 0)) (stN 0) gR (eA (aY 2 jK (aA (vV 0) (aA (vV 1) aL))))))))
noncomputable def mZ:List A->R A:=fnF 2 aA6
noncomputable def pK:Sg->R Fw:=(aV (sIf (e1 asB (e2 dGt (e1 dLen (rV 0)) (eC (.int 60)))) (mU "TooMany" (eC (.int 60))) sNx)
 (bS (vD (e1 dTup (rV 0)))))
noncomputable def hZ:List A->R A:=fnF 1 pK
noncomputable def oX:Sg->R Fw:=(aV (bT 4 (vD (eIf (e1 asB (e2 dEq (e2 dIx (rV 0) (eC (.int 0))) (rV 1))) (eV 2) (e2 dIx (rV 0) (eC (.int 0))))))
 (aV (bT 5 (vD (eIf (e1 asB (e2 dEq (e2 dIx (rV 0) (eC (.int 2))) (rV 1))) (eV 3) (e2 dIx (rV 0) (eC (.int 2))))))
 (bS (vD (cJ (aA (eV 4) (aA (e2 dIx (rV 0) (eC (.int 1))) (aA (eV 5) aL))))))))
noncomputable def gT:List A->R A:=fnF 6 oX
noncomputable def oY:Sg->R Fw:=(aV (bT 3 (aY 1 cN (aA (vV 0) aL)))
 (aV (sIf (e1 asB (e2 dNe (rV 3) (eA (aY 1 cN (aA (vV 1) aL))))) (qM "NotLike" (aA (eC (.str "not as many signs")) aL)) sNx)
 (aV (bT 4 (aY 2 mZ (aA (vV 1) (aA (vD (e1 dLen (rV 0))) aL))))
 (aV (bT 5 (vD (e2 dIx (e2 dIx (rV 4) (eC (.int 0))) (eC (.int 0)))))
 (aV (bT 6 (vD (e2 dN (e1 dLen (rV 0)) (e1 dLen (rV 1)))))
 (aV (iI 7 (fK [none,some 2,some 5,some 6] (e1 bE (rV 0)) (stN 0) gR (eA (aY 4 gT (aA (vV 0) (aA (vV 1) (aA (vV 2) (aA (vV 3) aL))))))))
 (aV (bT 8 (vD (cJ (aA (eV 5) (aA (e2 pH (cJ (aA (cJ (aA (eV 6) (aA (e1 dNeg (eC (.int 1))) aL))) aL)) (rV 3)) (aA (eC (.str "out")) aL))))))
 (bS (aY 1 hZ (aA (vD (eL (e2 i5 (eL (e2 i5 (rV 7) (rV 4))) (eL (dO (aA (eV 8) aL)))))) aL))))))))))
noncomputable def gU:List A->R A:=fnF 9 oY
noncomputable def oZ:Sg->R Fw:=(bS (aY 3 gU (aA (vV 0) (aA (vV 1) (aA (vD (eC (.str "out"))) aL)))))
noncomputable def gV:List A->R A:=fnF 2 oZ
noncomputable def t6:Sg->R Fw:=(bS (aY 3 gU (aA (vV 0) (aA (vV 1) (aA (vD (eC (.str "by"))) aL)))))
noncomputable def j4:List A->R A:=fnF 2 t6
noncomputable def kG:Sg->R Fw:=(aV (bT 1 (aY 2 mZ (aA (aY 1 l6 (aA (vV 0) aL)) (aA (vD (eC (.int 1))) aL))))
 (aV (bT 2 (vD (cJ (aA (eC (.int 0)) (aA (e2 pH (cJ (aA (cJ (aA (eC (.int 0)) (aA (eC (.int 1)) aL))) aL)) (eA (aY 1 cN (aA (vV 0) aL)))) (aA (e2 dIx (e2 dIx (rV 1) (eC (.int 0))) (eC (.int 2))) aL))))))
 (bS (aY 1 hZ (aA (vD (eL (e2 i5 (eL (dO (aA (eV 2) aL))) (rV 1)))) aL)))))
noncomputable def eF:List A->R A:=fnF 3 kG
end Mc
namespace Mc
open L2 PyProof.Rows
theorem qO{rs:List Rw}{sg:Nat}{r:Rw}{k:Nat}(M:Mach rs sg)(d:r∈rs)(a:k < sg):r.c[k]? = some (r.c.getD k (0,0))/\rN rs.length (r.c.getD k (0,0)):=by
 have h:=M.row r d
 have b:k < r.c.length:=by rw[h.2];exact a
 have e:r.c[k]? = some (r.c.getD k (0,0)):=by rw[AI,AW b];rfl
 exact⟨e,h.1.2.2 _ (AH e)⟩
end Mc
namespace Fl
open L2 PyProof.Rows
@[simp] theorem f7(d:Dz)(ρ:Sg):eC d ρ=.ok d:=id rfl
@[simp] theorem fE{α β:Type}(g:α->R β)(f:Sg->R α)(ρ:Sg):e1 g f ρ=(f ρ).bind g:=id rfl
@[simp] theorem fR{α β γ:Type}(g:α->β->R γ)(f:Sg->R α)(a:Sg->R β)(ρ:Sg):e2 g f a ρ=(f ρ).bind λx=>(a ρ).bind λy=>g x y:=id rfl
@[simp] theorem mB(i:Nat)(ρ:Sg):eV i ρ=match ρ[i]? with|some (some (.d x))=>.ok x|_=>.bad:=id rfl
@[simp] theorem eM(i:Nat)(ρ:Sg):rV i ρ=match ρ[i]? with|some (some (.d x))=>.ok x|some (some (.l xs))=>.ok (.list xs)|_=>.bad:=id rfl
@[simp] theorem kY(i:Nat)(ρ:Sg):vV i ρ=match ρ[i]? with|some (some (.d x))=>.ok (.d x)|some (some (.x e))=>.ok (.x e)|some (some (.g k n f))=>.ok (.g k n f)|some (some (.f a6))=>.ok (.f a6)|_=>.bad:=id rfl
@[simp] theorem f8(f:Sg->R Dz)(ρ:Sg):vD f ρ=(f ρ).bind λx=>.ok (.d x):=id rfl
@[simp] theorem t7(x:Dz):getD (.d x)=.ok x:=id rfl
@[simp] theorem aC0(f:Sg->R A)(ρ:Sg):eA f ρ=(f ρ).bind getD:=id rfl
@[simp] theorem nE(f:Sg->R (List Dz))(ρ:Sg):eL f ρ=(f ρ).bind λxs=>.ok (.list xs):=id rfl
@[simp] theorem eQ{α:Type}(ρ:Sg):(aL (α:=α)) ρ=.ok []:=id rfl
@[simp] theorem eX{α:Type}(f:Sg->R α)(g:Sg->R (List α))(ρ:Sg):aA f g ρ=(f ρ).bind λx=>(g ρ).bind λxs=>.ok (x::xs):=id rfl
@[simp] theorem iV(f:Sg->R (List Dz))(ρ:Sg):cJ f ρ=(f ρ).bind λxs=>if xs.length<=16777216 then .ok (.tuple xs)else .bad:=id rfl
@[simp] theorem iW(f:Sg->R (List Dz))(ρ:Sg):dO f ρ=(f ρ).bind λxs=>if xs.length<=16777216 then .ok xs else .bad:=id rfl
@[simp] theorem i8(n:Nat)(G:List A->R A)(f:Sg->R (List A))(ρ:Sg):aY n G f ρ=(f ρ).bind λas=>if as.length=n then G as else .bad:=id rfl
@[simp] theorem j5(n:Nat)(fb:Sg->R Fw)(b:List A):fnF n fb b=(fb (b.map some++List.replicate (n - b.length) none)).bind λw=>match w with | .rt (.l _)=>.bad | .rt a=>.ok a | .nx _=>.ok (.d .none)|_=>.bad:=id rfl
@[simp] theorem o0(ρ:Sg):sNx ρ=.ok (.nx ρ):=id rfl
@[simp] theorem bW(f g:Sg->R Fw)(ρ:Sg):aV f g ρ=(f ρ).bind λw=>match w with | .nx ρ'=>g ρ'|w=>.ok w:=id rfl
@[simp] theorem oE(f:Sg->R A)(ρ:Sg):bS f ρ=(f ρ).bind λa=>.ok (.rt a):=id rfl
@[simp] theorem kQ(t:Sg->R Bool)(f g:Sg->R Fw)(ρ:Sg):sIf t f g ρ=(t ρ).bind λb=>if b=true then f ρ else g ρ:=id rfl
@[simp] theorem aXG{α:Type}(t:Sg->R Bool)(f g:Sg->R α)(ρ:Sg):eIf t f g ρ=(t ρ).bind λb=>if b=true then f ρ else g ρ:=id rfl
@[simp] theorem fC(i:Nat)(f:Sg->R A)(ρ:Sg):bT i f ρ=(f ρ).bind λa=>.ok (.nx (ρ.set i (some a))):=id rfl
@[simp] theorem lE(i:Nat)(f:Sg->R (List Dz))(ρ:Sg):iI i f ρ=(f ρ).bind λxs=>.ok (.nx (ρ.set i (some (.l xs)))):=id rfl
@[simp] theorem aWK(f:Sg->R A)(ρ:Sg):aOL f ρ=(f ρ).bind λ_=>.ok (.nx ρ):=id rfl
@[simp] theorem aTS(i:Nat)(f:Sg->R Fw)(ρ:Sg):sFz i f ρ=f (fz i ρ):=id rfl
@[simp] theorem aVG(i:Nat)(ρ:Sg):fz i ρ=match ρ[i]? with|some (some (.l xs))=>ρ.set i (some (.d (.list xs)))|_=>ρ:=id rfl
@[simp] theorem oF(i:Nat)(f:Sg->R Dz)(ρ:Sg):lA i f ρ=match ρ[i]? with|some (some (.l xs))=>(f ρ).bind λx=>if xs.length < 16777216 then .ok (.nx (ρ.set i (some (.l (xs++[x])))))else .bad|_=>.bad:=id rfl
@[simp] theorem aW1(fs:Dz->Sg->O9 Sg)(f:Sg->R Dz)(ρ:Sg):aAU fs f ρ=(f ρ).bind λx=>(aDX (fs x ρ)).bind λρ'=>.ok (.nx ρ'):=id rfl
@[simp] theorem vL(a:Sg->R (List Dz))(fs:Dz->Sg->O9 Sg)(fb:Sg->R Fw)(ρ:Sg):oR a fs fb ρ=(a ρ).bind λxs=>oQ fs fb xs ρ:=id rfl
@[simp] theorem o3(js:List (O9 Nat))(b:Sg->R (List Dz))(fs:Dz->Sg->O9 Sg)(a:Sg->R Bool)(fe:Sg->R Dz)(ρ:Sg):fK js b fs a fe ρ=(b ρ).bind λxs=>compL fs a fe (eJ js ρ) xs:=id rfl
@[simp] theorem aXH(i:Nat)(x:Dz)(ρ:Sg):stN i x ρ=some (ρ.set i (some (.d x))):=id rfl
@[simp] theorem aXI(fs:List (Dz->Sg->O9 Sg))(xs:List Dz)(ρ:Sg):stT fs (.tuple xs) ρ=stL fs xs ρ:=id rfl
@[simp] theorem aW2(ρ:Sg):stL [] [] ρ=some ρ:=id rfl
@[simp] theorem aWL(f:Dz->Sg->O9 Sg)(fs:List (Dz->Sg->O9 Sg))(x:Dz)(xs:List Dz)(ρ:Sg):stL (f::fs) (x::xs) ρ=(f x ρ).bind (stL fs xs):=id rfl
@[simp] theorem aQM(ρ:Sg):gR ρ=.ok true:=id rfl
@[simp] theorem kR(b:Bool):asB (.bool b)=.ok b:=id rfl
@[simp] theorem aW3(f:Sg->R Bool)(ρ:Sg):aAM f ρ=(f ρ).bind λb=>.ok (!b):=id rfl
@[simp] theorem aW4(f g:Sg->R Bool)(ρ:Sg):aIH f g ρ=(f ρ).bind λb=>if b=true then g ρ else .ok false:=id rfl
@[simp] theorem aXJ(f g:Sg->R Bool)(ρ:Sg):bOr f g ρ=(f ρ).bind λb=>if b=true then .ok true else g ρ:=id rfl
@[simp] theorem aW5(f g:Sg->R Dz)(ρ:Sg):aMS f g ρ=(f ρ).bind λx=>(asB x).bind λb=>if b=true then g ρ else .ok (.bool false):=id rfl
@[simp] theorem yW(f:Sg->R Dz)(ρ:Sg):jJ f ρ=(f ρ).bind λx=>match x with | .int j=>oP 0 j|_=>.bad:=id rfl
@[simp] theorem aEG(i:Nat)(ρ:Sg):vC i ρ=.ok (.nx (ρ.set i (some (.m [])))):=id rfl
@[simp] theorem aW6(a:Bool)(i:Nat)(f:Sg->R Dz)(ρ:Sg):wW a i f ρ=(f ρ).bind λk=>match ρ[i]? with|some (some (.m a6))=>if eD k (a6.map (·.1))=true then .ok (.bool (if a=true then !eB a6 k else eB a6 k))else .bad|some (some (.f a6))=>if eD k (a6.map (·.1))=true then .ok (.bool (if a=true then !eB a6 k else eB a6 k))else .bad|_=>.bad:=id rfl
@[simp] theorem aWM(i:Nat)(f:Sg->R Dz)(ρ:Sg):vE i f ρ=match ρ[i]? with|some (some (.m a6))=>(f ρ).bind λk=>if eD k (a6.map (·.1))=true then(match gZ a6 k with|some v=>.ok v|none=>.bad)else .bad|some (some (.f a6))=>(f ρ).bind λk=>if eD k (a6.map (·.1))=true then(match gZ a6 k with|some v=>.ok v|none=>.bad)else .bad|_=>.bad:=id rfl
@[simp] theorem aWN(i:Nat)(f g:Sg->R Dz)(ρ:Sg):vF i f g ρ=(g ρ).bind λv=>match ρ[i]? with|some (some (.m a6))=>(f ρ).bind λk=>if eD k (a6.map (·.1))=true/\a6.length<=16777216 then .ok (.nx (ρ.set i (some (.m (putM a6 k v)))))else .bad|_=>.bad:=id rfl
@[simp] theorem mC(i j:Int):dN (.int i) (.int j)=.ok (.int (i+j)):=id rfl
@[simp] theorem aXK(i j:Int):dSub (.int i) (.int j)=.ok (.int (i - j)):=id rfl
@[simp] theorem aEH(i:Int):dNeg (.int i)=.ok (.int (-i)):=id rfl
@[simp] theorem aXT(i j:Int):dLt (.int i) (.int j)=.ok (.bool (decide (i < j))):=id rfl
@[simp] theorem nF(i j:Int):dGt (.int i) (.int j)=.ok (.bool (decide (j < i))):=id rfl
theorem mD{i j:Int}(h:0 < j):dMod (.int i) (.int j)=.ok (.int (i % j)):=AD h
theorem yX{i j:Int}(h:0 < j)(h2:j < 18446744073709551616):dDiv (.int i) (.int j)=.ok (.int (i / j)):=AD ⟨h,h2⟩
theorem aEI{i j:Int}(h : -18446744073709551616 < j)(h2:j < 18446744073709551616):dMul (.int i) (.int j)=.ok (.int (i * j)):=AD (.inr ⟨h,h2⟩)
theorem aK1{i j:Int}(h : -18446744073709551616 < i)(h2:i < 18446744073709551616):dMul (.int i) (.int j)=.ok (.int (i * j)):=AD (.inl ⟨h,h2⟩)
@[simp] theorem kS(xs:List Dz):dLen (.list xs)=.ok (.int xs.length):=id rfl
@[simp] theorem kT(xs:List Dz):dLen (.tuple xs)=.ok (.int xs.length):=id rfl
theorem aTT{z:Str}(h:z.length<=16777216):dLen (.str z)=.ok (.int z.length):=AD h
@[simp] theorem mE(xs:List Dz):dTup (.list xs)=.ok (.tuple xs):=id rfl
@[simp] theorem aXL(xs:List Dz):dTup (.tuple xs)=.ok (.tuple xs):=id rfl
@[simp] theorem aXM(i:Int):dInt (.int i)=.ok (.int i):=id rfl
@[simp] theorem yY(b:Bool):dInt (.bool b)=.ok (.int (if b=true then 1 else 0)):=id rfl
@[simp] theorem aXU(x:Dz):dIs x .none=.ok (.bool (pE x)):=id rfl
@[simp] theorem aW7:pE .none=true:=id rfl
@[simp] theorem aW8(xs:List Dz):pE (.tuple xs)=false:=id rfl
@[simp] theorem aW9(i:Int):pE (.int i)=false:=id rfl
@[simp] theorem aXA(i:Str):pE (.str i)=false:=id rfl
theorem qP{α:Type}{xs:List α}{i:Int}{v:α}(h0:0<=i)(h:xs[i.toNat]? = some v):atI xs i=some v:=by
 obtain⟨j,rfl⟩:∃ j:Nat,i=j:=⟨i.toNat,by omega⟩
 exact g8 (j:=j) h
theorem aEJ{α:Type}(x:α)(t:List α):atI (x::t) 0=some x:=g8 (j:=0) rfl
theorem aG2{α:Type}(x y:α)(t:List α):atI (x::y::t) 1=some y:=g8 (j:=1) rfl
theorem aQN{α:Type}(x y z:α)(t:List α):atI (x::y::z::t) 2=some z:=g8 (j:=2) rfl
theorem nV{xs:List Dz}{i:Int}{v:Dz}(h:atI xs i=some v):dIx (.tuple xs) (.int i)=.ok v:=by show(match atI xs i with|some v=>R.ok v|none=>.bad)=_;rw[h]
theorem nW{xs:List Dz}{i:Int}{v:Dz}(h:atI xs i=some v):dIx (.list xs) (.int i)=.ok v:=by show(match atI xs i with|some v=>R.ok v|none=>.bad)=_;rw[h]
theorem aVH{z:Str}{i:Int}{u:Nat}(hz:z.length<=16777216)(h:atI z.cps.toList i=some u):dIx (.str z) (.int i)=.ok (.str ⟨#[u]⟩):=by
 show(if z.length<=sizeLine then match atI z.cps.toList i with|some u=>R.ok (PyData.str ⟨#[u]⟩)|none=>.bad else .bad)=_
 rw[eE,AD hz,h]
@[simp] theorem qQ(x:Dz)(t:List Dz):dIx (.tuple (x::t)) (.int 0)=.ok x:=nV (aEJ x t)
@[simp] theorem aK2(x y:Dz)(t:List Dz):dIx (.tuple (x::y::t)) (.int 1)=.ok y:=nV (aG2 x y t)
@[simp] theorem aK3(x y z:Dz)(t:List Dz):dIx (.tuple (x::y::z::t)) (.int 2)=.ok z:=nV (aQN x y z t)
@[simp] theorem qR(x:Dz)(t:List Dz):dIx (.list (x::t)) (.int 0)=.ok x:=nW (aEJ x t)
@[simp] theorem aTU(x y:Dz)(t:List Dz):dIx (.list (x::y::t)) (.int 1)=.ok y:=nW (aG2 x y t)
theorem dP{xs:List Dz}(h:xs.length<=16777216):bE (.tuple xs)=.ok xs:=AD h
theorem m4{xs:List Dz}(h:xs.length<=16777216):bE (.list xs)=.ok xs:=AD h
theorem qS{x y:Dz}(hx:SeqAt.shaped x=true)(a:SeqAt.shaped y=true):dEq x y=.ok (.bool (PyData.eqv x y)):=AD ⟨hx,a⟩
theorem aEK{x y:Dz}(hx:SeqAt.shaped x=true)(a:SeqAt.shaped y=true):dNe x y=.ok (.bool (!PyData.eqv x y)):=AD ⟨hx,a⟩
@[simp] theorem aXN(T:String)(i:Int):oS T (.int i)=.ok (.bool (lD "int" T)):=id rfl
@[simp] theorem aXO(T:String)(i:Str):oS T (.str i)=.ok (.bool (lD "str" T)):=id rfl
@[simp] theorem aXP(T:String)(i:List Dz):oS T (.tuple i)=.ok (.bool (lD "tuple" T)):=id rfl
@[simp] theorem aXQ(T:String)(i:List Dz):oS T (.list i)=.ok (.bool (lD "list" T)):=id rfl
@[simp] theorem aXR(T:String)(i:Bool):oS T (.bool i)=.ok (.bool (lD "bool" T)):=id rfl
@[simp] theorem aXS(T:String):oS T .none=.ok (.bool (lD "NoneType" T)):=id rfl
theorem cU{α:Type}{fs:Dz->Sg->O9 Sg}{fe:Sg->R Dz}{ρ0:Sg}{d:α->Dz}{g:α->Dz}:∀ {xs:List α},(∀ x∈xs,∃ ρ1,fs (d x) ρ0=some ρ1/\fe ρ1=.ok (g x))->compL fs gR fe ρ0 (xs.map d)=.ok (xs.map g)
 | [],_=>rfl
 | x::t,h=>by
  obtain⟨ρ1,h1,h2⟩:=h x AV
  rw[A4]
  unfold compL
  rw[h1,cU λy a=>h y (AL _ a),aB2,R.bind_ok,aQM,R.noEx_ok,R.bind_ok,AD rfl,h2];rfl
theorem lF{α:Type}{fs:Dz->Sg->O9 Sg}{fb:Sg->R Fw}{d:α->Dz}{xs:List α}{ρ:Sg}(J:Nat->Sg->Prop)(h0:J 0 ρ)(a:∀ (i:Nat) (x:α) (ρ:Sg),xs[i]? = some x->J i ρ->∃ ρ1 ρ2,fs (d x) ρ=some ρ1/\(fb ρ1=.ok (.nx ρ2)\/fb ρ1=.ok (.ct ρ2))/\J (i+1) ρ2) :
  ∃ ρ',oQ fs fb (xs.map d) ρ=.ok (.nx ρ')/\J xs.length ρ':=by
 induction xs generalizing ρ J with
 | nil=>exact⟨ρ,rfl,h0⟩
 | cons x t ih=>
  obtain⟨ρ1,ρ2,h1,h2,e⟩:=a 0 x ρ rfl h0
  obtain⟨ρ',b,c⟩:=ih (ρ:=ρ2) (λi=>J (i+1)) e (λi y ρ g f=>a (i+1) y ρ (by simpa using g) f)
  refine⟨ρ',?_,c⟩
  rw[A4]
  unfold oQ
  rw[h1,aB2,R.bind_ok]
  rcases h2 with h2|h2<;>rw[h2]<;>exact b
theorem lS{t:Sg->R Bool}{b:Sg->R Fw}{ρ a:Sg}(h1:t ρ=.ok true)(h2:b ρ=.ok (.nx a)):cT t b ρ=cT t b a:=by
 rw[tT,h1,R.bind_ok,AD rfl,h2];rfl
theorem pL{t:Sg->R Bool}{b:Sg->R Fw}{ρ:Sg}{a:A}(h1:t ρ=.ok true)(h2:b ρ=.ok (.rt a)):cT t b ρ=.ok (.rt a):=by
 rw[tT,h1,R.bind_ok,AD rfl,h2];rfl
theorem iA{t:Sg->R Bool}{b:Sg->R Fw}{ρ:Sg}(h1:t ρ=.ok false):cT t b ρ=.ok (.nx ρ):=by
 rw[tT,h1,R.bind_ok,AE (by decide)]
def been{α:Type}(d:α->Dz)(ps:List α):List (Dz×Dz):=ps.map λp=>(d p,.bool true)
theorem t8{α:Type}(d:α->Dz)(ps:List α):(been d ps).map (·.1)=ps.map d:=by unfold been;rw[AZ];rfl
theorem sG{α:Type}{d:α->Dz}(c:∀ a b,d a=d b->a=b){ps:List α}{p:α}:eB (been d ps) (d p)=true↔p∈ps:=by
 rw[wV,t8,AX]
 grind
theorem lT{α:Type}{d:α->Dz}(c:∀ a b,d a=d b->a=b){ps:List α}{p:α}(h:p∉ps):eB (been d ps) (d p)=false:=by
 cases q:eB (been d ps) (d p)with
 | false=>rfl
 | true=>exact absurd ((sG c).mp q) h
theorem o4{α:Type}{d:α->Dz}(c:∀ a b,d a=d b->a=b){ps:List α}{p:α}(h:p∉ps):putM (been d ps) (d p) (.bool true)=been d (ps++[p]):=by
 unfold putM
 rw[lT c h,AE (by decide)]
 unfold been
 grind
theorem pM{α:Type}{d:α->Dz}(b:∀ a,k8 (d a)=true)(ps:List α)(p:α):eD (d p) ((been d ps).map (·.1))=true:=by
 unfold eD
 rw[t8,b,Bool.true_and,EC,CB]
 grind
theorem m5{α:Type}(d:α->Dz)(ps:List α):(been d ps).length=ps.length:=by unfold been;rw[AA]
def prD(p:Int×Int):Dz:=.tuple [.int p.1,.int p.2]
theorem vM(a b:Int×Int)(h:prD a=prD b):a=b:=by
 unfold prD at h
 grind
theorem vN(a:Int×Int):k8 (prD a)=true:=rfl
end Fl
namespace Mc
open L2 PyProof.Rows Fl
theorem m6{r:Rw}{rs:List Rw}:cN [.d (aC (r::rs))]=.ok (.d (.int r.c.length)):=by
 simp[cN,sC,aC,rowD]
theorem Mach.cons{rs:List Rw}{sg:Nat}(M:Mach rs sg):∃ r t,rs=r::t/\r.c.length=sg:=by
 cases rs with
 | nil=>have:=M.len;simp at this
 | cons r t=>exact⟨r,t,rfl,(M.row r AV).2⟩
def ck(k:Nat)(r:Rw):Int×Int:=r.c.getD k (0,0)
theorem aQO{rs:List Rw}{sg k:Nat}(M:Mach rs sg)(a:k < sg):kE [.d (aC rs),.d (.int k)]=.ok (.d (.list (rs.map λr=>cL (ck k r)))):=by
 have h:=cU (fs:=stN 0) (fe:=e2 dIx (e2 dIx (rV 0) (eC (.int 1))) (rV 1)) (ρ0:=[none,some (.d (.int k))]) (d:=rowD) (g:=λr=>cL (ck k r)) (xs:=rs) λr f=>by
  refine⟨_,rfl,?_⟩
  have e:dIx (.tuple (r.c.map cL)) (.int (k:Int))=.ok (cL (ck k r)):=nV (g8 (j:=k) (by rw[AG,(qO M f a).1];rfl))
  simp[rowD,e]
 have b:(rs.map rowD).length<=16777216:=by have:=M.len2;rw[AA];omega
 simp[kE,sD,aC,dP b,eJ,h]
theorem pN{n:Nat}(h:n<=16777216):oP 0 (n:Int)=.ok ((List.range n).map λi:Nat=>.int (i:Int)):=by
 unfold oP
 rw[AD (by omega)]
 unfold oO
 simp
theorem aK4(z y:Str):aD0 (.str z) (.str y)=match Builtin.Str.occurrences z y 0 z.length 1 with|i::_=>R.ok (PyData.int i)|[]=>.bad:=rfl
theorem aQP{c:Nat}(h:cP 3 c=true):aD0 (.str "abc") (.str ⟨#[c]⟩)=.ok (.int ((c - 97:Nat):Int)):=by
 obtain⟨r,e⟩:=aJ2 h
 rw[aK4,e]
theorem aNI{n c:Nat}(a:n<=3)(h:cP n c=true):cP 3 c=true:=AJ (by have:=BD h;omega)
theorem iB(i:Int):SeqAt.shaped (.int i)=true:=id rfl
theorem aEL(i j:Int):PyData.eqv (.int i) (.int j)=decide (i=j):=by
 rw[PyData.eqv.eq_5]
 grind
theorem jF(i j:Int):dEq (.int i) (.int j)=.ok (.bool (decide (i=j))):=by rw[qS (iB i) (iB j),aEL]
def aEM(c:Int×Int):Int×Int:=(c.1,-c.2)
def t9(r:Rw):Rw:=⟨r.r,r.c.map aEM,r.l⟩
def iH(rs:List Rw):List Rw:=rs.map t9
theorem aK5{rs:List Rw}{sg:Nat}(M:Mach rs sg):l6 [.d (aC rs)]=.ok (.d (aC (iH rs))):=by
 have a:∀ r∈rs,gN [.d (rowD r)]=.ok (.d (rowD (t9 r))):=λr a=>by
  have h1:=cU (fs:=stN 0) (fe:=cJ (aA (e2 dIx (rV 0) (eC (.int 0))) (aA (e1 dNeg (e2 dIx (rV 0) (eC (.int 1)))) aL))) (ρ0:=[none]) (d:=cL) (g:=λc=>cL (aEM c)) (xs:=r.c) λc _=>⟨_,rfl,by simp[cL,aEM]⟩
  have b:(r.c.map cL).length<=16777216:=by have:=(M.row r a).2;have:=M.sg3;rw[AA];omega
  simp[gN,mX,rowD,dP b,eJ,h1]
  simp[t9]
 have h2:=cU (fs:=stN 0) (fe:=eA (aY 1 gN (aA (vV 0) aL))) (ρ0:=[none]) (d:=rowD) (g:=λr=>rowD (t9 r)) (xs:=rs) λr h=>⟨_,rfl,by simp[a r h]⟩
 have e:(rs.map rowD).length<=16777216:=by have:=M.len2;rw[AA];omega
 simp[l6,sE,aC,dP e,eJ,h2]
 simp[iH]
theorem aEN{rs:List Rw}{sg:Nat}(M:Mach rs sg):Mach (iH rs) sg where
 len:=by unfold iH;rw[AA];exact M.len
 len2:=by unfold iH;rw[AA];exact M.len2
 sg1:=M.sg1
 sg3:=M.sg3
 row:=λr g=>by
  unfold iH at g ⊢
  obtain⟨e,m,rfl⟩:=AX.mp g
  obtain⟨⟨i,k,j⟩,l⟩:=M.row e m
  rw[AA]
  refine⟨⟨k,i,λc h=>?_⟩,by show(e.c.map aEM).length=sg;rw[AA];exact l⟩
  obtain⟨c0,f,rfl⟩:=AX.mp (show c∈e.c.map aEM from h)
  obtain⟨a,b,d⟩:=j c0 f
  exact⟨a,b,by show -c0.2=1 \/ -c0.2 = -1;omega⟩
noncomputable def nG:Sg->R Fw:=(aV (bT 2 (vD (eC (.int 0))))
 (aV (sIf (e1 asB (e2 dGt (e1 dLen (rV 0)) (eC (.int 0)))) (bT 2 (vD (e2 dIx (rV 0) (e2 dMod (rV 1) (e1 dLen (rV 0)))))) sNx)
 (aV (bT 3 (vD (e2 dMod (e2 dMul (e2 dN (e2 dN (e2 dMod (rV 2) (eC (.int 2147483647))) (e2 dMul (eC (.int 7919)) (rV 1))) (eC (.int 1))) (eC (.int 48271))) (eC (.int 2147483647)))))
 (bS (vD (e2 dN (e2 dMul (e2 dDiv (rV 2) (eC (.int 2147483647))) (eC (.int 2147483659))) (e2 dMod (e2 dN (e2 dMul (rV 3) (eC (.int 69621))) (e2 dMul (eC (.int 104729)) (rV 1))) (eC (.int 2147483659)))))))))
noncomputable def cZ:List A->R A:=fnF 4 nG
noncomputable def wJ:Sg->R Fw:=(aV (aAU (stT [(stN 3),(stN 4)]) (eV 2))
 (aV (aAU (stT [(stN 5),(stN 6),(stN 7)]) (e2 dIx (rV 0) (rV 4)))
 (aV (sIf (bOr (e1 asB (e2 dEq (rV 3) (eC (.int 0)))) (e1 asB (e2 dGt (rV 3) (e1 dLen (rV 1))))) (aV (bT 8 (vD (e2 dIx (eL (dO (aA (eV 5) (aA (eV 7) aL)))) (e1 dInt (e2 dGt (rV 3) (eC (.int 0)))))))
 (aV (sIf (e1 asB (e1 (oS "str") (rV 8))) (bS (vD (eC .none))) sNx)
 (bS (vD (cJ (aA (e2 dIx (eL (dO (aA (eC (.int 1)) (aA (e1 dLen (rV 1)) aL)))) (e1 dInt (e2 dGt (rV 3) (eC (.int 0))))) (aA (eV 8) aL))))))) sNx)
 (aV (aAU (stT [(stN 8),(stN 9)]) (e2 dIx (rV 6) (e2 aD0 (eC (.str "abc")) (e2 dIx (rV 1) (e2 dSub (rV 3) (eC (.int 1)))))))
 (bS (vD (cJ (aA (e2 dN (rV 3) (rV 9)) (aA (eV 8) aL)))))))))
noncomputable def p6:List A->R A:=fnF 10 wJ
noncomputable def xK:Sg->R Bool:=(e1 asB (wW true 3 (e2 dIx (rV 2) (e1 dNeg (eC (.int 1))))))
noncomputable def xL:Sg->R Fw:=(aV (vF 3 (e2 dIx (rV 2) (e1 dNeg (eC (.int 1)))) (eC (.bool true)))
 (aV (bT 4 (aY 3 p6 (aA (vV 0) (aA (vV 1) (aA (vD (e2 dIx (rV 2) (e1 dNeg (eC (.int 1))))) aL)))))
 (aV (sIf (e1 asB (e2 dIs (rV 4) (eC .none))) (sFz 2 (bS (vV 2))) sNx)
 (lA 2 (eV 4)))))
noncomputable def sT:Sg->R Fw:=aV (iI 2 (dO (aA (cJ (aA (eC (.int 0)) (aA (eC (.int 0)) aL))) aL))) (aV (vC 3) (aV (cT xK xL) (sFz 2 (bS (vV 2)))))
noncomputable def sU:List A->R A:=fnF 5 sT
noncomputable def pO:Sg->R Fw:=(aV (sIf (e1 asB (e1 (oS "str") (rV 0))) (bS (vV 0)) sNx)
 (bS (vD (e2 dN (rV 0) (rV 1)))))
noncomputable def j6:List A->R A:=fnF 2 pO
end Mc
namespace Zp
open L2
end Zp
namespace Fl
open L2 PyProof.Rows
end Fl
namespace Zp
end Zp
namespace Fl
open L2 PyProof.Rows
def aK6(ρ:Sg)(σ:L2.St)(p:Az):Prop:=∀ (j:Nat) (a:A),ρ[j]? = some (some a)->a.own=true->σ[j]? ≠ some (some (.ref p))
structure Own9(c:Ct)(F H:Hp)(ρ:Sg)(σ:L2.St)(i:Nat)(p b:Az)(u:V)(ws:List V):Prop where
 s:σ[i]? = some (some (.ref p))
 ne:p≠b
 hp:H p=some (.lst [u,.ref b])
 hb:H b=some (.lst ws)
 fp:F p=none
 fb:F b=none
 p0:c.H0 p=none
 b0:c.H0 b=none
 np:aK6 ρ σ p
 nb:aK6 ρ σ b
theorem Own9.ext{c:Ct}{F H a H':Hp}{ρ:Sg}{σ:L2.St}{i:Nat}{p b:Az}{u:V}{ws:List V}(h:Own9 c F H ρ σ i p b u ws)(e:Ext F H a H'):Own9 c a H' ρ σ i p b u ws:=
 ⟨h.s,h.ne,e.hh _ _ h.hp,e.hh _ _ h.hb,e.stay h.fp h.hp (λ_ z=>nomatch z),e.stay h.fb h.hb (λ_ z=>nomatch z),h.p0,h.b0,h.np,h.nb⟩
def outH(F:Hp)(q:Az):Hp:=λa=>if a=q then none else F a
section
variable{X:Cx}{c:Ct}{E:XK}{st:Stmt}
end
end Fl
namespace L2
open PySem.Spec PyProof.Rows
section
variable{X:Cx}
def aOT(K:Frag):List V->Hp->VK->Prop:=λxs H Q=>∃ (a W C:Az) (p:Az) (as:List Az) (b:Bool),xs=[.ref a,.ref p]/\SX.ExcC K W C/\(H a=some (ExO a C none)\/∃ d fs,H a=some (ExO a C (some d))/\H d=some (.xd fs))/\SqT K H p (as.map V.ref)/\PySem.W.kitAny K (.ref C) (as.map Value.ref)=some b/\Q (.bl b) H
theorem sV:j9 X (.builtin "isinstance") (aOT X.K):=by
 intro a5 s σ H xs us Q I r h
 obtain⟨a,W,C,p,E,b,rfl,k,f,j,e,q⟩:=h
 obtain⟨u,v,rfl,x,w⟩:=rK r
 cases(show u=Value.ref a from x)
 cases(show v=Value.ref p from w)
 rcases f with f|⟨d,fs,f,m⟩
 .obtain ⟨vs,A⟩:=tG I.hok f
  obtain⟨i,r1,y,_⟩:=I.tuple j
  obtain⟨⟨t,F,c,D⟩,B,l,n,g⟩:=y
  cases(show t=.type "tuple" from l)
  cases(show c=.seq i.toArray n from g)
  rw[<-tH r1]at e
  exact PySem.W.kia_tup (SX.wQ (vs:=vs) (od:=none) (o:=none) k) I.kIn ⟨A,rfl,rfl,True.intro⟩ B e (λz=>nomatch z) λG=>⟨.bl b,H,I.tok _,rfl,q⟩
 .exact aDD a5 s σ H _ _ Q I r ⟨a,W,C,d,fs,p,E,b,rfl,k,f,m,j,e,q⟩
end
end L2
namespace Fl
open L2 PyProof.Rows
section
variable{X:Cx}{c:Ct}{E:XK}{e:E1}{st:Stmt}{rest:List Stmt}{pos:Pos}
def RP(g:Gb)(K:Frag)(mg:Str->O9 V9)(H F' H':Hp)(d:A×Dz)(v:V):Prop:=∃ t u w,v=.ref t/\SqT K H' t [u,w]/\AR g K mg H F' H' d.1 u/\DatV K F' w d.2
end
section
variable{X:Cx}{c:Ct}{E:XK}{e:E1}{st:Stmt}
end
end Fl
namespace Mc
open L2 PyProof.Rows Fl
def aEO(ns:List Int):Dz:=.list (ns.map .int)
theorem aG3(ns:List Int):dLen (aEO ns)=.ok (.int ns.length):=by unfold aEO;rw[kS,AA]
theorem aTV{ns:List Int}{i:Int}(h0:0<=i)(h1:i < ns.length):∃ v,dIx (aEO ns) (.int i)=.ok (.int v):=by
 refine⟨ns[i.toNat]'(by omega),nW (qP h0 ?_)⟩
 grind
theorem kU(ns:List Int)(k:Int):∃ v,cZ [.d (aEO ns),.d (.int k)]=.ok (.d (.int v)):=by
 by_cases h:(0:Int) < ns.length
 .obtain ⟨v,c⟩:=aTV (ns:=ns) (i:=k % (ns.length:Int)) (EF _ (by omega)) (DU _ h)
  have b:dMod (.int k) (.int (ns.length:Int))=.ok (.int (k % (ns.length:Int))):=mD h
  have a:0 < ns.length:=by omega
  refine⟨v / 2147483647 * 2147483659+((v % 2147483647+7919 * k+1) * 48271 % 2147483647 * 69621+104729 * k) % 2147483659,?_⟩
  unfold cZ nG
  simp[aG3,a,b,c,mD,aEI,aK1,yX]
 .have a:¬ 0 < ns.length:=by omega
  refine⟨((7919 * k+1) * 48271 % 2147483647 * 69621+104729 * k) % 2147483659,?_⟩
  unfold cZ nG
  simp[aG3,a,mD,aEI,aK1,yX]
theorem sH{n:Nat}(h:n<=16777216):oP 0 (n:Int)=.ok ((List.range n).map λi:Nat=>.int (i:Int)):=pN h
end Mc
namespace Mc
open L2 PyProof.Rows
def gI(rs:List Rw)(z:List Nat)(s:Int×Int):O9 ((Int×Int)⊕Str):=
 match (cB rs z s).1 with
 | .w x=>some (.inr x)
 | .n q=>some (.inl (s.1+(cB rs z s).2,q))
theorem walk_step{rs:List Rw}{z:List Nat}{s:Int×Int}:(∃ x,gB rs z s=none/\(cB rs z s).1=.w x/\gI rs z s=some (.inr x))\/∃ s',gB rs z s=some s'/\gI rs z s=some (.inl s'):=by
 unfold gB gI
 cases(cB rs z s).1 with
 | w x=>exact .inl ⟨x,rfl,rfl,rfl⟩
 | n q=>exact .inr ⟨_,rfl,rfl⟩
end Mc
namespace Mc
open L2 PyProof.Rows Fl
theorem yZ:lD "int" "str"=false:=by decide
theorem y6:lD "str" "str"=true:=by decide
theorem aEP{rs:List Rw}{q:Int}(h0:0<=q)(h1:q < (rs.length:Int)):dIx (aC rs) (.int q)=.ok (rowD (aO rs q)):=nV (qP h0 (by rw[AG,dY h0 h1];rfl))
def uA:O9 (Int×Int)->Dz
 | none=>.none
 | some s=>prD s
theorem aG4(z:Str):z.length=z.cps.toList.length:=by simp[Str.length]
theorem aK7{rs:List Rw}{sg:Nat}{z:Str}(M:Mach rs sg)(S:bK sg z.cps.toList){s:Int×Int}(V:kB rs z.cps.toList s):p6 [.d (aC rs),.d (.str z),.d (prD s)]=.ok (.d (uA (gB rs z.cps.toList s))):=by
 obtain⟨p,q⟩:=s
 have i:=aEP V.2.2.1 V.2.2.2
 have u:z.length<=16777216:=by rw[aG4];have:=S.1;omega
 have g:=aTT u
 rw[aG4]at g
 generalize y:z.cps.toList=h at *
 unfold p6 wJ
 by_cases f:p=0
 .subst f
  have a:gB rs h (0,q)=match (aO rs q).l with | .w _=>none | .n q'=>some (0+1,q'):=by
   unfold gB cB;simp only[BU]<;>(cases(aO rs q).l<;>rfl)
  cases e:(aO rs q).l with
  | w x=>
   rw[e]at a
   rw[a]
   simp[prD,i,g,rowD,jF,e,Tn.d,y6,uA]
  | n q'=>
   rw[e]at a
   rw[a]
   simp[prD,i,g,rowD,jF,e,Tn.d,yZ,uA]
 .by_cases h1:p=(h.length:Int)+1
  .have a:gB rs h (p,q)=match (aO rs q).r with | .w _=>none | .n q'=>some (p + -1,q'):=by
    unfold gB cB;simp only[AE f,AD h1]<;>(cases(aO rs q).r<;>rfl)
   have v:(0:Int) < p:=by omega
   have b:(h.length:Int) < p:=by omega
   cases e:(aO rs q).r with
   | w x=>
    rw[e]at a
    rw[a]
    simp[prD,i,g,rowD,jF,e,Tn.d,y6,uA,f,b,v]
   | n q'=>
    rw[e]at a
    rw[a]
    simp[prD,i,g,rowD,jF,e,Tn.d,yZ,uA,f,b,v]
    omega
  .obtain ⟨c,m,E,t⟩:=aGB S V f h1
   obtain⟨j,o,k,F⟩:=aDI M S V f h1
   have A:=V.1
   have D:=V.2.1
   simp only at A D m t o k
   have a:gB rs h (p,q)=some (p+j.2,j.1):=by
    unfold gB cB;simp only[AE f,AE h1,k]
   have b:¬ (h.length:Int) < p:=by omega
   have C:dIx (.str z) (.int (p - 1))=.ok (.str ⟨#[c]⟩):=aVH u (qP (by omega) (by rw[y,<-m];congr 1;omega))
   have id:=aQP (aNI M.sg3 E)
   have B:dIx (.tuple ((aO rs q).c.map cL)) (.int ((c - 97:Nat):Int))=.ok (cL j):=nV (g8 (by rw[AG,<-t,o];rfl))
   rw[a]
   simp[prD,i,g,rowD,jF,uA,f,b,C,id,B,cL]
theorem sI(xs:List Dz)(x:Dz):dIx (.list (xs++[x])) (.int (-1))=.ok x:=nW (L2.aMF xs x)
def stρ(rs:List Rw)(z:Str)(ps:List (Int×Int))(s:Int×Int)(u:O9 A):Sg:=[some (.d (aC rs)),some (.d (.str z)),some (.l (ps.map prD++[prD s])),some (.m (been prD ps)),u]
theorem aTW{rs:List Rw}{z:Str}{ps:List (Int×Int)}{s:Int×Int}{u:O9 A}(h:s∈ps):xK (stρ rs z ps s u)=.ok false:=by
 have h1:=pM vN ps s
 have h2:=(sG vM).mpr h
 simp[xK,stρ,sI,h1,h2]
theorem aG5{rs:List Rw}{z:Str}{ps:List (Int×Int)}{s:Int×Int}{u:O9 A}(h:s∉ps):xK (stρ rs z ps s u)=.ok true:=by
 have h1:=pM vN ps s
 have h2:=lT vM h
 simp[xK,stρ,sI,h1,h2]
theorem aK8(s:Int×Int):pE (prD s)=false:=id rfl
theorem aQQ{rs:List Rw}{sg:Nat}{z:Str}(M:Mach rs sg)(S:bK sg z.cps.toList){ps:List (Int×Int)}{s:Int×Int}{u:O9 A}(V:kB rs z.cps.toList s)(h:s∉ps)(c:ps.length<=2000000)(e:gB rs z.cps.toList s=none):xL (stρ rs z ps s u)=.ok (.rt (.d (.list ((ps++[s]).map prD)))):=by
 have h1:=pM vN ps s
 have a:=o4 vM h
 have b:(been prD ps).length<=16777216:=by rw[m5];omega
 have f:=aK7 M S V
 rw[e]at f
 simp[xL,stρ,sI,h1,a,b,f,uA]
theorem aTX{rs:List Rw}{sg:Nat}{z:Str}(M:Mach rs sg)(S:bK sg z.cps.toList){ps:List (Int×Int)}{s s':Int×Int}{u:O9 A}(V:kB rs z.cps.toList s)(h:s∉ps)(g:ps.length<=2000000)(e:gB rs z.cps.toList s=some s'):xL (stρ rs z ps s u)=.ok (.nx (stρ rs z (ps++[s]) s' (some (.d (prD s'))))):=by
 have h1:=pM vN ps s
 have b:=o4 vM h
 have c:(been prD ps).length<=16777216:=by rw[m5];omega
 have f:=aK7 M S V
 rw[e]at f
 have a:ps.length+1 < 16777216:=by omega
 simp[xL,stρ,sI,h1,b,c,f,uA,aK8,a]
def lG(rs:List Rw)(z:List Nat)(s:Int×Int):Prop:=kB rs z s/\((gB rs z s=none/\∃ x,(cB rs z s).1=.w x/\bU (gI rs z) (0,0)=some x)\/((∃ s',gB rs z s=some s')/\bU (gI rs z) (0,0)=none))
theorem aF0{rs:List Rw}{sg:Nat}{z:Str}(M:Mach rs sg)(S:bK sg z.cps.toList):∀ (k:Nat) (ps:List (Int×Int)) (s:Int×Int) (u:O9 A),Way rs z.cps.toList ps s k->Und2 (gI rs z.cps.toList) (0,0) ps s->
  aV (cT xK xL) (sFz 2 (bS (vV 2))) (stρ rs z ps s u)=.ok (.rt (.d (.list ((nU rs z.cps.toList).map prD))))/\∃ ps' s',nU rs z.cps.toList=ps'++[s']/\lG rs z.cps.toList s':=by
 have g:uY rs z.cps.toList<=1002 * 1000:=Nat.mul_le_mul (by have:=S.1;omega) M.len2
 have b:∀ (k:Nat) (ps:List (Int×Int)) (s:Int×Int) (u:O9 A),Way rs z.cps.toList ps s k->Und2 (gI rs z.cps.toList) (0,0) ps s->s∈ps->aV (cT xK xL) (sFz 2 (bS (vV 2))) (stρ rs z ps s u)=.ok (.rt (.d (.list ((nU rs z.cps.toList).map prD))))/\∃ ps' s',nU rs z.cps.toList=ps'++[s']/\lG rs z.cps.toList s':=by
  intro k ps s u W U a
  refine⟨?_,ps,s,(W.stop a).symm,W.here,.inr ⟨?_,U.met a⟩⟩
  .rw[bW,iA (aTW a),<-W.stop a]
   simp[stρ]
  .obtain ⟨m,r⟩:=U.back s a
   cases r with
   | cons h t=>
    rcases walk_step (rs:=rs) (z:=z.cps.toList) (s:=s)with ⟨x,_,_,e⟩|⟨s',e,_⟩
    · grind
    · grind
 intro k
 induction k with
 | zero=>
  intro ps s u W U
  by_cases a:s∈ps
  .exact b 0 ps s u W U a
  .obtain ⟨j,i⟩:=W.more a;omega
 | succ k ih=>
  intro ps s u W U
  by_cases a:s∈ps
  .exact b _ ps s u W U a
  .have f:ps.length<=2000000:=by have:=W.num;omega
   rcases walk_step (rs:=rs) (z:=z.cps.toList) (s:=s)with ⟨x,e,e2,c⟩|⟨s',e,c⟩
   .refine ⟨?_,ps,s,(W.ends a e).symm,W.here,.inl ⟨e,x,e2,U.outs c⟩⟩
    rw[bW,pL (aG5 a) (aQQ M S W.here a f e),<-W.ends a e];rfl
   .have:=ih (ps++[s]) s' (some (.d (prD s'))) (W.next M S a e) (U.next a c)
    rw[bW]at this ⊢
    rw[lS (aG5 a) (aTX M S W.here a f e)]
    grind
theorem aNJ{rs:List Rw}{sg:Nat}{z:Str}(M:Mach rs sg)(S:bK sg z.cps.toList):sU [.d (aC rs),.d (.str z)]=.ok (.d (.list ((nU rs z.cps.toList).map prD)))/\∃ ps' s',nU rs z.cps.toList=ps'++[s']/\lG rs z.cps.toList s':=by
 have h:=aF0 M S (uY rs z.cps.toList) [] (0,0) none (Way.start M) Und2.start
 refine⟨?_,h.2⟩
 unfold sU
 rw[sT]
 simp only[j5,bW,lE,iW,eX,iV,f7,eQ,R.bind_ok,A5,BF,Nat.reduceAdd,Nat.reduceLeDiff,BU,A4,BN,B7,BZ,List.replicate,A2,A3,aEG]
 have e:=h.1
 rw[bW]at e
 simp only[stρ,BN,BZ,been,prD]at e
 rw[e];rfl
noncomputable def gY(rs:List Rw)(z:List Nat):Str:=(bU (gI rs z) (0,0)).getD "ever"
theorem aEQ{x:Dz}(hx:SeqAt.shaped x=true)(h:∀ i,x≠.str i\/True):inD x (.tuple [.str "by",.str "out"])=some (PyData.eqv (.str "by") x || (PyData.eqv (.str "out") x || false)):=by
 have a:SeqAt.shaped (.tuple [.str "by",.str "out"])=true:=by decide +kernel
 cases x<;>simp[inD,hx,a]
theorem aK9(x:Str)(q:Int):PyData.eqv (.str x) (.int q)=false:=by simp[PyData.eqv]
theorem y7(x y:Str):PyData.eqv (.str x) (.str y)=(x == y):=by rw[PyData.eqv.eq_6]
theorem aIT(q:Int):dIn (.int q) (.tuple [.str "by",.str "out"])=.ok (.bool false):=by
 unfold dIn
 rw[aEQ rfl λ_=>.inr trivial,aK9,aK9];rfl
theorem aIU{x:Str}(h:x="by"\/x="out"):dIn (.str x) (.tuple [.str "by",.str "out"])=.ok (.bool true):=by
 have h2:SeqAt.shaped (.str x)=true:=by rcases h with rfl|rfl<;>decide +kernel
 unfold dIn
 rw[aEQ h2 λ_=>.inr trivial,y7,y7]
 grind
end Mc
namespace Mc
open L2 PyProof.Rows
section
variable{S T O Q:Type}
structure Gates(st:S->Option (S⊕O))(sub:S->Option (S⊕Q))(ext:Q->T⊕O)(g:T->S)(ent:T->S⊕O)(Dom:S->Prop)(TV:T->Prop):Prop where
 step:∀ s,Dom s->(∃ s',sub s=some (.inl s')/\st s=some (.inl s')/\Dom s')\/(∃ e t,sub s=some (.inr e)/\ext e=.inl t/\st s=some (.inl (g t))/\TV t)\/∃ e o,sub s=some (.inr e)/\ext e=.inr o/\st s=some (.inr o)
 gate:∀ t,TV t->(∃ s,ent t=.inl s/\st (g t)=some (.inl s)/\Dom s)\/∃ o,ent t=.inr o/\st (g t)=some (.inr o)
noncomputable def gst(sub:S->O9 (S⊕Q))(ext:Q->T⊕O)(ent:T->S⊕O)(ev:O)(t:T):O9 (T⊕O):=match ent t with
 | .inr o=>some (.inr o)
 | .inl s=>match bU sub s with
  | none=>some (.inr ev)
  | some e=>some (ext e)
variable{st:S->O9 (S⊕O)}{sub:S->O9 (S⊕Q)}{ext:Q->T⊕O}{g:T->S}{ent:T->S⊕O}{Dom:S->Prop}{TV:T->Prop}
theorem i9{st:S->O9 (S⊕O)}{s:S}{o:O}{n:Nat}(h:Ex st n s o):bU st s=some o:=((lL st s) o).mpr ⟨n,h⟩
theorem gW{st:S->O9 (S⊕O)}{s:S}{o:O}(h:bU st s=some o):∃ n,Ex st n s o:=((lL st s) o).mp h
theorem Gates.in1(G:Gates st sub ext g ent Dom TV){k:Nat}{s:S}{e:Q}(d:Dom s)(h:Ex sub k s e):(∀ t,ext e=.inl t->Rc st (k+1) s (g t)/\TV t)/\∀ o,ext e=.inr o->Ex st k s o:=by
 induction h with
 | out h=>
  rcases G.step _ d with ⟨s',a,_⟩|⟨i,t,a,b,c,j⟩|⟨i,o,a,b,c⟩
  .grind
  .rw[h]at a;cases a
   exact⟨λf z=>by rw[b]at z;cases z;exact⟨.cons c .nil,j⟩,λo z=>by rw[b]at z;cases z⟩
  .rw[h]at a;cases a
   exact⟨λf z=>(by rw[b]at z;cases z),λo' z=>by rw[b]at z;cases z;exact .out c⟩
 | go h t ih=>
  rcases G.step _ d with ⟨s',a,b,c⟩|⟨i,t,a,b,c,j⟩|⟨i,o,a,b,c⟩
  .rw[h]at a;cases a
   obtain⟨l,m⟩:=ih c
   exact⟨λf z=>⟨.cons b (l f z).1,(l f z).2⟩,λo z=>.go b (m o z)⟩
  .grind
  .grind
theorem Gates.in2(G:Gates st sub ext g ent Dom TV){n:Nat}{s:S}{o:O}(d:Dom s)(h:Ex st n s o):∃ k e,Ex sub k s e/\((∃ t n',ext e=.inl t/\TV t/\n' < n/\Ex st n' (g t) o)\/ext e=.inr o):=by
 induction h with
 | out h=>
  rcases G.step _ d with ⟨s',a,b,_⟩|⟨f,t,a,b,c,i⟩|⟨f,o',a,b,c⟩
  .grind
  .grind
  .rw[h]at c;cases c
   exact⟨0,f,.out a,.inr b⟩
 | go h t ih=>
  rcases G.step _ d with ⟨s',a,b,c⟩|⟨f,j,a,b,c,i⟩|⟨f,o',a,b,c⟩
  .rw[h]at b;cases b
   obtain⟨k,e,q,r⟩:=ih c
   refine⟨k+1,e,.go a q,r.imp ?_ id⟩
   grind
  .rw[h]at c;cases c
   exact⟨0,f,.out a,.inl ⟨j,_,b,i,by omega,t⟩⟩
  .grind
theorem Gates.fwd(G:Gates st sub ext g ent Dom TV)(l:O):∀ (n:Nat) {t:T} {o:O},TV t->Ex st n (g t) o->∃ m,Ex (gst sub ext ent l) m t o:=by
 intro n
 induction n using Nat.strongRecOn with
 | ind n ih=>
  intro t o f h
  rcases G.gate t f with ⟨s,a,b,c⟩|⟨o',a,b⟩
  .cases h with
   | out h=>rw[b]at h;cases h
   | go h q=>
    rw[b]at h;cases h
    obtain⟨k,e,x,y⟩:=G.in2 c q
    have d:=i9 x
    rcases y with ⟨v,u,p,j,w,i⟩|y
    .obtain ⟨m,r⟩:=ih u (by omega) j i
     exact⟨m+1,.go (by unfold gst;rw[a];simp only;rw[d];simp only;rw[p]) r⟩
    .exact ⟨0,.out (by unfold gst;rw[a];simp only;rw[d];simp only;rw[y])⟩
  .cases h with
   | out h=>rw[b]at h;cases h;exact⟨0,.out (by unfold gst;rw[a])⟩
   | go h q=>rw[b]at h;cases h
theorem Gates.bwd(G:Gates st sub ext g ent Dom TV){f:O}{m:Nat}{t:T}{o:O}(h:Ex (gst sub ext ent f) m t o)(i:TV t):o=f\/∃ n,Ex st n (g t) o:=by
 induction h with
 | @out t o h=>
  rcases G.gate t i with ⟨s,a,b,c⟩|⟨o',a,b⟩
  .unfold gst at h
   rw[a]at h
   simp only at h
   cases e:bU sub s with
   | none=>rw[e]at h;cases h;exact .inl rfl
   | some x=>
    rw[e]at h
    have h':ext x=.inr o:=B5 h
    obtain⟨k,d⟩:=gW e
    exact .inr ⟨k+1,.go b ((G.in1 c d).2 o h')⟩
  .unfold gst at h
   rw[a]at h
   cases h
   exact .inr ⟨0,.out b⟩
 | @go t t' o n h q ih=>
  rcases G.gate t i with ⟨s,a,b,c⟩|⟨o',a,b⟩
  .unfold gst at h
   rw[a]at h
   simp only at h
   cases e:bU sub s with
   | none=>rw[e]at h;cases h
   | some x=>
    rw[e]at h
    have h':ext x=.inl t':=B5 h
    obtain⟨k,d⟩:=gW e
    obtain⟨r1,r2⟩:=(G.in1 c d).1 t' h'
    rcases ih r2 with z|⟨j,z⟩
    · grind
    · exact .inr ⟨j + (k + 1) + 1, .go b (r1.to z)⟩
  .unfold gst at h
   grind
theorem Gates.eq(G:Gates st sub ext g ent Dom TV)(a:O){t:T}(c:TV t):(bU st (g t)).getD a=(bU (gst sub ext ent a) t).getD a:=by
 cases e:bU st (g t)with
 | some o=>
  obtain⟨n,h⟩:=gW e
  obtain⟨m,b⟩:=G.fwd a n c h
  rw[i9 b]
 | none=>
  cases e2:bU (gst sub ext ent a) t with
  | none=>rfl
  | some o=>
   obtain⟨m,b⟩:=gW e2
   rcases G.bwd b c with z|⟨n,z⟩
   · grind
   · rw [i9 z]at e; cases e
theorem Gates.inn(G:Gates st sub ext g ent Dom TV)(a:O){s:S}(d:Dom s):(bU st s).getD a=match bU sub s with
  | none=>a
  | some e=>match ext e with
   | .inr o=>o
   | .inl t=>(bU (gst sub ext ent a) t).getD a:=by
 cases e:bU sub s with
 | none=>
  cases e2:bU st s with
  | none=>rfl
  | some o=>
   obtain⟨n,h⟩:=gW e2
   obtain⟨k,x,j,_⟩:=G.in2 d h
   rw[i9 j]at e;cases e
 | some x=>
  obtain⟨k,b⟩:=gW e
  obtain⟨c,i⟩:=G.in1 d b
  simp only
  cases q:ext x with
  | inr o=>simp only;rw[i9 (i o q)];rfl
  | inl t=>
   simp only
   obtain⟨r1,r2⟩:=c t q
   rw[<-G.eq a r2]
   cases e2:bU st (g t)with
   | some o=>
    obtain⟨n,h⟩:=gW e2
    rw[i9 (r1.to h)]
   | none=>
    cases f:bU st s with
    | none=>rfl
    | some o=>
     obtain⟨n,h⟩:=gW f
     obtain⟨l,_,z⟩:=r1.ex h
     rw[i9 z]at e2;cases e2
end
def eU:Str:="ever"
def dI(rs:List Rw)(z:List Nat)(s:Int×Int):O9 ((Int×Int)⊕Tn):=
 match (cB rs z s).1 with
 | .w x=>some (.inr (.w x))
 | .n q=>if s.1+(cB rs z s).2<=(z.length:Int)then some (.inl (s.1+(cB rs z s).2,q))else some (.inr (.n q))
def p7(rs:List Rw)(z:List Nat)(s:Int×Int):Prop:=0<=s.1/\s.1<=(z.length:Int)/\0<=s.2/\s.2 < (rs.length:Int)
def dJ(rs:List Rw)(q:Int):Prop:=0<=q/\q < (rs.length:Int)
theorem p7.valid{rs:List Rw}{z:List Nat}{s:Int×Int}(h:p7 rs z s):kB rs z s:=⟨h.1,by have:=h.2.1;omega,h.2.2⟩
noncomputable def fP(rs:List Rw)(z:List Nat)(s:Int×Int):Tn:=(bU (dI rs z) s).getD (.w eU)
noncomputable def begB(rs:List Rw)(z:List Nat)(q:Int):Tn:=fP rs z ((z.length:Int),q)
theorem aLA{rs:List Rw}{z:List Nat}{c:Nat}{s:Int×Int}(h0:0<=s.1)(h:s.1<=(z.length:Int)):cB rs (z++[c]) s=cB rs z s:=by
 unfold cB
 grind
theorem beg_cell{rs:List Rw}{sg:Nat}{z:List Nat}{s:Int×Int}(M:Mach rs sg)(S:bK sg z)(V:p7 rs z s):(∃ x,(cB rs z s).1=.w x/\s.1=0)\/∃ q,(cB rs z s).1=.n q/\dJ rs q/\0<=s.1+(cB rs z s).2/\s.1+(cB rs z s).2<=(z.length:Int)+1:=by
 cases e:(cB rs z s).1 with
 | w x=>
  refine .inl ⟨x,rfl,?_⟩
  by_cases b:s.1=0
  .exact b
  .unfold cB at e
   rw[AE b,AE (by have:=V.2.1;omega)]at e
   cases e
 | n q=>
  have a:kB rs z (s.1+(cB rs z s).2,q):=yI M S V.valid (by unfold gB;rw[e])
  exact .inr ⟨q,rfl,⟨a.2.2.1,a.2.2.2⟩,a.1,a.2.1⟩
def aTY(e:Tn):Int⊕Tn:=match e with
 | .n q=>.inl q
 | .w x=>.inr (.w x)
def aTZ(e:Tn):Int⊕Str:=match e with
 | .n q=>.inl q
 | .w x=>.inr x
def aER(rs:List Rw)(z:List Nat)(c:Nat)(q:Int):(Int×Int)⊕Tn:=
 if ((aO rs q).c.getD (c - 97) (0,0)).2=1 then .inr (.n ((aO rs q).c.getD (c - 97) (0,0)).1)else .inl ((z.length:Int),((aO rs q).c.getD (c - 97) (0,0)).1)
theorem aB9{rs:List Rw}{z:List Nat}{c:Nat}{q:Int}:cB rs (z++[c]) ((z.length:Int)+1,q)=(.n ((aO rs q).c.getD (c - 97) (0,0)).1,((aO rs q).c.getD (c - 97) (0,0)).2):=by
 unfold cB
 grind
theorem aCA{rs:List Rw}{sg:Nat}{z:List Nat}{c:Nat}(M:Mach rs sg)(S:bK sg z)(i:cP sg c=true):Gates (dI rs (z++[c])) (dI rs z) aTY (λq=>((z.length:Int)+1,q)) (aER rs z c) (p7 rs z) (dJ rs) where
 step:=λs V=>by
  have f:=aLA (rs:=rs) (c:=c) V.1 V.2.1
  have d:((z++[c]).length:Int)=(z.length:Int)+1:=by rw[AS,BC];omega
  rcases beg_cell M S V with ⟨x,e,m⟩|⟨q,e,b,h1,h2⟩
  .refine .inr (.inr ⟨.w x,.w x,?_,rfl,?_⟩)
   .unfold dI;rw[e]
   .unfold dI;rw[f,e]
  .by_cases g:s.1+(cB rs z s).2<=(z.length:Int)
   .refine .inl ⟨(s.1+(cB rs z s).2,q),?_,?_,h1,g,b⟩
    · unfold dI; rw [e]; simp only; rw [AD g]
    · unfold dI; rw [f, e]; simp only; rw [AD (by rw [d]; omega)]
   .refine .inr (.inl ⟨.n q,q,?_,rfl,?_,b⟩)
    · unfold dI; rw [e]; simp only; rw [AE g]
    · unfold dI; rw [f, e]; simp only; rw [AD (by rw [d]; omega), show s.1 + (cB rs z s).2 = (z.length : Int) + 1 by omega]
 gate:=λq b=>by
  have d:((z++[c]).length:Int)=(z.length:Int)+1:=by rw[AS,BC];omega
  have l:=AH (dY b.1 b.2)
  obtain⟨_,h⟩:=qO M l (show c - 97 < sg by have:=BD i;omega)
  obtain⟨j,k,a⟩:=h
  rcases a with a|a
  .refine .inr ⟨.n _,by unfold aER;rw[AD a],?_⟩
   unfold dI;rw[aB9];simp only;rw[AE (by rw[d,a];omega)]
  .refine .inl ⟨((z.length:Int),((aO rs q).c.getD (c - 97) (0,0)).1),by unfold aER;rw[AE (by rw[a];decide)],?_,?_⟩
   .unfold dI;rw[aB9];simp only;rw[AD (by rw[d,a];omega),a,show(z.length:Int)+1 + -1=z.length by omega]
   .exact ⟨by show(0:Int)<=z.length;omega,DY _,j,k⟩
def fF(rs:List Rw)(bk:Int->Tn)(c:Nat)(q:Int):O9 (Int⊕Tn):=
 if ((aO rs q).c.getD (c - 97) (0,0)).2=1 then some (.inr (.n ((aO rs q).c.getD (c - 97) (0,0)).1))else match bk ((aO rs q).c.getD (c - 97) (0,0)).1 with
  | .n r=>some (.inl r)
  | .w x=>some (.inr (.w x))
noncomputable def onR(rs:List Rw)(bk:Int->Tn)(c:Nat)(t:Tn):Tn:=match t with
 | .w x=>.w x
 | .n q=>(bU (fF rs bk c) q).getD (.w eU)
theorem aLB{rs:List Rw}{z:List Nat}{c:Nat}:gst (dI rs z) aTY (aER rs z c) (.w eU)=fF rs (begB rs z) c:=by
 funext q
 unfold gst aER fF begB fP
 by_cases h:((aO rs q).c.getD (c - 97) (0,0)).2=1
 .grind
 .rw[AE h,AE h]
  simp only
  cases bU (dI rs z) ((z.length:Int),((aO rs q).c.getD (c - 97) (0,0)).1)with
  | none=>rfl
  | some e=>cases e<;>rfl
theorem nL{rs:List Rw}{sg:Nat}{z:List Nat}{c:Nat}(M:Mach rs sg)(S:bK sg z)(a:cP sg c=true){q:Int}(b:dJ rs q):begB rs (z++[c]) q=onR rs (begB rs z) c (.n q):=by
 have h:=(aCA M S a).eq (.w eU) b
 rw[aLB]at h
 unfold begB fP onR
 rw[show((z++[c]).length:Int)=(z.length:Int)+1 by rw[AS,BC];omega]
 exact h
theorem uB{rs:List Rw}{sg:Nat}(M:Mach rs sg)(z:List Nat):p7 rs z (0,0):=⟨DY _,by show(0:Int)<=z.length;omega,DY _,by have:=M.len;show(0:Int) < rs.length;omega⟩
theorem aCB{rs:List Rw}{sg:Nat}{z:List Nat}{c:Nat}(M:Mach rs sg)(S:bK sg z)(a:cP sg c=true):fP rs (z++[c]) (0,0)=onR rs (begB rs z) c (fP rs z (0,0)):=by
 have h:=(aCA M S a).inn (.w eU) (uB M z)
 rw[aLB]at h
 unfold fP
 rw[h]
 cases bU (dI rs z) (0,0)with
 | none=>rfl
 | some e=>cases e<;>rfl
def dQ(rs:List Rw)(bk:Int->Tn)(q:Int):O9 (Int⊕Str):=match (aO rs q).r with
 | .w x=>some (.inr x)
 | .n q'=>match bk q' with
  | .n r=>some (.inl r)
  | .w x=>some (.inr x)
noncomputable def wbR(rs:List Rw)(bk:Int->Tn)(t:Tn):Str:=match t with
 | .w x=>x
 | .n q=>(bU (dQ rs bk) q).getD eU
def aES(rs:List Rw)(z:List Nat)(q:Int):(Int×Int)⊕Str:=match (aO rs q).r with
 | .w x=>.inr x
 | .n q'=>.inl ((z.length:Int),q')
theorem aCC{rs:List Rw}{z:List Nat}{q:Int}:cB rs z ((z.length:Int)+1,q)=((aO rs q).r,-1):=by
 unfold cB
 grind
theorem aIV{rs:List Rw}{sg:Nat}{z:List Nat}(M:Mach rs sg)(S:bK sg z):Gates (gI rs z) (dI rs z) aTZ (λq=>((z.length:Int)+1,q)) (aES rs z) (p7 rs z) (dJ rs) where
 step:=λs V=>by
  rcases beg_cell M S V with ⟨x,e,f⟩|⟨q,e,a,h1,h2⟩
  .refine .inr (.inr ⟨.w x,x,?_,rfl,?_⟩)
   .unfold dI;rw[e]
   .unfold gI;rw[e]
  .by_cases c:s.1+(cB rs z s).2<=(z.length:Int)
   .refine .inl ⟨(s.1+(cB rs z s).2,q),?_,?_,h1,c,a⟩
    · unfold dI; rw [e]; simp only; rw [AD c]
    · unfold gI; rw [e]
   .refine .inr (.inl ⟨.n q,q,?_,rfl,?_,a⟩)
    · unfold dI; rw [e]; simp only; rw [AE c]
    · unfold gI; rw [e]; simp only; rw [show s.1 + (cB rs z s).2 = (z.length : Int) + 1 by omega]
 gate:=λq a=>by
  have d:=AH (dY a.1 a.2)
  have b:=(M.row _ d).1.2.1
  cases e:(aO rs q).r with
  | w x=>exact .inr ⟨x,by unfold aES;rw[e],by unfold gI;rw[aCC];simp only;rw[e]⟩
  | n q'=>
   rw[e]at b
   refine .inl ⟨((z.length:Int),q'),by unfold aES;rw[e],?_,⟨by show(0:Int)<=z.length;omega,DY _,b.1,b.2⟩⟩
   unfold gI;rw[aCC];simp only;rw[e];simp only;rw[show(z.length:Int)+1 + -1=z.length by omega]
theorem aT0{rs:List Rw}{z:List Nat}:gst (dI rs z) aTZ (aES rs z) eU=dQ rs (begB rs z):=by
 funext q
 unfold gst aES dQ begB fP
 cases(aO rs q).r with
 | w x=>rfl
 | n q'=>
  simp only
  cases bU (dI rs z) ((z.length:Int),q')with
  | none=>rfl
  | some e=>cases e<;>rfl
theorem xM{rs:List Rw}{sg:Nat}{z:List Nat}(M:Mach rs sg)(S:bK sg z):(bU (gI rs z) (0,0)).getD eU=wbR rs (begB rs z) (fP rs z (0,0)):=by
 have h:=(aIV M S).inn eU (uB M z)
 rw[aT0]at h
 rw[h]
 unfold fP wbR
 cases bU (dI rs z) (0,0)with
 | none=>rfl
 | some e=>cases e<;>rfl
theorem vO{rs:List Rw}{q:Int}:fP rs [] (0,q)=(aO rs q).l:=by
 have a:cB rs [] (0,q)=((aO rs q).l,1):=by unfold cB;rw[AD rfl]
 unfold fP
 cases e:(aO rs q).l with
 | w x=>rw[hR (o:=.w x) (by unfold dI;rw[a,e])];rfl
 | n q'=>
  rw[hR (o:=.n q') (by unfold dI;rw[a,e];simp only;rw[AE (by decide)])];rfl
end Mc
namespace Mc
open L2 PyProof.Rows Fl
def jA(f:Tn)(bk:List Tn):Dz:=.tuple [f.d,.tuple (bk.map Tn.d)]
def bkF(bk:List Tn)(q:Int):Tn:=bk.getD q.toNat (.w eU)
def tnV(m:Nat):Tn->Prop
 | .n i=>0<=i/\i < (m:Int)
 | .w _=>True
theorem jL(a b:Int)(h:PyData.int a=PyData.int b):a=b:=by grind
theorem kH(ps:List Int)(q:Int):eD (.int q) ((been PyData.int ps).map (·.1))=true:=by
 unfold eD
 rw[t8,EC]
 refine .inr ?_
 rw[show tP (.int q)=true from rfl,Bool.true_and,CB]
 intro x a
 obtain⟨i,_,rfl⟩:=AX.mp a
 rfl
theorem aA7(i:Int):gM [.d (.int i)]=.ok (.d (.bool false)):=by
 unfold gM pI
 simp[yZ]
theorem aA8(x:Str):gM [.d (.str x)]=.ok (.d (.bool true)):=by
 unfold gM pI
 simp[y6]
def gX(rs:List Rw)(k:Nat):Dz:=.list (rs.map λr=>cL (ck k r))
theorem aET{rs:List Rw}{k:Nat}{q:Int}(h0:0<=q)(h1:q < (rs.length:Int)):dIx (gX rs k) (.int q)=.ok (cL (ck k (aO rs q))):=nW (qP h0 (by rw[AG,dY h0 h1];rfl))
theorem aOU{bk:List Tn}{q:Int}(h0:0<=q)(h1:q < (bk.length:Int)):dIx (.tuple (bk.map Tn.d)) (.int q)=.ok (bkF bk q).d:=by
 refine nV (qP h0 ?_)
 have a:q.toNat < bk.length:=by omega
 rw[AG,AW a]
 unfold bkF
 grind
theorem vP{m:Nat}{bk:List Tn}(a:∀ t∈bk,tnV m t)(q:Int):tnV m (bkF bk q):=by
 unfold bkF
 rw[AI]
 cases e:bk[q.toNat]? with
 | none=>exact trivial
 | some t=>exact a t (AH e)
noncomputable def oρ(rs:List Rw)(bk:List Tn)(k:Nat)(t:Tn)(ps:List Int)(u:O9 A):Sg:=[some (.d (.tuple (bk.map Tn.d))),some (.d (gX rs k)),some (.d t.d),some (.m (been PyData.int ps)),u]
theorem aT1{rs:List Rw}{bk:List Tn}{k:Nat}{x:Str}{ps:List Int}{u:O9 A}:oT (oρ rs bk k (.w x) ps u)=.ok false:=by
 simp[oT,oρ,Tn.d,aA8]
theorem aNK{rs:List Rw}{bk:List Tn}{k:Nat}{q:Int}{ps:List Int}{u:O9 A}:oT (oρ rs bk k (.n q) ps u)=.ok true:=by
 simp[oT,oρ,Tn.d,aA7]
theorem aT2{rs:List Rw}{bk:List Tn}{k:Nat}{q:Int}{ps:List Int}{u:O9 A}(h:q∈ps):oB (oρ rs bk k (.n q) ps u)=.ok (.rt (.d (.str "ever"))):=by
 have h1:=kH ps q
 have h2:=(sG jL).mpr h
 simp[oB,oρ,Tn.d,h1,h2]
theorem aT3{rs:List Rw}{bk:List Tn}{k:Nat}{q:Int}{ps:List Int}{u:O9 A}(h:q∉ps)(a:dJ rs q)(c:ps.length<=16777216)(b:(ck k (aO rs q)).2=1):oB (oρ rs bk k (.n q) ps u)=.ok (.rt (.d (.int (ck k (aO rs q)).1))):=by
 have h1:=kH ps q
 have h2:=lT jL h
 have e:(been PyData.int ps).length<=16777216:=by rw[m5];exact c
 have hi:=aET (k:=k) a.1 a.2
 simp[oB,oρ,Tn.d,h1,h2,e,hi,cL,jF,b]
theorem aVI{rs:List Rw}{bk:List Tn}{k:Nat}{q:Int}{ps:List Int}{u:O9 A}(h:q∉ps)(a:dJ rs q)(e:ps.length<=16777216)(b:(ck k (aO rs q)).2≠1)(h0:0<=(ck k (aO rs q)).1)(c:(ck k (aO rs q)).1 < (bk.length:Int)):oB (oρ rs bk k (.n q) ps u)=.ok (.nx (oρ rs bk k (bkF bk (ck k (aO rs q)).1) (ps++[q]) (some (.d (cL (ck k (aO rs q))))))):=by
 have h1:=kH ps q
 have h2:=lT jL h
 have f:=o4 jL h
 have i:(been PyData.int ps).length<=16777216:=by rw[m5];exact e
 have hi:=aET (k:=k) a.1 a.2
 have g:=aOU h0 c
 simp[oB,oρ,Tn.d,h1,h2,f,i,hi,cL,jF,b,g]
theorem vQ{m:Nat}{l:List Int}(d:l.Nodup)(c:∀ q∈l,0<=q/\q < (m:Int)):l.length<=m:=
 tL (λq:Int=>q.toNat) m l d (λq f=>by have:=c q f;show q.toNat < m;omega) (λa g b h e=>by
  have h1:=c a g
  have h2:=c b h
  have i:a.toNat=b.toNat:=e
  omega)
theorem qT{rs:List Rw}{bk:Int->Tn}{c:Nat}{q:Int}:fF rs bk c q=if (ck (c - 97) (aO rs q)).2=1 then some (.inr (.n (ck (c - 97) (aO rs q)).1))else match bk (ck (c - 97) (aO rs q)).1 with
 | .n r=>some (.inl r)
 | .w x=>some (.inr (.w x)):=id rfl
theorem aQR{rs:List Rw}{sg c:Nat}{bk:List Tn}(M:Mach rs sg)(j:cP sg c=true)(m:bk.length=rs.length)(v:∀ t∈bk,tnV rs.length t){i:Int}:∀ (n:Nat) (ps:List Int) (q:Int) (u:O9 A),Und2 (fF rs (bkF bk) c) i ps q->(∀ p∈ps,dJ rs p)->dJ rs q->rs.length+1<=ps.length+n->
  aV (cT oT oB) (bS (vV 2)) (oρ rs bk (c - 97) (.n q) ps u)=.ok (.rt (.d ((bU (fF rs (bkF bk) c) i).getD (.w eU)).d)):=by
 intro n
 induction n with
 | zero=>
  intro ps q u U pv a o
  have:=vQ U.nd pv
  omega
 | succ n ih=>
  intro ps q u U pv a o
  rw[bW]
  by_cases b:q∈ps
  .rw[pL aNK (aT2 b),U.met b];rfl
  .have y:ps.length<=rs.length:=vQ U.nd pv
   have f:ps.length<=16777216:=by have:=M.len2;omega
   have s:=AH (dY a.1 a.2)
   obtain⟨_,g⟩:=qO M s (show c - 97 < sg by have:=BD j;omega)
   have g:rN rs.length (ck (c - 97) (aO rs q)):=g
   obtain⟨k,l,B⟩:=g
   by_cases h1:(ck (c - 97) (aO rs q)).2=1
   .have st:fF rs (bkF bk) c q=some (.inr (.n (ck (c - 97) (aO rs q)).1)):=by unfold fF;exact AD h1
    rw[pL aNK (aT3 b a f h1),U.outs st];rfl
   .rw[lS aNK (aVI b a f h1 k (by rw[m];exact l))]
    have h:=vP v (ck (c - 97) (aO rs q)).1
    cases e:bkF bk (ck (c - 97) (aO rs q)).1 with
    | w x=>
     have st:fF rs (bkF bk) c q=some (.inr (.w x)):=by rw[qT,AE h1,e]
     rw[iA aT1,U.outs st]
     simp[oρ,Tn.d]
    | n r=>
     rw[e]at h
     have st:fF rs (bkF bk) c q=some (.inl r):=by rw[qT,AE h1,e]
     have:=ih (ps++[q]) r (some (.d (cL (ck (c - 97) (aO rs q))))) (U.next b st) (λp f=>by
      rcases BX.mp f with z|z
      · grind
      · rw [A8.mp z]; exact a) h (by rw [AS, BC]; omega)
     rw[bW]at this
     grind
theorem aT4{rs:List Rw}{sg c:Nat}{bk:List Tn}(M:Mach rs sg)(b:cP sg c=true)(g:bk.length=rs.length)(h:∀ t∈bk,tnV rs.length t){t:Tn}(f:tnV rs.length t):jZ [.d (.tuple (bk.map Tn.d)),.d (gX rs (c - 97)),.d t.d]=.ok (.d (onR rs (bkF bk) c t).d):=by
 have a:aV (cT oT oB) (bS (vV 2)) (oρ rs bk (c - 97) t [] none)=.ok (.rt (.d (onR rs (bkF bk) c t).d)):=by
  cases t with
  | w x=>
   rw[bW,iA aT1]
   simp[oρ,Tn.d,onR]
  | n q=>exact aQR M b g h (rs.length+1) [] q none Und2.start (λp e=>by simp at e) f (by simp)
 unfold jZ
 rw[t5]
 simp only[j5,bW,aEG,R.bind_ok,A5,BF,Nat.reduceAdd,A4,BN,B7,BZ,List.replicate,A2,A3]
 rw[bW]at a
 simp only[oρ,been,BN]at a
 simp_all
theorem aVJ{rs:List Rw}{sg c:Nat}{bk:List Tn}(M:Mach rs sg)(a:cP sg c=true)(f:bk.length=rs.length)(b:∀ t∈bk,tnV rs.length t){t:Tn}(l:tnV rs.length t) :
  i6 [.d (jA t bk),.d (gX rs (c - 97))]=.ok (.d (jA (onR rs (bkF bk) c t) ((List.range rs.length).map λq:Nat=>onR rs (bkF bk) c (.n (q:Int))))):=by
 have h:=cU (fs:=stN 0) (fe:=eA (aY 3 jZ (aA (vD (e2 dIx (rV 1) (eC (.int 1)))) (aA (vV 2) (aA (vV 0) aL))))) (ρ0:=[none,some (.d (jA t bk)),some (.d (gX rs (c - 97)))]) (d:=λi:Nat=>.int (i:Int)) (g:=λi:Nat=>(onR rs (bkF bk) c (.n (i:Int))).d) (xs:=List.range rs.length) λi hi=>by
  refine⟨_,rfl,?_⟩
  have:=aT4 M a f b (t:=.n (i:Int)) ⟨by omega,by have:=A7.mp hi;omega⟩
  have e:(Tn.n (i:Int)).d=.int i:=rfl
  rw[e]at this
  simp[jA,this]
 have k:=pN (n:=rs.length) (by have:=M.len2;omega)
 have j:dLen (gX rs (c - 97))=.ok (.int rs.length):=by unfold gX;rw[kS,AA]
 have h1:=aT4 M a f b l
 have m:dIx (jA t bk) (.int 0)=.ok t.d:=qQ _ _
 have h2:dIx (jA t bk) (.int 1)=.ok (.tuple (bk.map Tn.d)):=aK2 _ _ _
 unfold i6 xI
 simp[m,h2,h1,j,k,eJ,h]
 unfold jA
 simp_all
noncomputable def bF(rs:List Rw)(z:List Nat):Dz:=jA (fP rs z (0,0)) ((List.range rs.length).map λq:Nat=>begB rs z (q:Int))
theorem m7{rs:List Rw}{sg:Nat}{z:List Nat}(M:Mach rs sg)(S:bK sg z){s:Int×Int}(V:p7 rs z s):tnV rs.length (fP rs z s):=by
 unfold fP
 cases e:bU (dI rs z) s with
 | none=>exact trivial
 | some t=>
  obtain⟨n,h⟩:=gW e
  show tnV rs.length t
  clear e
  induction h with
  | @out s o h=>
   unfold dI at h
   rcases beg_cell M S V with ⟨x,e,c⟩|⟨q,e,a,h1,h2⟩
   .rw[e]at h;cases h;exact trivial
   .rw[e]at h
    simp only at h
    split at h
    · cases h
    · cases h; exact a
  | @go s s' o n h t ih=>
   refine ih ?_
   unfold dI at h
   rcases beg_cell M S V with ⟨x,e,c⟩|⟨q,e,a,h1,h2⟩
   .grind
   .rw[e]at h
    simp only at h
    split at h
    · rename_i b; cases h; exact⟨h1, b, a⟩
    · cases h
theorem aIW{rs:List Rw}{z:List Nat}{q:Nat}(h:q < rs.length):p7 rs z ((z.length:Int),(q:Int)):=⟨by show(0:Int)<=z.length;omega,DY _,by show(0:Int)<=q;omega,by show(q:Int) < rs.length;omega⟩
theorem aA9{rs:List Rw}{z:List Nat}{q:Int}(a:dJ rs q):bkF ((List.range rs.length).map λq:Nat=>begB rs z (q:Int)) q=begB rs z q:=by
 have b:q.toNat < rs.length:=by have:=a.1;have:=a.2;omega
 unfold bkF
 rw[AI,AG,BM b]
 show begB rs z ((q.toNat:Nat):Int)=_
 rw[show((q.toNat:Nat):Int)=q by have:=a.1;omega]
theorem aEU{rs:List Rw}{sg c:Nat}(M:Mach rs sg)(k:cP sg c=true){bk a:Int->Tn}(h:∀ q,dJ rs q->bk q=a q)(p:∀ q,dJ rs q->tnV rs.length (bk q)){t:Tn}(m:tnV rs.length t):onR rs bk c t=onR rs a c t:=by
 cases t with
 | w x=>rfl
 | n q=>
  have st:∀ q,dJ rs q->fF rs bk c q=fF rs a c q:=λq b=>by
   unfold fF
   have i:=AH (dY b.1 b.2)
   obtain⟨_,f⟩:=qO M i (show c - 97 < sg by have:=BD k;omega)
   rw[h _ ⟨f.1,f.2.1⟩]
  have nx:∀ q d,dJ rs q->fF rs bk c q=some (.inl d)->dJ rs d:=λq d b e=>by
   unfold fF at e
   have i:=AH (dY b.1 b.2)
   obtain⟨_,f⟩:=qO M i (show c - 97 < sg by have:=BD k;omega)
   have l:=p _ ⟨f.1,f.2.1⟩
   split at e
   .cases e
   .split at e
    · rename_i r y; cases e; rw [y]at l; exact l
    · cases e
  have u:∀ n q o,dJ rs q->Ex (fF rs bk c) n q o->Ex (fF rs a c) n q o:=by
   intro n q o b g
   induction g with
   | @out q o e=>exact .out (by rw[<-st q b];exact e)
   | @go q d o n e t ih=>exact .go (by rw[<-st q b];exact e) (ih (nx q d b e))
  have v:∀ n q o,dJ rs q->Ex (fF rs a c) n q o->Ex (fF rs bk c) n q o:=by
   intro n q o b g
   induction g with
   | @out q o e=>exact .out (by rw[st q b];exact e)
   | @go q d o n e t ih=>
    have j:fF rs bk c q=some (.inl d):=by rw[st q b];exact e
    exact .go j (ih (nx q d b j))
  show(bU (fF rs bk c) q).getD (.w eU)=(bU (fF rs a c) q).getD (.w eU)
  rw[wI (st:=fF rs bk c) (st':=fF rs a c) (s:=q) (s':=q) λo=>⟨λ⟨n,x⟩=>⟨n,u n q o m x⟩,λ⟨n,x⟩=>⟨n,v n q o m x⟩⟩]
theorem aEV{rs:List Rw}{sg:Nat}{z:List Nat}{c:Nat}(M:Mach rs sg)(S:bK sg z)(b:cP sg c=true):i6 [.d (bF rs z),.d (gX rs (c - 97))]=.ok (.d (bF rs (z++[c]))):=by
 have h:((List.range rs.length).map λq:Nat=>begB rs z (q:Int)).length=rs.length:=by simp
 have g:∀ t∈(List.range rs.length).map λq:Nat=>begB rs z (q:Int),tnV rs.length t:=λt j=>by
  obtain⟨q,e,rfl⟩:=AX.mp j
  exact m7 M S (aIW (A7.mp e))
 have f:∀ q,dJ rs q->tnV rs.length (bkF ((List.range rs.length).map λq:Nat=>begB rs z (q:Int)) q):=λq a=>vP g q
 unfold bF
 rw[aVJ M b h g (m7 M S (uB M z))]
 rw[aEU M b (λq a=>aA9 a) f (m7 M S (uB M z)),aCB M S b]
 have i:((List.range rs.length).map λq:Nat=>onR rs (bkF ((List.range rs.length).map λq:Nat=>begB rs z (q:Int))) c (.n (q:Int)))=(List.range rs.length).map λq:Nat=>begB rs (z++[c]) (q:Int):=?_
 .rw[i]
 refine BH λq e=>?_
 have a:dJ rs (q:Int):=⟨by omega,by have:=A7.mp e;omega⟩
 rw[aEU M b (λq a=>aA9 a) f (t:=.n (q:Int)) a,nL M S b a]
theorem aIX{rs:List Rw}{sg:Nat}(M:Mach rs sg):bE (aC rs)=.ok (rs.map rowD):=dP (by have:=M.len2;rw[AA];omega)
theorem aNL{α:Type}(rs:List Rw)(f:Rw->α):rs.map f=(List.range rs.length).map λq:Nat=>f (aO rs (q:Int)):=by
 apply List.ext_getElem
 .simp
 .intro i h1 h2
  have hi:i < rs.length:=by simpa using h1
  simp only[List.getElem_map,FM]
  congr 1
  unfold aO
  grind
theorem aVK{rs:List Rw}{sg:Nat}(M:Mach rs sg):hX [.d (aC rs)]=.ok (.d (bF rs [])):=by
 have h:=cU (fs:=stN 0) (fe:=e2 dIx (rV 0) (eC (.int 0))) (ρ0:=[none]) (d:=rowD) (g:=λr:Rw=>r.l.d) (xs:=rs) λr _=>⟨_,rfl,by simp[rowD]⟩
 have e1:bF rs []=.tuple [(aO rs 0).l.d,.tuple (rs.map λr=>r.l.d)]:=by
  unfold bF jA
  rw[vO,aNL rs,AZ]
  congr 4
  refine BH λq _=>?_
  show(fP rs [] (((([]:List Nat).length:Nat):Int),(q:Int))).d=_
  rw[show((([]:List Nat).length:Nat):Int)=0 by rfl,vO]
 obtain⟨r,t,a,_⟩:=M.cons
 have b:dIx (.tuple (rs.map λr=>r.l.d)) (.int 0)=.ok (aO rs 0).l.d:=by
  subst a
  exact qQ _ _
 rw[e1]
 unfold hX l5
 simp[aIX M,eJ,h,b]
theorem aT5{rs:List Rw}{sg:Nat}(M:Mach rs sg)(ρ0:Sg)(h:eJ [none,some 0] ρ0=[none,some (.d (aC rs))]) :
  compL (stN 0) gR (eA (aY 2 kE (aA (vV 1) (aA (vV 0) aL)))) (eJ [none,some 0] ρ0) ((List.range sg).map λi:Nat=>.int (i:Int))=.ok ((List.range sg).map (gX rs)):=by
 rw[h]
 refine cU λk a=>⟨_,rfl,?_⟩
 have:=aQO M (A7.mp a)
 simp[this]
 rfl
def fZ(k:Int):Tn->Tn
 | .n q=>.n (q+k)
 | .w x=>.w x
def uC(k:Int)(c:Int×Int):Int×Int:=(c.1+k,c.2)
def movR(k:Int)(r:Rw):Rw:=⟨fZ k r.l,r.c.map (uC k),fZ k r.r⟩
def uD(sg:Nat)(rs:List Rw):List Rw:=⟨.n 0,List.replicate sg (0,1),fZ 1 (aO rs 0).l⟩::(iH rs).map (movR 1)
theorem aLC{n:Int}{t:Tn}(h:t.good n)(k:Int):gS [.d t.d,.d (.int k)]=.ok (.d (fZ k t).d):=by
 cases t with
 | n q=>simp[gS,l9,Tn.d,aIT,fZ]
 | w x=>simp[gS,l9,Tn.d,aIU h,fZ]
theorem aT6{n:Int}{r:Rw}(h:r.good n)(b:r.c.length<=1000)(k:Int):jK [.d (rowD r),.d (.int k)]=.ok (.d (rowD (movR k r))):=by
 have h1:=cU (fs:=stN 0) (fe:=cJ (aA (e2 dN (e2 dIx (rV 0) (eC (.int 0))) (rV 1)) (aA (e2 dIx (rV 0) (eC (.int 1))) aL))) (ρ0:=[none,some (.d (.int k))]) (d:=cL) (g:=λc=>cL (uC k c)) (xs:=r.c) λc _=>⟨_,rfl,by simp[cL,uC]⟩
 have a:bE (.tuple (r.c.map cL))=.ok (r.c.map cL):=dP (by rw[AA];omega)
 simp[jK,p5,rowD,a,eJ,h1,aLC h.1,aLC h.2.1,movR]
theorem y8{rs:List Rw}{sg:Nat}(M:Mach rs sg)(k:Int):mZ [.d (aC rs),.d (.int k)]=.ok (.d (.list (rs.map λr=>rowD (movR k r)))):=by
 have h1:=cU (fs:=stN 0) (fe:=eA (aY 2 jK (aA (vV 0) (aA (vV 1) aL)))) (ρ0:=[none,some (.d (.int k))]) (d:=rowD) (g:=λr=>rowD (movR k r)) (xs:=rs) λr b=>⟨_,rfl,by
  have g:=M.row r b
  have:=M.sg3
  simp[aT6 g.1 (by omega)]⟩
 have a:bE (aC rs)=.ok (rs.map rowD):=dP (by have:=M.len2;rw[AA];omega)
 simp[mZ,aA6,a,eJ,h1]
theorem aQS{α:Type}(x:α)(n:Nat):(List.replicate n [x]).flatten=List.replicate n x:=by simp_all
theorem pP{x:Dz}{n:Nat}(h1:1<=n)(a:n<=1000):pH (.tuple [x]) (.int (n:Int))=.ok (.tuple (List.replicate n x)):=by
 unfold pH
 simp only
 rw[AD ⟨by omega,rfl,by simp;omega⟩,B2,aQS]
theorem aOV{xs:List Dz}(h:xs.length<=60):hZ [.d (.list xs)]=.ok (.d (.tuple xs)):=by
 have h1:¬ (60:Int) < (xs.length:Int):=by omega
 simp[hZ,pK,h1]
theorem aQT{rs:List Rw}{sg:Nat}(M:Mach rs sg)(f:rs.length<=59):eF [.d (aC rs)]=.ok (.d (aC (uD sg rs))):=by
 have n:=aK5 M
 have k:=y8 (aEN M) 1
 have i:cN [.d (aC rs)]=.ok (.d (.int sg)):=by
  cases rs with
  | nil=>exact absurd M.len (by simp)
  | cons r t=>rw[m6,(M.row r AV).2]
 have j:=pP (x:=.tuple [.int 0,.int 1]) M.sg1 (by have:=M.sg3;omega)
 have a:∃ r t,rs=r::t:=by
  cases rs with
  | nil=>exact absurd M.len (by simp)
  | cons r t=>exact⟨r,t,rfl⟩
 have e:((iH rs).map λr=>rowD (movR 1 r)).length<=59:=by simpa[iH] using f
 have b:i5 (.list [.tuple [.int 0,.tuple (List.replicate sg (.tuple [.int 0,.int 1])),(fZ 1 (aO rs 0).l).d]]) (.list ((iH rs).map λr=>rowD (movR 1 r)))=.ok (.tuple [.int 0,.tuple (List.replicate sg (.tuple [.int 0,.int 1])),(fZ 1 (aO rs 0).l).d]::(iH rs).map λr=>rowD (movR 1 r)):=by
  unfold i5
  simp only
  rw[AD (by rw[eE,A5,BF];omega)];rfl
 have m:=aOV (xs:=.tuple [.int 0,.tuple (List.replicate sg (.tuple [.int 0,.int 1])),(fZ 1 (aO rs 0).l).d]::(iH rs).map λr=>rowD (movR 1 r)) (by rw[A5];omega)
 have h:dIx (.list ((iH rs).map λr=>rowD (movR 1 r))) (.int 0)=.ok (rowD (movR 1 (t9 (aO rs 0)))):=by
  obtain⟨r,t,rfl⟩:=a
  exact qR _ _
 have c:PyData.tuple (.tuple [.int 0,.tuple (List.replicate sg (.tuple [.int 0,.int 1])),(fZ 1 (aO rs 0).l).d]::(iH rs).map λr=>rowD (movR 1 r))=aC (uD sg rs):=by
  unfold aC uD
  rw[A4,AZ]
  congr 2
  unfold rowD
  rw[DV];rfl
 have g:dIx (rowD (movR 1 (t9 (aO rs 0)))) (.int 2)=.ok (fZ 1 (aO rs 0).l).d:=aK3 _ _ _ _
 unfold eF kG
 simp_all
theorem o5(i j:Int):dNe (.int i) (.int j)=.ok (.bool (!decide (i=j))):=by rw[aEK (iB i) (iB j),aEL]
def mF(w:Str)(b:Tn):Tn->Tn
 | .w x=>if x=w then b else .w x
 | .n q=>.n q
def gG(w:Str)(b h:Tn)(r:Rw):Rw:=⟨mF w b r.l,r.c,mF w h r.r⟩
def g7(rs1 rs2:List Rw):Tn:=fZ (rs1.length:Int) (aO rs2 0).l
def fQ(rs1 rs2:List Rw):Int:=(rs1.length:Int)+(rs2.length:Int)
def sJ(w:Str)(sg:Nat)(rs1 rs2:List Rw):List Rw:=
 rs1.map (gG w (g7 rs1 rs2) (.n (fQ rs1 rs2)))++(rs2.map (movR (rs1.length:Int))++[⟨g7 rs1 rs2,List.replicate sg (fQ rs1 rs2,-1),.w "out"⟩])
theorem y9{n k m:Int}{t:Tn}(b:0<=k)(h:t.good n)(a:n+k<=m):(fZ k t).good m:=by
 cases t with
 | n q=>exact⟨by have:=h.1;show 0<=q+k;omega,by have:=h.2;show q+k < m;omega⟩
 | w x=>exact h
end Mc
namespace Fl
open L2 PyProof.Rows
@[simp] theorem aWO(i:Nat)(f:Sg->R (List (Dz×Dz)))(ρ:Sg):aIO i f ρ=(f ρ).bind λa6=>(jX [] a6).bind λres=>.ok (.nx (ρ.set i (some (.m res)))):=id rfl
@[simp] theorem aXB(ρ:Sg):aM1 ρ=.ok []:=id rfl
@[simp] theorem aWP(f g:Sg->R Dz)(r:Sg->R (List (Dz×Dz)))(ρ:Sg):aIN f g r ρ=(f ρ).bind λx=>(g ρ).bind λy=>(r ρ).bind λt=>.ok ((x,y)::t):=id rfl
end Fl
namespace Mc
open L2 PyProof.Rows Fl
def isW(w:Str):Tn->Bool
 | .w x=>decide (x=w)
 | .n _=>false
theorem zA{n:Int}{t:Tn}{w:Str}(hw:w="by"\/w="out")(h:t.good n):dEq t.d (.str w)=.ok (.bool (isW w t)):=by
 have a:SeqAt.shaped (.str w)=true:=by rcases hw with rfl|rfl<;>decide +kernel
 cases t with
 | n q=>
  show dEq (.int q) (.str w)=_
  rw[qS (iB q) a]
  simp[PyData.eqv,isW]
 | w x=>
  have b:SeqAt.shaped (.str x)=true:=by rcases h with rfl|rfl<;>decide +kernel
  show dEq (.str x) (.str w)=_
  rw[qS b a,y7]
  show R.ok (PyData.bool (x == w))=R.ok (PyData.bool (decide (x=w)))
  congr 2
theorem aVL(w:Str)(b t:Tn):(if isW w t=true then R.ok b.d else R.ok t.d)=R.ok (mF w b t).d:=by
 cases t with
 | n q=>simp[mF,isW]
 | w x=>by_cases e:x=w<;>simp[mF,e,isW]
theorem aOW{n:Int}{r:Rw}{w:Str}{b h:Tn}(hw:w="by"\/w="out")(g:r.good n):gT [.d (rowD r),.d (.str w),.d b.d,.d h.d]=.ok (.d (rowD (gG w b h r))):=by
 have e1:=zA hw g.1
 have e2:=zA hw g.2.1
 obtain⟨l,cs,a⟩:=r
 simp only at e1 e2
 simp[gT,oX,rowD,e1,e2,gG,aVL]
theorem aLD{w:Str}{rs1 rs2:List Rw}{sg:Nat}(hw:w="by"\/w="out")(M1:Mach rs1 sg)(M2:Mach rs2 sg)(C:rs1.length+rs2.length<=59):gU [.d (aC rs1),.d (aC rs2),.d (.str w)]=.ok (.d (aC (sJ w sg rs1 rs2))):=by
 have i:∀ {rs:List Rw},Mach rs sg->cN [.d (aC rs)]=.ok (.d (.int sg)):=λ{rs} M=>by
  cases rs with
  | nil=>exact absurd M.len (by simp)
  | cons r t=>rw[m6,(M.row r AV).2]
 have s1:=i M1
 have u:=i M2
 have m:dNe (.int (sg:Int)) (.int (sg:Int))=.ok (.bool false):=by rw[o5];simp
 have q:=y8 M2 (rs1.length:Int)
 have e:dLen (aC rs1)=.ok (.int rs1.length):=by unfold aC;rw[kT,AA]
 have c:dLen (aC rs2)=.ok (.int rs2.length):=by unfold aC;rw[kT,AA]
 have f:∃ r t,rs2=r::t:=by
  cases rs2 with
  | nil=>exact absurd M2.len (by simp)
  | cons r t=>exact⟨r,t,rfl⟩
 have o:dIx (.list (rs2.map λr=>rowD (movR rs1.length r))) (.int 0)=.ok (rowD (movR rs1.length (aO rs2 0))):=by
  obtain⟨r,t,rfl⟩:=f
  exact qR _ _
 have j:dIx (rowD (movR rs1.length (aO rs2 0))) (.int 0)=.ok (g7 rs1 rs2).d:=qQ _ _
 have l:bE (aC rs1)=.ok (rs1.map rowD):=dP (by rw[AA];omega)
 have v:=cU (fs:=stN 0) (fe:=eA (aY 4 gT (aA (vV 0) (aA (vV 1) (aA (vV 2) (aA (vV 3) aL)))))) (ρ0:=[none,some (.d (.str w)),some (.d (g7 rs1 rs2).d),some (.d (.int (fQ rs1 rs2)))]) (d:=rowD) (g:=λr=>rowD (gG w (g7 rs1 rs2) (.n (fQ rs1 rs2)) r)) (xs:=rs1) λr s=>⟨_,rfl,by
  have:=aOW (b:=g7 rs1 rs2) (h:=.n (fQ rs1 rs2)) hw (M1.row r s).1
  rw[show(Tn.n (fQ rs1 rs2)).d=.int (fQ rs1 rs2)from rfl]at this
  simp[this]⟩
 have A:=pP (x:=.tuple [.int (fQ rs1 rs2),.int (-1)]) M1.sg1 (by have:=M1.sg3;omega)
 have a:∀ xs ys:List Dz,xs.length+ys.length<=1000->i5 (.list xs) (.list ys)=.ok (xs++ys):=λxs ys h=>by
  unfold i5
  simp only
  rw[AD (by rw[eE];omega)]
 have z:=a (rs1.map λr=>rowD (gG w (g7 rs1 rs2) (.n (fQ rs1 rs2)) r)) (rs2.map λr=>rowD (movR rs1.length r)) (by rw[AA,AA];omega)
 have y:=a ((rs1.map λr=>rowD (gG w (g7 rs1 rs2) (.n (fQ rs1 rs2)) r))++(rs2.map λr=>rowD (movR rs1.length r))) [.tuple [(g7 rs1 rs2).d,.tuple (List.replicate sg (.tuple [.int (fQ rs1 rs2),.int (-1)])),.str "out"]] (by rw[AS,AA,AA,BC];omega)
 have B:=aOV (xs:=((rs1.map λr=>rowD (gG w (g7 rs1 rs2) (.n (fQ rs1 rs2)) r))++(rs2.map λr=>rowD (movR rs1.length r)))++[.tuple [(g7 rs1 rs2).d,.tuple (List.replicate sg (.tuple [.int (fQ rs1 rs2),.int (-1)])),.str "out"]]) (by rw[AS,AS,AA,AA,BC];omega)
 have p:PyData.tuple (((rs1.map λr=>rowD (gG w (g7 rs1 rs2) (.n (fQ rs1 rs2)) r))++(rs2.map λr=>rowD (movR rs1.length r)))++[.tuple [(g7 rs1 rs2).d,.tuple (List.replicate sg (.tuple [.int (fQ rs1 rs2),.int (-1)])),.str "out"]])=aC (sJ w sg rs1 rs2):=by
  unfold aC sJ
  rw[BL,BL,AZ,AZ,DZ,A4,BN]
  unfold rowD
  rw[DV];rfl
 have k:(rs1.length:Int)+(rs2.length:Int)=fQ rs1 rs2:=rfl
 unfold gU oY
 simp only[j5,bW,fC,i8,eX,eQ,kY,f8,f7,aC0,t7,AN,AK,R.bind_ok,A5,BF,Nat.reduceAdd,Nat.reduceLeDiff,BU,A2,A3,fE,fR,eM,A4,BN,B7,BZ,List.replicate,Nat.reduceSub,s1,u,kQ,m,kR,CA,D6,o0,e,c,q,o,j,mC,k]
 simp only[lE,o3,fE,eM,R.bind_ok,AN,AK,l,eJ,A4,BN,Option.bind,GH,v,A2,A3]
 simp_all
theorem aLE{rs1 rs2:List Rw}{sg:Nat}(M1:Mach rs1 sg)(M2:Mach rs2 sg)(a:rs1.length+rs2.length<=59):gV [.d (aC rs1),.d (aC rs2)]=.ok (.d (aC (sJ "out" sg rs1 rs2))):=by
 have:=aLD (.inr rfl) M1 M2 a
 simp[gV,oZ,this]
theorem aQU{rs1 rs2:List Rw}{sg:Nat}(M1:Mach rs1 sg)(M2:Mach rs2 sg)(a:rs1.length+rs2.length<=59):j4 [.d (aC rs1),.d (aC rs2)]=.ok (.d (aC (sJ "by" sg rs1 rs2))):=by
 have:=aLD (.inl rfl) M1 M2 a
 simp[j4,t6,this]
theorem aNM{rs:List Rw}{sg:Nat}{z:List Nat}(M:Mach rs sg)(S:bK sg z):gY rs z="by"\/gY rs z="out"\/gY rs z="ever":=by
 obtain⟨_,ps,⟨p,r⟩,_,V,q⟩:=aNJ (z:=⟨z.toArray⟩) M S
 have c:=(M.row _ (AH (dY V.2.2.1 V.2.2.2))).1
 unfold gY
 rcases q with ⟨_,x,a,b⟩|⟨_,b⟩
 .have b:bU (gI rs z) (0,0)=some x:=b
  have:x="by"\/x="out":=by
   unfold cB at a
   simp only at a
   by_cases d:p=0
   .rw[AD d]at a;have k:=c.1;rw[show(aO rs r).l=.w x from a]at k;exact k
   .rw[AE d]at a
    split at a
    · have k := c.2.1; rw [show(aO rs r).r = .w x from a]at k; exact k
    · cases a
  grind
 .grind
theorem aEW{w:Str}(h:w="by"\/w="out"\/w="ever"):SeqAt.shaped (.str w)=true:=by rcases h with rfl|rfl|rfl<;>decide +kernel
theorem aT7{w v:Str}(h:w="by"\/w="out"\/w="ever")(h':v="by"\/v="out"\/v="ever"):dEq (.str w) (.str v)=.ok (.bool (decide (w=v))):=by
 rw[qS (aEW h) (aEW h'),y7]
 congr 2
end Mc
namespace Fl
open L2 PyProof.Rows
theorem aLF(n:Nat)(G:List A->R A)(f:Sg->R (List A))(ρ:Sg):yR n G f ρ=(f ρ).bind λas=>if as.length=n then noX (G as)else .bad:=id rfl
theorem aLG(a:A):noX (.ok a)=.ok a:=id rfl
end Fl
namespace Mc
open L2 PyProof.Rows Fl
@[simp] theorem aXC(m i:Nat)(f:Sg->R (List Dz))(ρ:Sg):aIP m i f ρ=match ρ[i]? with|some (some (.g k n G))=>(f ρ).bind λds=>if k<=m/\ds.length=n then G ds else .bad|_=>.bad:=id rfl
@[simp] theorem aWQ(m i:Nat)(f:Sg->R (List Dz))(ρ:Sg):aCZ m i f ρ=match ρ[i]? with|some (some (.g k n G))=>(f ρ).bind λds=>if k<=m/\ds.length=n then(match G ds with | .ok d=>if vH d=true then .ok d else .bad|_=>.bad)else .bad|_=>.bad:=id rfl
def jO(fs:List Dz):List (Dz×Dz):=fs.zipIdx.map λp=>(p.1,.int (p.2:Int))
theorem xN(fs:List Dz):(jO fs).map (·.1)=fs:=by
 unfold jO
 rw[AZ]
 show fs.zipIdx.map Prod.fst=fs
 simp_all
theorem aQV(fs:List Dz):(jO fs).length=fs.length:=by unfold jO;rw[AA,DT]
theorem aG6{fs:List Dz}{x:Dz}:eB (jO fs) x=true↔x∈fs:=by rw[wV,xN]
theorem aEX{fs:List Dz}{x:Dz}(h:x∉fs):eB (jO fs) x=false:=by
 cases q:eB (jO fs) x with
 | false=>rfl
 | true=>exact absurd (aG6.mp q) h
theorem aQW{fs:List Dz}{x:Dz}(h:x∉fs):putM (jO fs) x (.int (fs.length:Int))=jO (fs++[x]):=by
 unfold putM
 rw[aEX h,AE (by decide)]
 unfold jO
 grind
theorem aQX{fs:List Dz}{x:Dz}(h:x∈fs):∃ i:Nat,gZ (jO fs) x=some (.int (i:Int))/\fs[i]? = some x:=by
 unfold gZ
 cases e:(jO fs).find? λp=>decide (p.1=x)with
 | none=>
  rw[List.find?_eq_none]at e
  rw[<-xN fs,AX]at h
  grind
 | some p=>
  have h1:=List.find?_some e
  have h2:=List.mem_of_find?_eq_some e
  unfold jO at h2
  grind
structure Srch where
 after:Dz->List Dz
 x0:Dz
 good:Nat->Dz->Prop
 lim:Nat
 k1:Nat
 k2:Nat
 G:List Dz->R Dz
 D:List Dz->R Dz
structure Srch.ok(S:Srch):Prop where
 g0:S.good 0 S.x0
 gs:∀ i x,S.good i x->i<=S.lim->∀ y∈S.after x,S.good (i+1) y
 up:∀ i j x,i<=j->S.good i x->S.good j x
 few:∀ xs:List Dz,xs.Nodup->(∀ x∈xs,∃ i,S.good i x)->xs.length<=S.lim
 key:∀ i x,S.good i x->k8 x=true
 hk1:S.k1<=12
 hk2:S.k2<=12
 hG:∀ i x,i<=S.lim->S.good i x->S.G [x]=.ok (.list (S.after x))/\(S.after x).length<=16777216
 hD:∀ (fs:List Dz) (i:Int),fs.length<=S.lim->S.D [.list fs,.int i]=.ok (.bool false)
 hl:S.lim<=16000000
def dH(js:List Nat):Dz:=.tuple (js.map λj:Nat=>.int (j:Int))
structure Fnd(S:Srch)(fs:List Dz):Prop where
 nd:fs.Nodup
 gd:∀ (i:Nat) (x:Dz),fs[i]? = some x->S.good i x
theorem Fnd.len{S:Srch}(O:S.ok){fs:List Dz}(h:Fnd S fs):fs.length<=S.lim:=O.few fs h.nd λx a=>by
 obtain⟨i,hi⟩:=FD a
 exact⟨i,h.gd i x hi⟩
noncomputable def adQ(fs:List Dz)(y:Dz):List Dz:=if y∈fs then fs else fs++[y]
noncomputable def adA(fs ys:List Dz):List Dz:=ys.foldl adQ fs
noncomputable def nrQ(fs:List Dz)(y:Dz):Nat:=fs.idxOf y
theorem mG{fs:List Dz}{y:Dz}(h:y∈fs):adQ fs y=fs:=AD h
theorem kI{fs:List Dz}{y:Dz}(h:y∉fs):adQ fs y=fs++[y]:=AE h
theorem vR(fs:List Dz)(y:Dz):fs <+: adQ fs y:=by
 by_cases h:y∈fs
 · rw [mG h]; exact GI _
 · rw [kI h]; exact List.prefix_append ..
theorem aBA(fs:List Dz)(y:Dz):y∈adQ fs y:=by
 by_cases h:y∈fs
 · rw [mG h]; exact h
 · rw [kI h]; simp
theorem aT8{fs:List Dz}{y:Dz}(h:fs.Nodup):(adQ fs y).Nodup:=by
 by_cases q:y∈fs
 .rw[mG q];exact h
 .rw[kI q,DH]
  grind
theorem aQY(fs:List Dz)(y:Dz):(adQ fs y).length<=fs.length+1:=by
 by_cases q:y∈fs
 · rw [mG q]; omega
 · rw [kI q]; simp
theorem aNN(fs ys:List Dz)(y:Dz):adA fs (ys++[y])=adQ (adA fs ys) y:=by unfold adA;rw[List.foldl_append];rfl
theorem aBB(ys:List Dz):∀ fs:List Dz,fs <+: adA fs ys:=by
 induction ys with
 | nil=>exact λfs=>GI _
 | cons y t ih=>exact λfs=>(vR fs y).trans (ih _)
theorem aEY(ys:List Dz):∀ {fs:List Dz},fs.Nodup->(adA fs ys).Nodup:=by
 induction ys with
 | nil=>exact λh=>h
 | cons y t ih=>exact λh=>ih (aT8 h)
theorem vS(ys:List Dz):∀ {fs:List Dz} {y:Dz},y∈ys->y∈adA fs ys:=by
 induction ys with
 | nil=>intro fs y h;cases h
 | cons x t ih=>
  intro fs y h
  rcases A6.mp h with rfl|h
  · exact(aBB t _).subset (aBA fs y)
  · exact ih h
theorem adA_mem(ys:List Dz):∀ {fs:List Dz} {y:Dz},y∈adA fs ys->y∈fs\/y∈ys:=by
 induction ys with
 | nil=>intro fs y h;exact .inl h
 | cons x t ih=>
  intro fs y h
  rcases ih (fs:=adQ fs x) h with h|h
  .by_cases q:x∈fs
   .rw[mG q]at h;exact .inl h
   .rw[kI q]at h
    grind
  .grind
theorem aQZ(ys:List Dz):∀ fs:List Dz,(adA fs ys).length<=fs.length+ys.length:=by
 induction ys with
 | nil=>intro fs;exact AQ _
 | cons x t ih=>
  intro fs
  have h1:=ih (adQ fs x)
  have h2:=aQY fs x
  show(adA (adQ fs x) t).length<=fs.length+(t.length+1)
  omega
theorem aG7{fs fs':List Dz}{y:Dz}(h:fs <+: fs')(a:y∈fs):nrQ fs' y=nrQ fs y:=by
 obtain⟨t,rfl⟩:=h
 unfold nrQ
 grind
theorem zB{fs:List Dz}{y:Dz}(a:y∈fs):fs[nrQ fs y]? = some y:=by
 have h:nrQ fs y < fs.length:=List.idxOf_lt_length_of_mem a
 rw[AW h]
 exact DF some (List.getElem_idxOf h)
theorem aVM{α:Type}{xs:List α}(h:xs.Nodup){i j:Nat}{x:α}(h1:xs[i]? = some x)(h2:xs[j]? = some x):i=j:=by
 obtain⟨b,e1⟩:=AU.mp h1
 obtain⟨a,e2⟩:=AU.mp h2
 rcases D0 i j with q|q|q
 · exact absurd (e1.trans e2.symm) (ED.mp h i j b a q)
 · exact q
 · exact absurd (e2.trans e1.symm) (ED.mp h j i a b q)
theorem aQ0{fs:List Dz}{y:Dz}(h:fs.Nodup)(a:y∈fs):gZ (jO fs) y=some (.int (nrQ fs y:Int)):=by
 obtain⟨i,h1,h2⟩:=aQX a
 rw[h1,aVM h h2 (zB a)]
structure Sq where
 after:Dz->List Dz
 x0:Dz
 stop:List Dz->Nat->Bool
 k1:Nat
 k2:Nat
 G:List Dz->R Dz
 D:List Dz->R Dz
noncomputable def bfQ(after:Dz->List Dz)(x0:Dz):Nat->List Dz
 | 0=>[x0]
 | n+1=>match (bfQ after x0 n)[n]? with
  | some x=>adA (bfQ after x0 n) (after x)
  | none=>bfQ after x0 n
theorem o6{after:Dz->List Dz}{x0 x:Dz}{n:Nat}(h:(bfQ after x0 n)[n]? = some x):bfQ after x0 (n+1)=adA (bfQ after x0 n) (after x):=by rw[bfQ,h]
theorem m8(after:Dz->List Dz)(x0:Dz)(n:Nat):bfQ after x0 n <+: bfQ after x0 (n+1):=by
 rw[bfQ]
 split
 · exact aBB _ _
 · grind
theorem qU{after:Dz->List Dz}{x0:Dz}{m n:Nat}(h:m<=n):bfQ after x0 m <+: bfQ after x0 n:=by
 obtain⟨k,rfl⟩:=Nat.le.dest h
 clear h
 induction k with
 | zero=>exact GI _
 | succ k ih=>exact ih.trans (m8 after x0 (m+k))
theorem zC(after:Dz->List Dz)(x0:Dz)(n:Nat):(bfQ after x0 n).Nodup:=by
 induction n with
 | zero=>simp[bfQ]
 | succ n ih=>
  rw[bfQ]
  split
  · exact aEY _ ih
  · exact ih
theorem bfQ_zero(after:Dz->List Dz)(x0:Dz)(n:Nat):(bfQ after x0 n)[0]? = some x0:=by
 obtain⟨t,e⟩:=qU (after:=after) (x0:=x0) (CN n)
 rw[<-e];rfl
theorem aEZ{α:Type}{f g:List α}{i:Nat}{x:α}(h:f <+: g)(e:f[i]? = some x):g[i]? = some x:=by
 obtain⟨t,rfl⟩:=h
 grind
theorem aCD{α:Type}{f g:List α}{i:Nat}{x:α}(h:f <+: g)(hi:i < f.length)(e:g[i]? = some x):f[i]? = some x:=by
 obtain⟨t,rfl⟩:=h
 grind
noncomputable def aBC(after:Dz->List Dz)(fs:List Dz)(x:Dz):Dz:=dH ((after x).map (nrQ fs))
noncomputable def gD(after:Dz->List Dz)(fs:List Dz)(n:Nat):List Dz:=(fs.take n).map (aBC after fs)
structure Sq.ok(S:Sq)(N:Nat):Prop where
 on:∀ m,m < N->m < (bfQ S.after S.x0 m).length/\S.stop (bfQ S.after S.x0 m) m=false
 off:(bfQ S.after S.x0 N).length<=N\/S.stop (bfQ S.after S.x0 N) N=true
 key:(∀ x∈bfQ S.after S.x0 N,k8 x=true)\/(∀ x∈bfQ S.after S.x0 N,tP x=true)
 len:(bfQ S.after S.x0 N).length<=16000000
 hk1:S.k1<=12
 hk2:S.k2<=12
 hG:∀ m x,m < N->(bfQ S.after S.x0 N)[m]? = some x->(∃ d,S.G [x]=.ok d/\bE d=.ok (S.after x))/\(S.after x).length<=1000
 hD:∀ m,m<=N->m < (bfQ S.after S.x0 m).length->S.D [.list (bfQ S.after S.x0 m),.int (m:Int)]=.ok (.bool (S.stop (bfQ S.after S.x0 m) m))
theorem aOX{B:List Dz}(h:(∀ x∈B,k8 x=true)\/(∀ x∈B,tP x=true)){y:Dz}{fs:List Dz}(a:y∈B)(b:∀ x∈fs,x∈B):eD y ((jO fs).map (·.1))=true:=by
 unfold eD
 rw[xN,EC,BE,BE,CB,CB]
 grind
noncomputable def rqρ(S:Sq)(fs:List Dz)(gs:List Dz)(u v:O9 A):Sg:=[some (.d S.x0),some (.g S.k1 1 S.G),some (.g S.k2 2 S.D),some (.l fs),some (.m (jO fs)),some (.l gs),u,v]
theorem aT9{S:Sq}{B fs ys gs:List Dz}{v:O9 A}(C:(∀ x∈B,k8 x=true)\/(∀ x∈B,tP x=true))(N:B.length<=16000000)(nd:fs.Nodup)(J:adA fs ys <+: B)(M:ys.length<=1000) :
  ∃ v',oQ (stN 7) rhF ys (rqρ S fs gs (some (.l [])) v)=.ok (.nx (rqρ S (adA fs ys) gs (some (.l ((ys.map (nrQ (adA fs ys))).map λj:Nat=>.int (j:Int)))) v')):=by
 obtain⟨I,L,v',O⟩:=lF (fs:=stN 7) (fb:=rhF) (d:=id) (xs:=ys) (ρ:=rqρ S fs gs (some (.l [])) v)
  (λi ρ=>∃ v',ρ=rqρ S (adA fs (ys.take i)) gs (some (.l (((ys.take i).map (nrQ (adA fs (ys.take i)))).map λj:Nat=>.int (j:Int)))) v') ⟨v,rfl⟩ λi y ρ hi q=>by
  obtain⟨v',e⟩:=q
  have D:ys.take (i+1)=ys.take i++[y]:=by rw[FX,hi];rfl
  have G:=(AU.mp hi).1
  have a:adA fs (ys.take (i+1)) <+: B:=by
   refine List.IsPrefix.trans ?_ J
   have:adA fs ys=adA (adA fs (ys.take (i+1))) (ys.drop (i+1)):=by
    unfold adA;rw[<-List.foldl_append,List.take_append_drop]
   rw[this];exact aBB _ _
  have E:(adA fs (ys.take i)).Nodup:=aEY _ nd
  have g:(adA fs (ys.take (i+1))).Nodup:=aEY _ nd
  have w:∀ x∈ys.take (i+1),x∈adA fs (ys.take (i+1)):=λx b=>vS _ b
  rw[D]at a g w
  rw[D,aNN]at *
  generalize H:adA fs (ys.take i)=F at *
  have f:y∈B:=a.subset (aBA F y)
  have z:∀ x∈F,x∈B:=λx b=>a.subset ((vR F y).subset b)
  have n:F.length < 16777216:=by
   have h1:=a.length_le
   have h2:=(vR F y).length_le
   omega
  have s1:=aOX C f z
  have s:=aOX C f (fs:=adQ F y) (λx b=>a.subset b)
  have p:=aQ0 g (aBA F y)
  have o:(jO F).length<=16777216:=by rw[aQV];omega
  have u:∀ x∈ys.take i,x∈F:=λx b=>by rw[<-H];exact vS _ b
  have h:(ys.take i++[y]).map (nrQ (adQ F y))=(ys.take i).map (nrQ F)++[nrQ (adQ F y) y]:=by
   rw[BL,List.map_singleton]
   congr 1
   exact BH λx b=>aG7 (vR F y) (u x b)
  have k:(ys.take i).length < 16777216:=by rw[CL];omega
  rw[h]
  refine⟨rqρ S F gs (some (.l (((ys.take i).map (nrQ F)).map λj:Nat=>.int (j:Int)))) (some (.d y)),_,by rw[e];simp[rqρ],.inl ?_,some (.d y),rfl⟩
  have t:dLen (.list F)=.ok (.int (F.length:Int)):=kS _
  have c:min i ys.length < 16777216:=by rw[CL]at k;exact k
  by_cases m:y∈F
  .have r:=aG6.mpr m
   rw[mG m]at s p ⊢
   simp[rhF,rqρ,s1,r,p,c]
  .have r:=aEX m
   have K:=aQW m
   rw[kI m]at s p ⊢
   simp[rhF,rqρ,s1,s,r,K,p,t,o,n,c]
 rw[List.map_id]at L
 grind
theorem Sq.ok.le{S:Sq}{N:Nat}(O:S.ok N){m:Nat}(h:m<=N):bfQ S.after S.x0 m <+: bfQ S.after S.x0 N:=qU h
theorem aG8{S:Sq}{N m:Nat}(O:S.ok N)(h:m<=N){gs:List Dz}(d:gs.length=m){u v:O9 A}:rhT (rqρ S (bfQ S.after S.x0 m) gs u v)=.ok (decide (m < N)):=by
 have k2:=O.hk2
 subst d
 by_cases a:gs.length < (bfQ S.after S.x0 gs.length).length
 .have b:=O.hD _ h a
  have c:S.stop (bfQ S.after S.x0 gs.length) gs.length = !decide (gs.length < N):=by
   by_cases q:gs.length < N
   .rw[(O.on _ q).2,AJ q];rfl
   .have e:gs.length=N:=by omega
    rcases O.off with z|z
    · grind
    · grind
  rw[c]at b
  simp[rhT,rqρ,kS,a,k2,b,vH]
 .have:¬ gs.length < N:=λq=>a (O.on _ q).1
  simp[rhT,rqρ,kS,a,this]
theorem aQ1{S:Sq}{N m:Nat}(O:S.ok N)(h:m < N){gs:List Dz}(i:gs.length=m){u v:O9 A}:∃ x u' v',(bfQ S.after S.x0 m)[m]? = some x/\rhB (rqρ S (bfQ S.after S.x0 m) gs u v)=.ok (.nx (rqρ S (bfQ S.after S.x0 (m+1)) (gs++[aBC S.after (bfQ S.after S.x0 (m+1)) x]) u' v')):=by
 have c:=(O.on m h).1
 have a:(bfQ S.after S.x0 m)[m]? = some (bfQ S.after S.x0 m)[m]:=AW c
 generalize (bfQ S.after S.x0 m)[m]=x at a
 have k1:=O.hk1
 obtain⟨⟨d,g,n⟩,k⟩:=O.hG m x h (aEZ (O.le (by omega)) a)
 have e:=o6 a
 have o:adA (bfQ S.after S.x0 m) (S.after x) <+: bfQ S.after S.x0 N:=by rw[<-e];exact O.le (by omega)
 obtain⟨v',q⟩:=aT9 (S:=S) (gs:=gs) (v:=v) O.key O.len (zC S.after S.x0 m) o k
 rw[<-e]at q
 have p:dIx (.list (bfQ S.after S.x0 m)) (.int (m:Int))=.ok x:=nW (g8 a)
 have f:gs.length < 16777216:=by have:=(O.le (show m<=N by omega)).length_le;have:=O.len;omega
 have b:(S.after x).length<=16777216:=by omega
 refine⟨x,some (.l (((S.after x).map (nrQ (bfQ S.after S.x0 (m+1)))).map λj:Nat=>.int (j:Int))),v',a,?_⟩
 subst i
 simp only[rqρ]at q
 simp[rhB,rqρ,kS,p,k1,g,n,q,f,aBC,dH,b]
theorem aQ2{S:Sq}{N:Nat}(O:S.ok N):∀ (k m:Nat) (u v:O9 A),m+k=N->
  ∃ u' v',cT rhT rhB (rqρ S (bfQ S.after S.x0 m) (gD S.after (bfQ S.after S.x0 m) m) u v)=.ok (.nx (rqρ S (bfQ S.after S.x0 N) (gD S.after (bfQ S.after S.x0 N) N) u' v')):=by
 have c:∀ m,m<=N->(∀ a,a < m->a < (bfQ S.after S.x0 a).length)->m<=(bfQ S.after S.x0 m).length:=λm f h=>by
  cases m with
  | zero=>omega
  | succ m=>have h1:=h m (by omega);have h2:=(m8 S.after S.x0 m).length_le;omega
 intro k
 induction k with
 | zero=>
  intro m u v f
  have f:m=N:=by omega
  subst f
  have g:=c m (by omega) λa h=>(O.on a h).1
  have d:(gD S.after (bfQ S.after S.x0 m) m).length=m:=by unfold gD;rw[AA,CL];omega
  rw[iA (by rw[aG8 O (AQ m) d,A1 (by omega)])]
  grind
 | succ k ih=>
  intro m u v f
  have b:m < N:=by omega
  have g:=c m (by omega) λa h=>(O.on a (by omega)).1
  have d:(gD S.after (bfQ S.after S.x0 m) m).length=m:=by unfold gD;rw[AA,CL];omega
  obtain⟨x,u',v',o,q⟩:=aQ1 O b d (u:=u) (v:=v)
  rw[lS (by rw[aG8 O (by omega) d,AJ b]) q]
  have e:gD S.after (bfQ S.after S.x0 m) m++[aBC S.after (bfQ S.after S.x0 (m+1)) x]=gD S.after (bfQ S.after S.x0 (m+1)) (m+1):=by
   unfold gD
   have r:(bfQ S.after S.x0 (m+1)).take (m+1)=(bfQ S.after S.x0 m).take m++[x]:=by
    obtain⟨t,s⟩:=m8 S.after S.x0 m
    have w:=(AU.mp o).1
    rw[<-s,List.take_append_of_le_length (by omega),FX,o];rfl
   rw[r,BL,List.map_singleton]
   congr 1
   refine BH λy B=>?_
   unfold aBC
   congr 1
   refine BH λz p=>?_
   obtain⟨j,n⟩:=FD B
   have l:j < m:=by
    grind
   rw[List.getElem?_take,AD l]at n
   refine(aG7 (m8 S.after S.x0 m) ?_).symm
   have i:(bfQ S.after S.x0 j)[j]? = some y:=aCD (O.le (by omega)) ((O.on j (by omega)).1) (aEZ (O.le (by omega)) n)
   have:=vS (fs:=bfQ S.after S.x0 j) _ p
   rw[<-o6 i]at this
   exact(qU (by omega)).subset this
  rw[e]
  exact ih (m+1) u' v' (by omega)
theorem aUA{S:Sq}{N:Nat}(O:S.ok N):hV [.d S.x0,.g S.k1 1 S.G,.g S.k2 2 S.D]=.ok (.d (.tuple [.list (bfQ S.after S.x0 N),.list (gD S.after (bfQ S.after S.x0 N) N)])):=by
 obtain⟨u,v,q⟩:=aQ2 O N 0 none none (by omega)
 have a:=AH (bfQ_zero S.after S.x0 N)
 have c:eD S.x0 []=true:=by
  unfold eD
  rw[EC,BE,BE]
  exact O.key.imp (λh=>⟨h _ a,rfl⟩) (λh=>⟨h _ a,rfl⟩)
 have hi:jO [S.x0]=[(S.x0,.int 0)]:=rfl
 have b:Fl.jX [] [(S.x0,.int 0)]=.ok [(S.x0,.int 0)]:=by simp[Fl.jX,c,putM,eB,gZ]
 unfold hV
 rw[t4]
 simp only[rqρ,bfQ,gD,List.take_zero,hi,BN]at q
 simp[b,q,gD]
end Mc
namespace Fl
open L2 PyProof.Rows
@[simp] theorem aWR(i:Nat)(f g:Sg->R Dz)(ρ:Sg):vK i f g ρ=match ρ[i]? with
 | some (some (.m a6))=>(f ρ).bind λk=>(g ρ).bind λy=>if eD k (a6.map (·.1))=true/\a6.length<=16777216 then .ok (.nx (if eB a6 k=true then ρ else ρ.set i (some (.m (putM a6 k y)))))else .bad
 | _=>.bad:=id rfl
theorem aNO{x:Dz}{xs:List Dz}(h:bE x=.ok xs):yU x=.ok (xs.zipIdx.map xF):=by
 unfold yU;rw[h];rfl
end Fl
namespace Mc
open L2 PyProof.Rows Fl
mutual
def nbD:Dz->Bool
 | .bool _=>false
 | .dict _=>false
 | .list xs=>sK xs
 | .tuple xs=>sK xs
 | _=>true
def sK:List Dz->Bool
 | []=>true
 | x::t=>nbD x && sK t
end
mutual
theorem zD:∀ d:Dz,d.canLay0=true->d.eqv d=true
 | .none,_=>by rfl
 | .bool b,_=>by simp[PyData.eqv]
 | .int i,_=>by simp[PyData.eqv]
 | .str x,_=>by simp[PyData.eqv]
 | .list xs,h=>by
  show PyData.eqvAll xs xs=true
  exact aBD xs h
 | .tuple xs,h=>by
  show PyData.eqvAll xs xs=true
  exact aBD xs h
 | .dict _,h=>by cases h
theorem aBD:∀ xs:List Dz,PyData.canLayAll0 xs=true->PyData.eqvAll xs xs=true
 | [],_=>by rfl
 | x::t,h=>by
  have h':(x.canLay0 && PyData.canLayAll0 t)=true:=h
  rw[BE]at h'
  show(x.eqv x && PyData.eqvAll t t)=true
  rw[zD x h'.1,aBD t h'.2];rfl
end
mutual
theorem aLH:∀ x y:Dz,nbD x=true->nbD y=true->x.eqv y=true->x=y
 | .none,.none,_,_,_=>rfl
 | .int i,.int j,_,_,h=>by simp[PyData.eqv]at h;rw[h]
 | .str i,.str j,_,_,h=>by simp[PyData.eqv]at h;rw[h]
 | .list xs,.list ys,h1,h2,h=>by rw[aBE xs ys h1 h2 h]
 | .tuple xs,.tuple ys,h1,h2,h=>by rw[aBE xs ys h1 h2 h]
 | .bool _,_,h,_,_=>by cases h
 | .dict _,_,h,_,_=>by cases h
 | _,.bool _,_,h,_=>by cases h
 | _,.dict _,_,h,_=>by cases h
 | .none,.int _,_,_,h=>by simp[PyData.eqv]at h
 | .none,.str _,_,_,h=>by simp[PyData.eqv]at h
 | .none,.list _,_,_,h=>by simp[PyData.eqv]at h
 | .none,.tuple _,_,_,h=>by simp[PyData.eqv]at h
 | .int _,.none,_,_,h=>by simp[PyData.eqv]at h
 | .int _,.str _,_,_,h=>by simp[PyData.eqv]at h
 | .int _,.list _,_,_,h=>by simp[PyData.eqv]at h
 | .int _,.tuple _,_,_,h=>by simp[PyData.eqv]at h
 | .str _,.none,_,_,h=>by simp[PyData.eqv]at h
 | .str _,.int _,_,_,h=>by simp[PyData.eqv]at h
 | .str _,.list _,_,_,h=>by simp[PyData.eqv]at h
 | .str _,.tuple _,_,_,h=>by simp[PyData.eqv]at h
 | .list _,.none,_,_,h=>by simp[PyData.eqv]at h
 | .list _,.int _,_,_,h=>by simp[PyData.eqv]at h
 | .list _,.str _,_,_,h=>by simp[PyData.eqv]at h
 | .list _,.tuple _,_,_,h=>by simp[PyData.eqv]at h
 | .tuple _,.none,_,_,h=>by simp[PyData.eqv]at h
 | .tuple _,.int _,_,_,h=>by simp[PyData.eqv]at h
 | .tuple _,.str _,_,_,h=>by simp[PyData.eqv]at h
 | .tuple _,.list _,_,_,h=>by simp[PyData.eqv]at h
theorem aBE:∀ xs ys:List Dz,sK xs=true->sK ys=true->PyData.eqvAll xs ys=true->xs=ys
 | [],[],_,_,_=>rfl
 | [],_::_,_,_,h=>by simp[PyData.eqvAll]at h
 | _::_,[],_,_,h=>by simp[PyData.eqvAll]at h
 | x::xs,y::ys,h1,h2,h=>by
  have h1':(nbD x && sK xs)=true:=h1
  have a:(nbD y && sK ys)=true:=h2
  have h':(x.eqv y && PyData.eqvAll xs ys)=true:=h
  rw[BE]at h1' a h'
  rw[aLH x y h1'.1 a.1 h'.1,aBE xs ys h1'.2 a.2 h'.2]
end
theorem aE0{d:Dz}(h:SeqAt.shaped d=true):d.canLay0=true:=by
 have h':(d.canLay0 && decide (d.depth<=64))=true:=h
 grind
theorem aUB{x y:Dz}(hx:nbD x=true)(a:nbD y=true)(l:SeqAt.shaped x=true):x.eqv y=decide (x=y):=by
 by_cases h:x=y
 .subst h;rw[zD x (aE0 l),AJ rfl]
 .rw[A1 h]
  cases q:x.eqv y with
  | false=>rfl
  | true=>exact absurd (aLH x y hx a q) h
structure Cp(d:Dz):Prop where
 nb:nbD d=true
 sh:SeqAt.shaped d=true
theorem aE1{x y:Dz}(hx:Cp x)(a:Cp y):dNe x y=.ok (.bool (!decide (x=y))):=by rw[aEK hx.sh a.sh,aUB hx.nb a.nb hx.sh]
theorem aUC{x:Dz}(h:SeqAt.shaped x=true):dEq x x=.ok (.bool true):=by rw[qS h h,zD x (aE0 h)]
theorem uE{x:Dz}(h:SeqAt.shaped x=true):dNe x x=.ok (.bool false):=by rw[aEK h h,zD x (aE0 h)];rfl
noncomputable def wρ(rs:List Rw)(f:Tn)(bk:List Tn)(t:Tn)(ps:List Int)(u:O9 A):Sg:=[some (.d (aC rs)),some (.d (jA f bk)),some (.d t.d),some (.m (been PyData.int ps)),u]
theorem aNP{rs:List Rw}{f:Tn}{bk:List Tn}{x:Str}{ps:List Int}{u:O9 A}:wT (wρ rs f bk (.w x) ps u)=.ok false:=by
 simp[wT,wρ,Tn.d,aA8]
theorem aNQ{rs:List Rw}{f:Tn}{bk:List Tn}{q:Int}{ps:List Int}{u:O9 A}:wT (wρ rs f bk (.n q) ps u)=.ok true:=by
 simp[wT,wρ,Tn.d,aA7]
theorem aUD{rs:List Rw}{f:Tn}{bk:List Tn}{q:Int}{ps:List Int}{u:O9 A}(h:q∈ps):wB (wρ rs f bk (.n q) ps u)=.ok (.rt (.d (.str "ever"))):=by
 have h1:=kH ps q
 have h2:=(sG jL).mpr h
 simp[wB,wρ,Tn.d,h1,h2]
theorem aWS{rs:List Rw}{f:Tn}{bk:List Tn}{q:Int}{ps:List Int}{u:O9 A}{x:Str}(h:q∉ps)(a:dJ rs q)(b:ps.length<=16777216)(e:(aO rs q).r=.w x):wB (wρ rs f bk (.n q) ps u)=.ok (.nx (wρ rs f bk (.w x) (ps++[q]) (some (.d (.str x))))):=by
 have h1:=kH ps q
 have h2:=lT jL h
 have g:=o4 jL h
 have i:(been PyData.int ps).length<=16777216:=by rw[m5];exact b
 have c:=aEP a.1 a.2
 simp[wB,wρ,Tn.d,h1,h2,g,i,c,rowD,e,aA8]
theorem aWT{rs:List Rw}{f:Tn}{bk:List Tn}{q a:Int}{ps:List Int}{u:O9 A}(h:q∉ps)(b:dJ rs q)(i:ps.length<=16777216)(e:(aO rs q).r=.n a)(h0:0<=a)(c:a < (bk.length:Int)):wB (wρ rs f bk (.n q) ps u)=.ok (.nx (wρ rs f bk (bkF bk a) (ps++[q]) (some (.d (.int a))))):=by
 have h1:=kH ps q
 have h2:=lT jL h
 have j:=o4 jL h
 have l:(been PyData.int ps).length<=16777216:=by rw[m5];exact i
 have g:=aEP b.1 b.2
 have k:=aOU h0 c
 simp[wB,wρ,Tn.d,h1,h2,j,l,g,rowD,e,aA7,jA,k]
theorem sL{rs:List Rw}{sg:Nat}(M:Mach rs sg){q a:Int}(b:dJ rs q)(e:(aO rs q).r=.n a):0<=a/\a < (rs.length:Int):=by
 have c:=AH (dY b.1 b.2)
 have:=(M.row _ c).1.2.1
 rw[e]at this
 exact this
theorem aQ3{rs:List Rw}{sg:Nat}{f:Tn}{bk:List Tn}(M:Mach rs sg)(k:bk.length=rs.length)(m:∀ t∈bk,tnV rs.length t){h:Int}:∀ (n:Nat) (ps:List Int) (q:Int) (u:O9 A),Und2 (dQ rs (bkF bk)) h ps q->(∀ p∈ps,dJ rs p)->dJ rs q->rs.length+1<=ps.length+n->
  aV (cT wT wB) (bS (vV 2)) (wρ rs f bk (.n q) ps u)=.ok (.rt (.d (.str ((bU (dQ rs (bkF bk)) h).getD eU)))):=by
 intro n
 induction n with
 | zero=>
  intro ps q u U pv b l
  have:=vQ U.nd pv
  omega
 | succ n ih=>
  intro ps q u U pv b l
  rw[bW]
  by_cases a:q∈ps
  .rw[pL aNQ (aUD a),U.met a];rfl
  .have o:ps.length<=rs.length:=vQ U.nd pv
   have c:ps.length<=16777216:=by have:=M.len2;omega
   cases e:(aO rs q).r with
   | w x=>
    have st:dQ rs (bkF bk) q=some (.inr x):=by unfold dQ;rw[e]
    rw[lS aNQ (aWS a b c e),iA aNP,U.outs st]
    simp[wρ,Tn.d]
   | n q'=>
    obtain⟨i,j⟩:=sL M b e
    rw[lS aNQ (aWT a b c e i (by rw[k];exact j))]
    have g:=vP m q'
    cases e2:bkF bk q' with
    | w x=>
     have st:dQ rs (bkF bk) q=some (.inr x):=by unfold dQ;rw[e];simp only;rw[e2]
     rw[iA aNP,U.outs st]
     simp[wρ,Tn.d]
    | n r=>
     rw[e2]at g
     have st:dQ rs (bkF bk) q=some (.inl r):=by unfold dQ;rw[e];simp only;rw[e2]
     have:=ih (ps++[q]) r (some (.d (.int q'))) (U.next a st) (λp c=>by
      rcases BX.mp c with z|z
      · grind
      · rw [A8.mp z]; exact b) g (by rw [AS, BC]; omega)
     simp_all
theorem aVN{rs:List Rw}{sg:Nat}{f:Tn}{bk:List Tn}(M:Mach rs sg)(e:bk.length=rs.length)(g:∀ t∈bk,tnV rs.length t)(c:tnV rs.length f):fO [.d (aC rs),.d (jA f bk)]=.ok (.d (.str (wbR rs (bkF bk) f))):=by
 have h:dIx (jA f bk) (.int 0)=.ok f.d:=rfl
 have a:aV (cT wT wB) (bS (vV 2)) (wρ rs f bk f [] none)=.ok (.rt (.d (.str (wbR rs (bkF bk) f)))):=by
  cases f with
  | w x=>
   rw[bW,iA aNP]
   simp[wρ,Tn.d,wbR]
  | n q=>exact aQ3 M e g (rs.length+1) [] q none Und2.start (λp b=>by simp at b) c (by simp)
 unfold fO
 rw[nQ]
 rw[bW]at a
 simp only[wρ,been,BN]at a
 simp_all
theorem aNR{rs:List Rw}{sg:Nat}(M:Mach rs sg){bk a:Int->Tn}(h:∀ q,dJ rs q->bk q=a q)(j:∀ q,dJ rs q->tnV rs.length (bk q)){t:Tn}(i:tnV rs.length t):wbR rs bk t=wbR rs a t:=by
 cases t with
 | w x=>rfl
 | n q=>
  have st:∀ q,dJ rs q->dQ rs bk q=dQ rs a q:=λq b=>by
   unfold dQ
   cases e:(aO rs q).r with
   | w x=>rfl
   | n c=>simp only;rw[h c (sL M b e)]
  have nx:∀ q c,dJ rs q->dQ rs bk q=some (.inl c)->dJ rs c:=λq c b e=>by
   unfold dQ at e
   cases e2:(aO rs q).r with
   | w x=>rw[e2]at e;cases e
   | n r=>
    rw[e2]at e
    simp only at e
    have g:=j _ (sL M b e2)
    split at e
    · rename_i p m; cases e; rw [m]at g; exact g
    · cases e
  have k:∀ n q o,dJ rs q->Ex (dQ rs bk) n q o->Ex (dQ rs a) n q o:=by
   intro n q o b d
   induction d with
   | @out q o e=>exact .out (by rw[<-st q b];exact e)
   | @go q c o n e t ih=>exact .go (by rw[<-st q b];exact e) (ih (nx q c b e))
  have l:∀ n q o,dJ rs q->Ex (dQ rs a) n q o->Ex (dQ rs bk) n q o:=by
   intro n q o b d
   induction d with
   | @out q o e=>exact .out (by rw[st q b];exact e)
   | @go q c o n e t ih=>
    have f:dQ rs bk q=some (.inl c):=by rw[st q b];exact e
    exact .go f (ih (nx q c b f))
  show(bU (dQ rs bk) q).getD eU=(bU (dQ rs a) q).getD eU
  rw[wI (st:=dQ rs bk) (st':=dQ rs a) (s:=q) (s':=q) λo=>⟨λ⟨n,x⟩=>⟨n,k n q o i x⟩,λ⟨n,x⟩=>⟨n,l n q o i x⟩⟩]
theorem aUE{rs:List Rw}{sg:Nat}{z:List Nat}(M:Mach rs sg)(S:bK sg z):fO [.d (aC rs),.d (bF rs z)]=.ok (.d (.str (gY rs z))):=by
 have c:((List.range rs.length).map λq:Nat=>begB rs z (q:Int)).length=rs.length:=by simp
 have a:∀ t∈(List.range rs.length).map λq:Nat=>begB rs z (q:Int),tnV rs.length t:=λt f=>by
  obtain⟨q,e,rfl⟩:=AX.mp f
  exact m7 M S (aIW (A7.mp e))
 unfold bF
 rw[aVN M c a (m7 M S (uB M z)),aNR M (λq b=>aA9 b) (λq b=>vP a q) (m7 M S (uB M z)),<-xM M S]
 rfl
theorem aLI{rs:List Rw}{sg:Nat}{z:List Nat}(M:Mach rs sg)(S:bK sg z){s:Int×Int}(V:p7 rs z s):(fP rs z s).ok:=by
 have a:(Tn.w eU).ok:=by show PyData.strOk eU=true;decide +kernel
 unfold fP
 cases e:bU (dI rs z) s with
 | none=>exact a
 | some t=>
  obtain⟨n,h⟩:=gW e
  show t.ok
  clear e
  induction h with
  | @out s o h=>
   unfold dI at h
   rcases beg_cell M S V with ⟨x,e,f⟩|⟨q,e,b,h1,h2⟩
   .rw[e]at h
    cases h
    have c:=AH (dY V.2.2.1 V.2.2.2)
    have:=((M.row _ c).1.ok).1
    unfold cB at e
    grind
   .rw[e]at h
    simp only at h
    split at h
    · cases h
    · cases h; exact trivial
  | @go s s' o n h t ih=>
   refine ih ?_
   unfold dI at h
   rcases beg_cell M S V with ⟨x,e,f⟩|⟨q,e,b,h1,h2⟩
   .grind
   .rw[e]at h
    simp only at h
    split at h
    · rename_i d; cases h; exact⟨h1, d, b⟩
    · cases h
theorem aQ4{rs:List Rw}{sg:Nat}{z:List Nat}(M:Mach rs sg)(S:bK sg z):(fP rs z (0,0)).ok/\∀ t∈(List.range rs.length).map λq:Nat=>begB rs z (q:Int),t.ok:=⟨aLI M S (uB M z),λt a=>by
 obtain⟨q,b,rfl⟩:=AX.mp a
 exact aLI M S (aIW (A7.mp b))⟩
theorem xO:∀ {xs:List Dz},(∀ x∈xs,gL x=true)->dS xs=true
 | [],_=>rfl
 | x::t,h=>by
  show(gL x && dS t)=true
  rw[h x (AV ..),xO λy a=>h y (AL _ a)];rfl
theorem aLJ{t:Tn}(h:t.ok):gL t.d=true:=by
 cases t with
 | n i=>rfl
 | w x=>exact h
theorem aQ5{f:Tn}{bk:List Tn}(g:f.ok)(e:∀ t∈bk,t.ok):k8 (jA f bk)=true:=by
 have h1:gL (jA f bk)=true:=by
  show dS [f.d,.tuple (bk.map Tn.d)]=true
  refine xO λx a=>?_
  rcases A6.mp a with z|a
  .rw[z];exact aLJ g
  .rw[A8.mp a]
   show dS (bk.map Tn.d)=true
   refine xO λx a=>?_
   obtain⟨c,b,rfl⟩:=AX.mp a
   exact aLJ (e c b)
 have h2:Sh 3 (jA f bk):=by
  refine yF λx a=>?_
  rcases A6.mp a with z|a
  .rw[z];exact aOG _ g
  .rw[A8.mp a]
   refine yF λx a=>?_
   obtain⟨c,b,rfl⟩:=AX.mp a
   exact aOG _ (e c b)
 show(gL (jA f bk) && decide ((jA f bk).depth<=8))=true
 rw[h1,AJ (BR h2.2 (by decide))];rfl
noncomputable def aIY(rs:List Rw)(x:Dz)(k:Nat):Dz:=match i6 [.d x,.d (gX rs k)]with
 | .ok (.d y)=>y
 | _=>.none
theorem aBF{rs:List Rw}{sg k:Nat}{z:List Nat}(M:Mach rs sg)(S:bK sg z)(a:k < sg):aIY rs (bF rs z) k=bF rs (z++[97+k]):=by
 have:=aEV M S (c:=97+k) (by unfold cP;exact AJ (by omega))
 rw[show 97+k - 97=k by omega]at this
 unfold aIY
 rw[this]
def aIZ(rs:List Rw)(sg:Nat):Prop:=∀ xs:List Dz,xs.Nodup->(∀ x∈xs,∃ z,bK sg z/\x=bF rs z)->xs.length<=200
theorem zE{sg k:Nat}{z:List Nat}(S:bK sg z)(b:k < sg)(d:z.length < 1000):bK sg (z++[97+k]):=⟨by simp;omega,λc a=>by
 rcases BX.mp a with h|h
 · exact S.2 c h
 · rw [A8.mp h]; unfold cP; exact AJ (by omega)⟩
noncomputable def aLK(rs:List Rw)(x:Dz):Dz:=match fO [.d (aC rs),.d x]with
 | .ok (.d y)=>y
 | _=>.none
theorem zF{rs:List Rw}{sg:Nat}{z:List Nat}(M:Mach rs sg)(S:bK sg z):aLK rs (bF rs z)=.str (gY rs z):=by
 unfold aLK
 rw[aUE M S]
theorem aLL{rs:List Rw}{sg:Nat}(code:List Nat->Nat)(g:∀ z,bK sg z->code z < 200)(hi:∀ z z',bK sg z->bK sg z'->code z=code z'->bF rs z=bF rs z'):aIZ rs sg:=λxs d h=>by
 classical
 let f:Dz->Nat:=λx=>if h:∃ z,bK sg z/\x=bF rs z then code h.choose else 0
 have k:∀ x∈xs,∃ z,bK sg z/\x=bF rs z/\f x=code z:=λx c=>⟨(h x c).choose,(h x c).choose_spec.1,(h x c).choose_spec.2,dif_pos (h x c)⟩
 refine tL f 200 xs d (λx c=>?_) (λa i b j e=>?_)
 · grind
 · grind
def tnB(m:Nat):Tn->Prop
 | .n i=>0<=i/\i < (m:Int)
 | .w x=>x="by"\/x="out"\/x="ever"
theorem aQ6{rs:List Rw}{sg:Nat}{z:List Nat}(M:Mach rs sg)(S:bK sg z){s:Int×Int}(V:p7 rs z s):tnB rs.length (fP rs z s):=by
 unfold fP
 cases e:bU (dI rs z) s with
 | none=>exact .inr (.inr rfl)
 | some t=>
  obtain⟨n,h⟩:=gW e
  show tnB rs.length t
  clear e
  induction h with
  | @out s o h=>
   unfold dI at h
   rcases beg_cell M S V with ⟨x,e,b⟩|⟨q,e,a,h1,h2⟩
   .rw[e]at h
    cases h
    have c:=AH (dY V.2.2.1 V.2.2.2)
    have:=(M.row _ c).1.1
    unfold cB at e
    rw[AD b]at e
    simp only at e
    rw[e]at this
    rcases this with h|h
    · exact .inl h
    · exact .inr (.inl h)
   .rw[e]at h
    simp only at h
    split at h
    · cases h
    · cases h; exact a
  | @go s s' o n h t ih=>
   refine ih ?_
   unfold dI at h
   rcases beg_cell M S V with ⟨x,e,b⟩|⟨q,e,a,h1,h2⟩
   .grind
   .rw[e]at h
    simp only at h
    split at h
    · rename_i d; cases h; exact⟨h1, d, a⟩
    · cases h
def tc(m:Nat):Tn->Nat
 | .n i=>i.toNat
 | .w x=>if x="by" then m else if x="out" then m+1 else m+2
theorem aVO{m:Nat}{t:Tn}(h:tnB m t):tc m t < m+3:=by
 cases t with
 | n i=>have:0<=i/\i < (m:Int):=h;show i.toNat < _;omega
 | w x=>show(if x="by" then m else if x="out" then m+1 else m+2) < _;split<;>(try split)<;>omega
theorem aUF{m:Nat}{t u:Tn}(h:tnB m t)(h':tnB m u)(e:tc m t=tc m u):t=u:=by
 have c:("by":Str)≠"out":=by decide +kernel
 have h1:("ever":Str)≠"by":=by decide +kernel
 have h2:("ever":Str)≠"out":=by decide +kernel
 cases t with
 | n i=>
  have a:0<=i/\i < (m:Int):=h
  cases u with
  | n j=>
   have b:0<=j/\j < (m:Int):=h'
   have e:i.toNat=j.toNat:=e
   grind
  | w x=>
   have e:i.toNat=(if x="by" then m else if x="out" then m+1 else m+2):=e
   grind
 | w x=>
  cases u with
  | n j=>
   have b:0<=j/\j < (m:Int):=h'
   have e:(if x="by" then m else if x="out" then m+1 else m+2)=j.toNat:=e
   grind
  | w y=>
   have e:(if x="by" then m else if x="out" then m+1 else m+2)=(if y="by" then m else if y="out" then m+1 else m+2):=e
   rcases h with rfl|rfl|rfl<;>rcases h' with rfl|rfl|rfl<;>first|rfl|(simp[c,c.symm,h1,h1.symm,h2,h2.symm]at e)
theorem aE2{rs:List Rw}{z a:List Nat}(h1:fP rs z (0,0)=fP rs a (0,0))(h2:∀ q:Nat,q < rs.length->begB rs z (q:Int)=begB rs a (q:Int)):bF rs z=bF rs a:=by
 unfold bF
 rw[h1,BH λq b=>h2 q (A7.mp b)]
def vT(z:List Nat):Nat:=match z.getLast? with
 | none=>0
 | some c=>c - 96
theorem aBG{sg:Nat}{z:List Nat}(a:sg<=3)(S:bK sg z):vT z < 4:=by
 unfold vT
 cases e:z.getLast? with
 | none=>simp
 | some c=>
  have:=BD (S.2 c (DJ e))
  grind
theorem last_eq{sg:Nat}{z a:List Nat}(S:bK sg z)(d:bK sg a)(e:vT z=vT a):(z=[]/\a=[])\/∃ y y' c,z=y++[c]/\a=y'++[c]/\bK sg y/\bK sg y'/\cP sg c=true:=by
 unfold vT at e
 cases h:z.getLast? with
 | none=>
  have i:=F7.mp h
  cases h':a.getLast? with
  | none=>exact .inl ⟨i,F7.mp h'⟩
  | some c'=>
   rw[h,h']at e
   have:=BD (d.2 c' (DJ h'))
   grind
 | some c=>
  have f:=BD (S.2 c (DJ h))
  cases h':a.getLast? with
  | none=>
   grind
  | some c'=>
   have k:=BD (d.2 c' (DJ h'))
   rw[h,h']at e
   have e:c - 96=c' - 96:=e
   have j:c'=c:=by omega
   subst j
   obtain⟨y,g⟩:=F8.mp h
   obtain⟨y',b⟩:=F8.mp h'
   refine .inr ⟨y,y',c',g,b,?_,?_,S.2 c' (DJ h)⟩
   · rw [g]at S; exact⟨by have := S.1; simp at this; omega, λc f => S.2 c (B9 _ f)⟩
   · rw [b]at d; exact⟨by have := d.1; simp at this; omega, λc f => d.2 c (B9 _ f)⟩
theorem xP{rs:List Rw}{bk:Int->Tn}{c:Nat}{q:Int}(h:(ck (c - 97) (aO rs q)).2=1):onR rs bk c (.n q)=.n (ck (c - 97) (aO rs q)).1:=by
 have:fF rs bk c q=some (.inr (.n (ck (c - 97) (aO rs q)).1)):=by rw[qT,AD h]
 show(bU (fF rs bk c) q).getD (.w eU)=_
 rw[hR this];rfl
theorem aI0{rs:List Rw}{sg:Nat}(M:Mach rs sg)(n:rs.length<=40)(g:∀ r∈rs,∀ k,k < sg->(ck k r).2=1):aIZ rs sg:=by
 have d:∀ z,bK sg z->tnB rs.length (fP rs z (0,0)):=λz S=>aQ6 M S (uB M z)
 refine aLL (λz=>tc rs.length (fP rs z (0,0)) * 4+vT z) (λz S=>?_) (λz h S f e=>?_)
 .have:=aVO (d z S)
  have:=aBG M.sg3 S
  grind
 .have o:=aBG M.sg3 S
  have j:=aBG M.sg3 f
  refine aE2 (aUF (d z S) (d h f) (by omega)) λq m=>?_
  rcases last_eq S f (by omega)with ⟨rfl,rfl⟩|⟨y,l,c,rfl,rfl,Sy,Sy',b⟩
  .rfl
  .have a:dJ rs (q:Int):=⟨by omega,by omega⟩
   have i:c - 97 < sg:=by have:=BD b;omega
   have h1:=g _ (AH (dY a.1 a.2)) _ i
   rw[nL M Sy b a,nL M Sy' b a,xP h1,xP h1]
theorem aE3{P:List Nat->Prop}(h0:P [])(a:∀ z c,P z->P (z++[c]))(z:List Nat):P z:=by
 rw[<-List.reverse_reverse z]
 induction z.reverse with
 | nil=>exact h0
 | cons c t ih=>rw[List.reverse_cons];exact a _ _ ih
theorem sM{sg c:Nat}{z:List Nat}(S:bK sg (z++[c])):bK sg z/\cP sg c=true:=⟨⟨by have:=S.1;simp at this;omega,λc a=>S.2 c (B9 _ a)⟩,S.2 c (by simp)⟩
end Mc
namespace Mb
open Classical
section
variable{τ:Type}(g:τ->Nat->τ)(t0:τ)(cs:List Nat)
variable{g t0 cs}
end
end Mb
namespace Mc
open L2 PyProof.Rows Fl
theorem aNS{a:List (Dz×Dz)}{k v b:Dz}(h:eB a k=false):gZ (putM a k v) b=if b=k then some v else gZ a b:=by
 have h':gZ a k=none:=by
  unfold eB at h
  simp_all
 unfold putM
 rw[h,AE (by decide)]
 unfold gZ at h' ⊢
 grind
theorem uF{P:Nat->Prop}:∀ K:Nat,P K->∃ n,n<=K/\P n/\∀ m,m < n->¬ P m:=by
 intro K
 induction K using Nat.strongRecOn with
 | _ K ih=>
  grind
def rdD(a0:List (List Nat))(ws:List Dz):Dz:=.tuple [.tuple (a0.map dH),.tuple ws]
structure Rdr(a0:List (List Nat))(sg:Nat):Prop where
 n1:1<=a0.length
 n2:a0.length<=1000
 s1:1<=sg
 s3:sg<=3
 row:∀ r∈a0,r.length=sg/\∀ j∈r,j < a0.length
section
variable{a0:List (List Nat)}{sg:Nat}
theorem Rdr.at(M:Rdr a0 sg){q:Nat}(a:q < a0.length):a0[q]? = some (a0.getD q [])/\(a0.getD q []).length=sg/\∀ j∈a0.getD q [],j < a0.length:=by
 have e:a0[q]? = some (a0.getD q []):=by rw[AI,AW a];rfl
 exact⟨e,M.row _ (AH e)⟩
theorem aQ7:∀ {n:Nat} {xs:List Dz},xs.Nodup->(∀ x∈xs,∃ q:Nat,q < n/\x=.int (q:Int))->xs.length<=n:=by
 intro n xs c h
 refine tL (λx=>match x with | .int q=>q.toNat|_=>0) n xs c (λx f=>?_) (λa d b g e=>?_)
 · grind
 · grind
theorem aG9{ws:List Dz}(M:Rdr a0 sg){q:Nat}(a:q < a0.length):dIx (.tuple (a0.map dH)) (.int (q:Int))=.ok (dH (a0.getD q [])):=nV (g8 (by rw[AG,(M.at a).1];rfl))
end
def sl(y z:List Nat):Prop:=y.length < z.length\/(y.length=z.length/\List.Lex (· < ·) y z)
section
variable{after:Dz->List Dz}{x0:Dz}
end
def aI1(w:Str):Prop:=w="by"\/w="out"\/w="ever"
structure Rdw(a0:List (List Nat))(ws:List Str)(sg:Nat):Prop where
 r:Rdr a0 sg
 wl:ws.length=a0.length
 ww:∀ w∈ws,aI1 w
noncomputable def rdW(a0:List (List Nat))(ws:List Str):Dz:=rdD a0 (ws.map .str)
section
variable{r1 r2:List (List Nat)}{w1 w2:List Str}{sg:Nat}
theorem Rdw.w(M:Rdw r1 w1 sg){q:Nat}(b:q < r1.length):aI1 (w1.getD q "")/\dIx (.tuple (w1.map .str)) (.int (q:Int))=.ok (.str (w1.getD q "")):=by
 have a:=M.wl
 have e:w1[q]? = some (w1.getD q ""):=by rw[AI,AW (by omega)];rfl
 refine⟨M.ww _ (AH e),nV (g8 ?_)⟩
 grind
end
section
variable{r1 r2:List (List Nat)}{w1 w2:List Str}{sg:Nat}
end
def eG(a0:List (List Nat))(q c:Nat):Nat:=(a0.getD q []).getD (c - 97) 0
def fN(a0:List (List Nat))(q:Nat)(z:List Nat):Nat:=z.foldl (eG a0) q
def Sgs(sg:Nat)(z:List Nat):Prop:=∀ c∈z,cP sg c=true
section
variable{a0 r1 r2:List (List Nat)}{ws w1 w2:List Str}{sg:Nat}
theorem zG{c:Nat}(h:cP sg c=true):97<=c/\c - 97 < sg:=by
 unfold cP at h
 grind
theorem kJ(M:Rdr a0 sg){q c:Nat}(d:q < a0.length)(b:cP sg c=true):(a0.getD q [])[c - 97]? = some (eG a0 q c)/\eG a0 q c < a0.length:=by
 have a:=M.at d
 have h:=zG b
 have f:c - 97 < (a0.getD q []).length:=by rw[a.2.1];exact h.2
 have e:(a0.getD q [])[c - 97]? = some (eG a0 q c):=by
  unfold eG
  grind
 exact⟨e,a.2.2 _ (AH e)⟩
theorem aHA(M:Rdr a0 sg):∀ (z:List Nat) {q:Nat},Sgs sg z->q < a0.length->fN a0 q z < a0.length
 | [],_,_,h=>h
 | c::t,_,hs,h=>aHA M t (λc a=>hs c (AL _ a)) (kJ M h (hs c AV)).2
def EqI(a0:List (List Nat))(ws:List Str)(sg i x y:Nat):Prop:=∀ w,Sgs sg w->w.length<=i->ws.getD (fN a0 x w) ""=ws.getD (fN a0 y w) ""
theorem EqI.up{i x y:Nat}(h:EqI a0 ws sg (i+1) x y):EqI a0 ws sg i x y:=λw a b=>h w a (by omega)
theorem EqI.sy{i x y:Nat}(h:EqI a0 ws sg i x y):EqI a0 ws sg i y x:=λw a b=>(h w a b).symm
theorem EqI.tr{i x y z:Nat}(h:EqI a0 ws sg i x y)(k:EqI a0 ws sg i y z):EqI a0 ws sg i x z:=λw a b=>(h w a b).trans (k w a b)
def iX(a0:List (List Nat))(ws:List Str)(sg i x:Nat):Prop:=∀ b,b < x->¬ EqI a0 ws sg i x b
theorem qV(i x:Nat):∃ r,r<=x/\EqI a0 ws sg i x r/\iX a0 ws sg i r:=by
 obtain⟨r,h1,h2,a⟩:=uF (P:=λr=>EqI a0 ws sg i x r) x (λw _ _=>rfl)
 exact⟨r,h1,h2,λb c h=>a b c (h2.tr h)⟩
theorem aHB{i:Nat}(h:∀ x,x < a0.length->iX a0 ws sg (i+1) x->iX a0 ws sg i x){x y:Nat}(hx:x < a0.length)(g:y < a0.length)(e:EqI a0 ws sg i x y):EqI a0 ws sg (i+1) x y:=by
 obtain⟨r,r1,r2,c⟩:=qV (a0:=a0) (ws:=ws) (sg:=sg) (i+1) x
 obtain⟨s,s1,a,b⟩:=qV (a0:=a0) (ws:=ws) (sg:=sg) (i+1) y
 have f:=h r (by omega) c
 have d:=h s (by omega) b
 have e2:EqI a0 ws sg i r s:=(r2.up.sy.tr e).tr a.up
 have:r=s:=by
  rcases D0 r s with q|q|q
  · exact absurd e2.sy (d r q)
  · exact q
  · exact absurd e2 (f s q)
 subst this
 exact r2.tr a.sy
theorem aE4(M:Rdr a0 sg){i:Nat}(h:∀ x y,x < a0.length->y < a0.length->EqI a0 ws sg i x y->EqI a0 ws sg (i+1) x y):∀ (k:Nat) {x y:Nat},x < a0.length->y < a0.length->EqI a0 ws sg i x y->EqI a0 ws sg (i+k) x y
 | 0,_,_,_,_,e=>e
 | k+1,x,y,hx,hy,e=>λw hs hl=>by
  cases w with
  | nil=>exact e [] hs (CN _)
  | cons c t=>
   have hc:=hs c AV
   obtain⟨_,f⟩:=kJ M hx hc
   obtain⟨_,a⟩:=kJ M hy hc
   have e1:=h x y hx hy e
   have e2:EqI a0 ws sg i (eG a0 x c) (eG a0 y c):=λu b hl=>e1 (c::u) (λd g=>by
    rcases A6.mp g with q|q
    · grind
    · exact b d q) (by simpa using hl)
   exact aE4 M h k f a e2 t (λc hc=>hs c (AL _ hc)) (by simp at hl;omega)
theorem aE5{α:Type}(p q:α->Bool):∀ l:List α,(∀ a∈l,p a=true->q a=true)->(∃ a∈l,p a=false/\q a=true)->l.countP p < l.countP q
 | [],_,⟨a,h,_⟩=>by simp at h
 | x::t,hi,⟨a,h,h1,h2⟩=>by
  rw[List.countP_cons,List.countP_cons]
  have hle:=List.countP_mono_left (l:=t) (p:=p) (q:=q) λa b=>hi a (AL _ b)
  rcases A6.mp h with c|c
  .grind
  .have d:=aE5 p q t (λa b=>hi a (AL _ b)) ⟨a,c,h1,h2⟩
   grind
open Classical in
theorem aVP(M:Rdr a0 sg){a b:Nat}(m:a < a0.length)(f:b < a0.length){z:List Nat}(hz:Sgs sg z)(k:ws.getD (fN a0 a z) ""≠ws.getD (fN a0 b z) "") :
  ∃ w,Sgs sg w/\w.length+1<=a0.length/\ws.getD (fN a0 a w) ""≠ws.getD (fN a0 b w) "":=by
 obtain⟨L,h1,h2,r⟩:=uF (P:=λi=>¬ EqI a0 ws sg i a b) z.length (λh=>k (h z hz (AQ _)))
 have up:∀ i,i < L->∃ x,x < a0.length/\¬ iX a0 ws sg i x/\iX a0 ws sg (i+1) x:=λi hi=>CD λj=>by
  have st:∀ x,x < a0.length->iX a0 ws sg (i+1) x->iX a0 ws sg i x:=λx d h=>CD λh'=>j ⟨x,d,h',h⟩
  have e:EqI a0 ws sg i a b:=CD λh=>r i hi h
  have:=aE4 (ws:=ws) M (λx y d s=>aHB st d s) (L - i) m f e
  rw[show i+(L - i)=L by omega]at this
  exact h2 this
 have g:∀ i,i<=L->i+1<=(List.range a0.length).countP λx=>decide (iX a0 ws sg i x):=by
  intro i
  induction i with
  | zero=>
   intro _
   have:0∈List.range a0.length:=A7.mpr (by omega)
   exact List.countP_pos_iff.mpr ⟨0,this,AJ λb f=>absurd f (Nat.not_lt_zero _)⟩
  | succ i ih=>
   intro hi
   have:=ih (by omega)
   obtain⟨x,d,o,q⟩:=up i (by omega)
   have:=aE5 (λx=>decide (iX a0 ws sg i x)) (λx=>decide (iX a0 ws sg (i+1) x)) (List.range a0.length) (λx _ h=>AJ λb f e=>BD h b f e.up) ⟨x,A7.mpr d,A1 o,AJ q⟩
   omega
 have u:=g L (AQ _)
 have n:(List.range a0.length).countP (λx=>decide (iX a0 ws sg L x))<=a0.length:=by
  have:=GX (p:=λx=>decide (iX a0 ws sg L x)) (l:=List.range a0.length)
  rw[A0]at this;exact this
 obtain⟨w,c⟩:=FE.mp h2
 obtain⟨s1,c⟩:=FE.mp c
 obtain⟨t,c⟩:=FE.mp c
 exact⟨w,s1,by omega,c⟩
end
noncomputable def ix1(ks:List Dz)(k:Dz):Nat:=ks.findIdx λy=>decide (y=k)
theorem aHC{a:List Dz}{k:Dz}(h:k∈a):a[ix1 a k]? = some k/\∀ j,j < ix1 a k->a[j]? ≠ some k:=by
 have c:∃ x∈a,decide (x=k)=true:=⟨k,h,AJ rfl⟩
 have b:ix1 a k < a.length:=List.findIdx_lt_length_of_exists c
 refine⟨?_,λj d e=>?_⟩
 .have:=List.findIdx_getElem (w:=b)
  rw[AW b]
  exact DF some (BD this)
 .obtain ⟨f,g⟩:=AU.mp e
  have:=List.not_of_lt_findIdx d
  grind
theorem aUG{a:List Dz}{k:Dz}{i:Nat}(h:a[i]? = some k)(b:∀ j,j < i->a[j]? ≠ some k):ix1 a k=i:=by
 obtain⟨h1,h2⟩:=aHC (AH h)
 grind
theorem aOY{x:Dz}{a:List Dz}(hx:bE x=.ok a)(N:a.length<=100000)(O:(∀ k∈a,k8 k=true)\/(∀ k∈a,tP k=true)):i7 [.d x]=.ok (.d (.list (a.map λk=>.int (ix1 a k:Int)))):=by
 have l:=aNO hx
 have same:∀ (k:Dz) (M:List (Dz×Dz)),k∈a->(∀ p∈M,p.1∈a)->eD k (M.map (·.1))=true:=λk M h1 h2=>by
  unfold eD
  grind
 have f:∀ (M:List (Dz×Dz)) k,eB M k=(gZ M k).isSome:=λM k=>rfl
 obtain⟨F,I,M,r,o,J,g,q,C⟩:=lF (fs:=stT [(stN 2),(stN 3)]) (fb:=vK 1 (eV 3) (eV 2)) (d:=xF) (xs:=a.zipIdx) (ρ:=[some (.d x),some (.m []),none,none])
  (λi ρ=>∃ (M:List (Dz×Dz)) (r o:O9 A),ρ=[some (.d x),some (.m M),r,o]/\(∀ k,gZ M k=if k∈a.take i then some (.int (ix1 a k:Int))else none)/\(∀ p∈M,p.1∈a)/\M.length<=i)
  ⟨[],none,none,rfl,λk=>by simp[gZ],λp s=>by simp at s,AQ _⟩ (λi p ρ s t=>by
  obtain⟨M,r,o,e,g,q,C⟩:=t
  subst e
  obtain⟨k,b⟩:=p
  obtain⟨c,rfl⟩:a[i]? = some k/\b=i:=by
   grind
  have w:=AH c
  have E:b < a.length:=(AU.mp c).1
  have B:=same k M w q
  have L:M.length<=16777216:=by omega
  have H:a.take (b+1)=a.take b++[k]:=by rw[FX,c];rfl
  by_cases h:k∈a.take b
  .have v:eB M k=true:=by rw[f,g k,AD h];rfl
   refine⟨[some (.d x),some (.m M),some (.d (.int (b:Int))),some (.d k)],[some (.d x),some (.m M),some (.d (.int (b:Int))),some (.d k)],by simp[xF],.inl ?_,M,some (.d (.int (b:Int))),some (.d k),rfl,λD=>?_,q,by omega⟩
   .simp_all
   .grind
  .have v:eB M k=false:=by rw[f,g k,AE h];rfl
   have K:ix1 a k=b:=aUG c λj G e=>h (by
    refine AH (i:=j) ?_
    rw[EI G];exact e)
   refine⟨[some (.d x),some (.m M),some (.d (.int (b:Int))),some (.d k)],[some (.d x),some (.m (putM M k (.int (b:Int)))),some (.d (.int (b:Int))),some (.d k)],by simp[xF],.inl ?_,putM M k (.int (b:Int)),some (.d (.int (b:Int))),some (.d k),rfl,λD=>?_,λp s=>?_,?_⟩
   .simp_all
   .rw[aNS v,H]
    grind
   .unfold putM at s
    grind
   .unfold putM
    rw[v,AE (by decide),AS];simp;omega)
 rw[DT,GJ]at g
 subst J
 have z:=cU (fs:=stN 0) (fe:=vE 1 (eV 0)) (ρ0:=[none,some (.m M)]) (d:=λk:Dz=>k) (g:=λk:Dz=>PyData.int (ix1 a k:Int)) (xs:=a) λk n=>⟨_,rfl,by
  have B:=same k M n q
  have y:=g k
  rw[AD n]at y
  simp[B,y]⟩
 rw[List.map_id']at z
 have u:oQ (stT [(stN 2),(stN 3)]) (vK 1 (eV 3) (eV 2)) (a.zipIdx.map xF) [some (.d x),some (.m []),none,none]=.ok (.nx [some (.d x),some (.m M),r,o]):=I
 unfold i7 xJ
 simp[l,u,hx,eJ,z]
section
variable{a0:List (List Nat)}{ws:List Str}{sg:Nat}
noncomputable def rp(a0:List (List Nat))(ws:List Str)(sg i x:Nat):Nat:=(qV (a0:=a0) (ws:=ws) (sg:=sg) i x).choose
theorem aI2(i x:Nat):rp a0 ws sg i x<=x:=(qV (a0:=a0) (ws:=ws) (sg:=sg) i x).choose_spec.1
theorem sN(i x:Nat):EqI a0 ws sg i x (rp a0 ws sg i x):=(qV (a0:=a0) (ws:=ws) (sg:=sg) i x).choose_spec.2.1
theorem uG(i x:Nat):iX a0 ws sg i (rp a0 ws sg i x):=(qV (a0:=a0) (ws:=ws) (sg:=sg) i x).choose_spec.2.2
theorem aLM{i r s:Nat}(h1:iX a0 ws sg i r)(h2:iX a0 ws sg i s)(h:EqI a0 ws sg i r s):r=s:=by
 rcases D0 r s with q|q|q
 · exact absurd h.sy (h2 r q)
 · exact q
 · exact absurd h (h1 s q)
theorem aHD{i x r:Nat}(h:EqI a0 ws sg i x r)(k:iX a0 ws sg i r):r=rp a0 ws sg i x:=aLM k (uG i x) (h.sy.tr (sN i x))
theorem uH{i x y:Nat}:rp a0 ws sg i x=rp a0 ws sg i y↔EqI a0 ws sg i x y:=by
 constructor
 .intro h
  have:=sN (a0:=a0) (ws:=ws) (sg:=sg) i y
  rw[<-h]at this
  exact(sN i x).tr this.sy
 .intro h
  exact aLM (uG i x) (uG i y) ((sN i x).sy.tr (h.tr (sN i y)))
theorem aE6{n i:Nat}{κ:Nat->Dz}(c:∀ x y,x < n->y < n->(κ x=κ y↔EqI a0 ws sg i x y)){x:Nat}(hx:x < n):ix1 ((List.range n).map κ) (κ x)=rp a0 ws sg i x:=by
 have a:∀ j,j < n->((List.range n).map κ)[j]? = some (κ j):=λj f=>by rw[AG,BM f];rfl
 obtain⟨h1,h2⟩:=aHC (AH (a x hx))
 generalize ix1 ((List.range n).map κ) (κ x)=r at *
 have d:r < n:=by
  grind
 rw[a r d]at h1
 have e:κ r=κ x:=B5 h1
 refine aHD ((c x r hx d).mp e.symm) λb h g=>?_
 grind
noncomputable def lkD(a0:List (List Nat))(ws:List Str)(sg i:Nat):Dz:=.list ((List.range a0.length).map λx=>.int (rp a0 ws sg i x:Int))
theorem aNT{x y:Nat}:EqI a0 ws sg 0 x y↔ws.getD x ""=ws.getD y "":=by
 constructor
 .intro h;exact h [] (λc a=>by simp at a) (AQ _)
 .intro h w _ b
  have:w=[]:=List.eq_nil_of_length_eq_zero (by omega)
  subst this;exact h
theorem aNU(M:Rdr a0 sg){i x y:Nat}(hx:x < a0.length)(f:y < a0.length):EqI a0 ws sg (i+1) x y↔EqI a0 ws sg i x y/\∀ k,k < sg->EqI a0 ws sg i (eG a0 x (97+k)) (eG a0 y (97+k)):=by
 constructor
 .intro h
  refine⟨h.up,λk e w b d=>h ((97+k)::w) (λc a=>?_) (by simpa using d)⟩
  rcases A6.mp a with q|q
  .rw[q];unfold cP;exact AJ (by omega)
  .exact b c q
 .rintro ⟨h1,h2⟩ w b d
  cases w with
  | nil=>exact h1 [] b (CN _)
  | cons c t=>
   have a:=zG (b c AV)
   have:=h2 (c - 97) a.2 t (λc a=>b c (AL _ a)) (by simp at d;omega)
   rw[show 97+(c - 97)=c by omega]at this
   exact this
theorem aVQ{i x:Nat}(hx:x < a0.length):dIx (lkD a0 ws sg i) (.int (x:Int))=.ok (.int (rp a0 ws sg i x:Int)):=nW (g8 (by rw[AG,BM hx];rfl))
theorem aUH(M:Rdw a0 ws sg):i7 [.d (.tuple (ws.map .str))]=.ok (.d (lkD a0 ws sg 0)):=by
 have n2:=M.r.n2
 have f:=M.wl
 have a:ws.map PyData.str=(List.range a0.length).map λx=>PyData.str (ws.getD x ""):=by
  refine D3 λj=>?_
  grind
 have e:bE (.tuple (ws.map .str))=.ok (ws.map .str):=dP (by rw[AA];omega)
 rw[aOY e (by rw[AA];omega) (.inr λk c=>by obtain⟨w,_,rfl⟩:=AX.mp c;rfl)]
 unfold lkD
 rw[a,AZ]
 congr 3
 refine BH λx b=>?_
 have b:=A7.mp b
 show PyData.int _=_
 rw[aE6 (a0:=a0) (ws:=ws) (sg:=sg) (i:=0) (κ:=λx=>PyData.str (ws.getD x "")) (λx y _ _=>by rw[aNT];exact⟨λh=>by injection h,λh=>by rw[h]⟩) b]
theorem aVR(M:Rdr a0 sg){i x:Nat}(hx:x < a0.length):dG [.d (lkD a0 ws sg i),.d (dH (a0.getD x []))]=.ok (.d (.tuple ((a0.getD x []).map λj=>.int (rp a0 ws sg i j:Int)))):=by
 have b:=M.at hx
 have s3:=M.s3
 have e:bE (dH (a0.getD x []))=.ok ((a0.getD x []).map λj:Nat=>.int (j:Int)):=dP (by rw[AA];omega)
 have a:=cU (fs:=stN 0) (fe:=e2 dIx (rV 1) (rV 0)) (ρ0:=[none,some (.d (lkD a0 ws sg i))]) (d:=λj:Nat=>.int (j:Int)) (g:=λj:Nat=>PyData.int (rp a0 ws sg i j:Int)) (xs:=a0.getD x []) λj c=>⟨_,rfl,by
  have:=aVQ (ws:=ws) (sg:=sg) (i:=i) (b.2.2 j c)
  simp[this]⟩
 generalize a0.getD x []=r at *
 unfold dG kF
 simp[e,eJ,a]
noncomputable def fkK(a0:List (List Nat))(ws:List Str)(sg i x:Nat):Dz:=.tuple [.int (rp a0 ws sg i x:Int),.tuple ((a0.getD x []).map λj=>.int (rp a0 ws sg i j:Int))]
theorem aQ8(M:Rdr a0 sg){i x y:Nat}(hx:x < a0.length)(b:y < a0.length):fkK a0 ws sg i x=fkK a0 ws sg i y↔EqI a0 ws sg (i+1) x y:=by
 have g:=M.at hx
 have f:=M.at b
 rw[aNU M hx b,<-uH]
 have d:∀ q,q < a0.length->∀ k,k < sg->(a0.getD q [])[k]? = some (eG a0 q (97+k)):=λq e k a=>by
  have:=(kJ M e (c:=97+k) (by unfold cP;exact AJ (by omega))).1
  grind
 constructor
 .intro h
  unfold fkK at h
  have h1:(rp a0 ws sg i x:Int)=rp a0 ws sg i y/\(a0.getD x []).map (λj=>PyData.int (rp a0 ws sg i j:Int))=(a0.getD y []).map λj=>PyData.int (rp a0 ws sg i j:Int):=by
   grind
  refine⟨by omega,λk a=>uH.mp ?_⟩
  have:=DF (λl=>l[k]?) h1.2
  grind
 .rintro ⟨h1,h2⟩
  unfold fkK
  have:(a0.getD x []).map (λj=>PyData.int (rp a0 ws sg i j:Int))=(a0.getD y []).map λj=>PyData.int (rp a0 ws sg i j:Int):=by
   refine D3 λk=>?_
   rw[AG,AG]
   by_cases a:k < sg
   .rw[d x hx k a,d y b k a]
    show some (PyData.int _)=some (PyData.int _)
    rw[uH.mpr (h2 k a)]
   .grind
  grind
theorem aHE(f:Nat->Int):∀ (xs:List Nat),dS (xs.map λj=>.int (f j))=true
 | []=>rfl
 | x::t=>by rw[A4,dS,aHE f t];rfl
theorem aUI(M:Rdr a0 sg){i x:Nat}(hx:x < a0.length):k8 (fkK a0 ws sg i x)=true:=by
 have b:=aHE (λj=>(rp a0 ws sg i j:Int)) (a0.getD x [])
 have h2:Sh 2 (fkK a0 ws sg i x):=yF λy d=>by
  rcases A6.mp d with q|q
  .rw[q];exact yG _ _
  .rw[A8.mp q]
   exact yF λz a=>by
    obtain⟨j,_,rfl⟩:=AX.mp a
    exact yG _ _
 have c:=h2.2
 unfold fkK at c ⊢
 unfold k8
 rw[BE]
 refine⟨?_,AJ (by omega)⟩
 show dS [_,_]=true
 unfold dS dS
 show(true && (dS ((a0.getD x []).map λj=>PyData.int (rp a0 ws sg i j:Int)) && dS []))=true
 rw[b];rfl
theorem aOZ(M:Rdw a0 ws sg)(i:Nat):oC [.d (.tuple (a0.map dH)),.d (lkD a0 ws sg i)]=.ok (.d (lkD a0 ws sg (i+1))):=by
 have n2:=M.r.n2
 have s3:=M.r.s3
 have l:bE (lkD a0 ws sg i)=.ok ((List.range a0.length).map λx=>.int (rp a0 ws sg i x:Int)):=m4 (by rw[AA,A0];omega)
 have f:a0.map dH=(List.range a0.length).map λx=>dH (a0.getD x []):=by
  refine D3 λj=>?_
  grind
 have c:bE (.tuple (a0.map dH))=.ok ((List.range a0.length).map λx=>dH (a0.getD x [])):=by rw[<-f];exact dP (by rw[AA];omega)
 have n:aED (lkD a0 ws sg i) (.tuple (a0.map dH))=.ok ((List.range a0.length).map λx=>.tuple [.int (rp a0 ws sg i x:Int),dH (a0.getD x [])]):=by
  unfold aED
  rw[l,c]
  show R.ok _=R.ok _
  rw[List.zip_map,AZ]
  congr 1
  refine D3 λj=>?_
  rw[AG,AG]
  by_cases e:j < a0.length
  .have m:((List.range a0.length).zip (List.range a0.length))[j]? = some (j,j):=List.getElem?_zip_eq_some.mpr ⟨BM e,BM e⟩
   rw[BM e,m];rfl
  .grind
 have o:=cU (fs:=stT [(stN 0),(stN 1)]) (fe:=cJ (aA (eV 0) (aA (eA (aY 2 dG (aA (vV 2) (aA (vV 1) aL)))) aL))) (ρ0:=[none,none,some (.d (lkD a0 ws sg i))]) (d:=λx=>PyData.tuple [.int (rp a0 ws sg i x:Int),dH (a0.getD x [])]) (g:=fkK a0 ws sg i) (xs:=List.range a0.length) λx a=>⟨[some (.d (.int (rp a0 ws sg i x:Int))),some (.d (dH (a0.getD x []))),some (.d (lkD a0 ws sg i))],by simp,by
  have:=aVR (ws:=ws) M.r (i:=i) (A7.mp a)
  unfold fkK
  simp[-List.getD_eq_getElem?_getD,this]⟩
 have h:bE (.list ((List.range a0.length).map (fkK a0 ws sg i)))=.ok ((List.range a0.length).map (fkK a0 ws sg i)):=m4 (by rw[AA,A0];omega)
 have b:=aOY h (by rw[AA,A0];omega) (.inl λk h=>by
  obtain⟨x,a,rfl⟩:=AX.mp h
  exact aUI M.r (A7.mp a))
 have p:((List.range a0.length).map (fkK a0 ws sg i)).map (λk=>PyData.int (ix1 ((List.range a0.length).map (fkK a0 ws sg i)) k:Int))=(List.range a0.length).map λx=>.int (rp a0 ws sg (i+1) x:Int):=by
  rw[AZ]
  refine BH λx a=>?_
  show PyData.int _=_
  rw[aE6 (a0:=a0) (ws:=ws) (sg:=sg) (i:=i+1) (κ:=fkK a0 ws sg i) (λx y a q=>aQ8 M.r a q) (A7.mp a)]
 rw[p]at b
 have b:i7 [.d (.list ((List.range a0.length).map (fkK a0 ws sg i)))]=.ok (.d (lkD a0 ws sg (i+1))):=b
 unfold oC aA4
 simp[-List.getD_eq_getElem?_getD,n,eJ,o,b]
theorem aHF(f:Nat->Int):∀ (xs:List Nat),sK (xs.map λj=>.int (f j))=true
 | []=>rfl
 | x::t=>by rw[A4];show(true && sK _)=true;rw[aHF f t];rfl
theorem vU(i:Nat):Cp (lkD a0 ws sg i):=⟨aHF _ _,Sh.shaped (n:=1) (sh_lst λx a=>by
 obtain⟨q,_,rfl⟩:=AX.mp a
 exact yG _ _) (by decide)⟩
theorem aHG{i:Nat}(h:lkD a0 ws sg i=lkD a0 ws sg (i+1)):∀ x,x < a0.length->rp a0 ws sg i x=rp a0 ws sg (i+1) x:=λx a=>by
 unfold lkD at h
 injection h with h
 have:=DF (λl=>l[x]?) h
 grind
open Classical in
noncomputable def aE7(a0:List (List Nat))(ws:List Str)(sg i:Nat):Nat:=(List.range a0.length).countP λx=>decide (iX a0 ws sg i x)
open Classical in
theorem aHH{i:Nat}(h:lkD a0 ws sg i≠lkD a0 ws sg (i+1)):aE7 a0 ws sg i < aE7 a0 ws sg (i+1):=by
 refine aE5 _ _ _ (λx _ h=>AJ λb d e=>BD h b d e.up) (CD λc=>h ?_)
 have st:∀ x,x < a0.length->iX a0 ws sg (i+1) x->iX a0 ws sg i x:=λx a f=>CD λh'=>c ⟨x,A7.mpr a,A1 h',AJ f⟩
 unfold lkD
 congr 1
 refine BH λx a=>?_
 have a:=A7.mp a
 have g:=aI2 (a0:=a0) (ws:=ws) (sg:=sg) i x
 rw[<-aHD (a0:=a0) (ws:=ws) (sg:=sg) (i:=i+1) (x:=x) (r:=rp a0 ws sg i x) (aHB st a (by omega) (sN i x)) λb d e=>uG i x b d e.up]
theorem aQ9(i:Nat):aE7 a0 ws sg i<=a0.length:=by
 unfold aE7
 have:=GX (p:=λx=>@decide (iX a0 ws sg i x) (Classical.propDecidable _)) (l:=List.range a0.length)
 grind
theorem aRA(M:Rdw a0 ws sg):∀ (k i:Nat),a0.length<=aE7 a0 ws sg i+k->∃ N,aV (cT arT arB) (bS (vV 1)) [some (.d (rdW a0 ws)),some (.d (lkD a0 ws sg i)),some (.d (lkD a0 ws sg (i+1)))]=.ok (.rt (.d (lkD a0 ws sg N)))/\lkD a0 ws sg N=lkD a0 ws sg (N+1):=by
 intro k
 induction k with
 | zero=>
  intro i j
  by_cases h:lkD a0 ws sg i=lkD a0 ws sg (i+1)
  .refine ⟨i,?_,h⟩
   have a:arT [some (.d (rdW a0 ws)),some (.d (lkD a0 ws sg i)),some (.d (lkD a0 ws sg (i+1)))]=.ok false:=by
    have:=aE1 (vU (a0:=a0) (ws:=ws) (sg:=sg) (i+1)) (vU (a0:=a0) (ws:=ws) (sg:=sg) i)
    rw[AJ h.symm]at this
    simp[arT,this]
   rw[bW,iA a]
   simp
  .have:=aHH h
   have:=aQ9 (a0:=a0) (ws:=ws) (sg:=sg) (i+1)
   omega
 | succ k ih=>
  intro i j
  by_cases h:lkD a0 ws sg i=lkD a0 ws sg (i+1)
  .refine ⟨i,?_,h⟩
   have a:arT [some (.d (rdW a0 ws)),some (.d (lkD a0 ws sg i)),some (.d (lkD a0 ws sg (i+1)))]=.ok false:=by
    have:=aE1 (vU (a0:=a0) (ws:=ws) (sg:=sg) (i+1)) (vU (a0:=a0) (ws:=ws) (sg:=sg) i)
    rw[AJ h.symm]at this
    simp[arT,this]
   rw[bW,iA a]
   simp
  .have f:=aHH h
   have a:arT [some (.d (rdW a0 ws)),some (.d (lkD a0 ws sg i)),some (.d (lkD a0 ws sg (i+1)))]=.ok true:=by
    have:=aE1 (vU (a0:=a0) (ws:=ws) (sg:=sg) (i+1)) (vU (a0:=a0) (ws:=ws) (sg:=sg) i)
    rw[A1 λe=>h e.symm]at this
    simp[arT,this]
   have b:dIx (rdW a0 ws) (.int 0)=.ok (.tuple (a0.map dH)):=rfl
   have l:=aOZ M (i+1)
   have c:arB [some (.d (rdW a0 ws)),some (.d (lkD a0 ws sg i)),some (.d (lkD a0 ws sg (i+1)))]=.ok (.nx [some (.d (rdW a0 ws)),some (.d (lkD a0 ws sg (i+1))),some (.d (lkD a0 ws sg (i+1+1)))]):=by
    simp[arB,b,l]
   obtain⟨N,e,g⟩:=ih (i+1) (by omega)
   refine⟨N,?_,g⟩
   rw[bW]at e ⊢
   rw[lS a c]
   exact e
def EqA(a0:List (List Nat))(ws:List Str)(sg x y:Nat):Prop:=∀ w,Sgs sg w->ws.getD (fN a0 x w) ""=ws.getD (fN a0 y w) ""
theorem aVS(M:Rdw a0 ws sg):∃ L:List Nat,eS [.d (rdW a0 ws)]=.ok (.d (.list (L.map λr:Nat=>.int (r:Int))))/\L.length=a0.length/\∀ x,x < a0.length->∃ r,L[x]? = some r/\r<=x/\EqA a0 ws sg x r/\∀ b,b < r->¬ EqA a0 ws sg r b:=by
 obtain⟨N,e,j⟩:=aRA M a0.length 0 (by omega)
 have m:dIx (rdW a0 ws) (.int 0)=.ok (.tuple (a0.map dH)):=rfl
 have o:dIx (rdW a0 ws) (.int 1)=.ok (.tuple (ws.map .str)):=rfl
 have n:=aUH M
 have h1:=aOZ M 0
 have c:∀ {x y:Nat},x < a0.length->y < a0.length->EqI a0 ws sg N x y->EqA a0 ws sg x y:=λ{x y} a g h w f=>by
  have:=aE4 (ws:=ws) M.r (i:=N) (λx y a g e=>by
   have:=uH.mpr e
   rw[aHG j x a,aHG j y g]at this
   exact uH.mp this) w.length a g h
  exact this w f (by omega)
 refine⟨(List.range a0.length).map (rp a0 ws sg N),?_,by rw[AA,A0],λx a=>⟨rp a0 ws sg N x,by rw[AG,BM a];rfl,aI2 N x,c a (EJ (aI2 N x) a) (sN N x),λb l h=>uG N x b l λw f _=>h w f⟩⟩
 have k:lkD a0 ws sg N=.list (((List.range a0.length).map (rp a0 ws sg N)).map λr:Nat=>.int (r:Int)):=by unfold lkD;rw[AZ];rfl
 rw[<-k]
 unfold eS
 rw[nR]
 simp_all
end
section
variable{a0:List (List Nat)}{ws:List Str}{sg:Nat}{L:List Nat}
structure Lk(a0:List (List Nat))(ws:List Str)(sg:Nat)(L:List Nat):Prop where
 len:L.length=a0.length
 at_:∀ x,x < a0.length->L[x]? = some (L.getD x 0)/\L.getD x 0<=x/\EqA a0 ws sg x (L.getD x 0)/\∀ b,b < L.getD x 0->¬ EqA a0 ws sg (L.getD x 0) b
theorem aLN(M:Rdw a0 ws sg):∃ L:List Nat,eS [.d (rdW a0 ws)]=.ok (.d (.list (L.map λr:Nat=>.int (r:Int))))/\Lk a0 ws sg L:=by
 obtain⟨L,e,l,h⟩:=aVS M
 refine⟨L,e,l,λx a=>?_⟩
 grind
noncomputable def afL(a0:List (List Nat))(L:List Nat):Dz->List Dz
 | .int q=>(a0.getD q.toNat []).map λj=>.int (L.getD j 0:Int)
 | _=>[]
theorem vW(q:Nat):afL a0 L (.int (q:Int))=(a0.getD q []).map λj=>.int (L.getD j 0:Int):=by
 show(a0.getD ((q:Int)).toNat []).map _=_
 grind
theorem m9(M:Rdr a0 sg)(K:Lk a0 ws sg L){n:Nat}:∀ {x:Dz},x∈bfQ (afL a0 L) (.int 0) n->∃ q:Nat,q < a0.length/\x=.int (q:Int):=by
 induction n with
 | zero=>intro x a;rw[A8.mp a];exact⟨0,M.n1,rfl⟩
 | succ n ih=>
  intro x a
  rw[bfQ]at a
  split at a
  .rename_i y e
   rcases adA_mem _ a with h|h
   .grind
   .obtain ⟨q,c,rfl⟩:=ih (AH e)
    rw[vW]at h
    obtain⟨j,d,rfl⟩:=AX.mp h
    have b:=(M.at c).2.2 j d
    have:=(K.at_ j b).2.1
    grind
  .grind
theorem aUJ(M:Rdr a0 sg)(K:Lk a0 ws sg L){x:Nat}(hx:x < a0.length):dG [.d (.list (L.map λr:Nat=>.int (r:Int))),.d (dH (a0.getD x []))]=.ok (.d (.tuple (afL a0 L (.int (x:Int))))):=by
 have b:=M.at hx
 have s3:=M.s3
 have e:bE (dH (a0.getD x []))=.ok ((a0.getD x []).map λj:Nat=>.int (j:Int)):=dP (by rw[AA];omega)
 have a:=cU (fs:=stN 0) (fe:=e2 dIx (rV 1) (rV 0)) (ρ0:=[none,some (.d (.list (L.map λr:Nat=>.int (r:Int))))]) (d:=λj:Nat=>.int (j:Int)) (g:=λj:Nat=>PyData.int (L.getD j 0:Int)) (xs:=a0.getD x []) λj c=>⟨_,rfl,by
  have:dIx (.list (L.map λr:Nat=>.int (r:Int))) (.int (j:Int))=.ok (.int (L.getD j 0:Int)):=nW (g8 (by rw[AG,(K.at_ j (b.2.2 j c)).1];rfl))
  simp[-List.getD_eq_getElem?_getD,this]⟩
 rw[vW]
 generalize a0.getD x []=r at *
 unfold dG kF
 simp[-List.getD_eq_getElem?_getD,e,eJ,a]
structure Lst(a0:List (List Nat))(ws:List Str)(L:List Nat)(N:Nat):Prop where
 len:(bfQ (afL a0 L) (.int 0) N).length=N
 on:∀ m,m < N->m < (bfQ (afL a0 L) (.int 0) m).length
 le:N<=a0.length
theorem aLO(M:Rdr a0 sg)(K:Lk a0 ws sg L):∃ N,Lst a0 ws L N:=by
 have c:∀ n,(bfQ (afL a0 L) (.int 0) n).length<=a0.length:=λn=>aQ7 (zC _ _ n) λx d=>m9 M K d
 obtain⟨N,h1,h2,f⟩:=uF (P:=λn=>(bfQ (afL a0 L) (.int 0) n).length<=n) a0.length (c _)
 have on:∀ m,m < N->m < (bfQ (afL a0 L) (.int 0) m).length:=λm e=>by have:=f m e;omega
 refine⟨N,Nat.le_antisymm h2 ?_,on,h1⟩
 cases N with
 | zero=>omega
 | succ n=>
  have a:=on n (by omega)
  have b:=(m8 (afL a0 L) (.int 0) n).length_le
  omega
noncomputable def roomsL(a0:List (List Nat))(L:List Nat)(N:Nat):List Nat:=(bfQ (afL a0 L) (.int 0) N).map λx=>match x with | .int q=>q.toNat|_=>0
noncomputable def dE(a0:List (List Nat))(L:List Nat)(N:Nat):List (List Nat):=(bfQ (afL a0 L) (.int 0) N).map λx=>(afL a0 L x).map (nrQ (bfQ (afL a0 L) (.int 0) N))
noncomputable def eR(a0:List (List Nat))(ws:List Str)(L:List Nat)(N:Nat):List Str:=(roomsL a0 L N).map λq=>ws.getD q ""
theorem aCE(M:Rdr a0 sg)(K:Lk a0 ws sg L)(N:Nat):bfQ (afL a0 L) (.int 0) N=(roomsL a0 L N).map λq:Nat=>.int (q:Int):=by
 unfold roomsL
 rw[AZ]
 conv=>lhs;rw[<-List.map_id (bfQ (afL a0 L) (.int 0) N)]
 refine BH λx a=>?_
 obtain⟨q,_,rfl⟩:=m9 M K a
 grind
theorem aO0(M:Rdw a0 ws sg)(K:Lk a0 ws sg L)(eL:eS [.d (rdW a0 ws)]=.ok (.d (.list (L.map λr:Nat=>.int (r:Int))))){N:Nat}(T:Lst a0 ws L N) :
  oD [.d (rdW a0 ws)]=.ok (.d (rdW (dE a0 L N) (eR a0 ws L N))):=by
 have n2:=M.r.n2
 have s3:=M.r.s3
 have o:=T.le
 have n:dIx (rdW a0 ws) (.int 0)=.ok (.tuple (a0.map dH)):=rfl
 have v:dIx (rdW a0 ws) (.int 1)=.ok (.tuple (ws.map .str)):=rfl
 have p:dIx (.list (L.map λr:Nat=>.int (r:Int))) (.int 0)=.ok (.int 0):=by
  have h:=K.at_ 0 M.r.n1
  have:L.getD 0 0=0:=by omega
  rw[this]at h
  exact nW (g8 (j:=0) (by rw[AG,h.1];rfl))
 let S:Sq:={after:=afL a0 L,x0:=.int 0,stop:=λ_ _=>false,k1:=2,k2:=1,G:=iT 3 fY [.d (.list (L.map λr:Nat=>.int (r:Int))),.d (rdW a0 ws)],D:=gF lR}
 have O:S.ok N:={
  on:=λm f=>⟨T.on m f,rfl⟩
  off:=.inl (E4 T.len)
  key:=.inr λx c=>by obtain⟨q,_,rfl⟩:=m9 M.r K c;rfl
  len:=by show(bfQ (afL a0 L) (.int 0) N).length<=_;rw[T.len];omega
  hk1:=by show 2<=12;omega
  hk2:=by show 1<=12;omega
  hG:=λm x f c=>by
   obtain⟨q,a,rfl⟩:=m9 M.r K (AH c)
   have s:(afL a0 L (.int (q:Int))).length<=3:=by rw[vW,AA,(M.r.at a).2.1];exact s3
   refine⟨⟨.tuple (afL a0 L (.int (q:Int))),?_,dP (by show(afL a0 L (.int (q:Int))).length<=_;omega)⟩,by show(afL a0 L (.int (q:Int))).length<=1000;omega⟩
   have e:=aUJ M.r K a
   have i:=aG9 (ws:=ws.map .str) M.r a
   show iT 3 fY [.d (.list (L.map λr:Nat=>.int (r:Int))),.d (rdW a0 ws)] [.int (q:Int)]=_
   unfold iT fY
   simp[-List.getD_eq_getElem?_getD,n,i,e,dOf]
  hD:=λm f E=>by
   show gF lR [.list (bfQ (afL a0 L) (.int 0) m),.int (m:Int)]=.ok (.bool false)
   unfold gF lR aA3
   simp[dOf]}
 have e:=aUA O
 have e:hV [.d (.int 0),.g 2 1 (iT 3 fY [.d (.list (L.map λr:Nat=>.int (r:Int))),.d (rdW a0 ws)]),.g 1 2 (gF lR)]=.ok (.d (.tuple [.list (bfQ (afL a0 L) (.int 0) N),.list (gD (afL a0 L) (bfQ (afL a0 L) (.int 0) N) N)])):=e
 have t:gD (afL a0 L) (bfQ (afL a0 L) (.int 0) N) N=(dE a0 L N).map dH:=by
  unfold gD dE
  rw[GV (E4 T.len),AZ];rfl
 rw[t]at e
 have l:=aCE M.r K N
 have y:(roomsL a0 L N).length=N:=by unfold roomsL;rw[AA,T.len]
 rw[l]at e
 have hi:bE (.list ((roomsL a0 L N).map λq:Nat=>.int (q:Int)))=.ok ((roomsL a0 L N).map λq:Nat=>.int (q:Int)):=m4 (by rw[AA];omega)
 have b:∀ q∈roomsL a0 L N,q < a0.length:=λq a=>by
  have:PyData.int (q:Int)∈bfQ (afL a0 L) (.int 0) N:=by rw[l];exact AX.mpr ⟨q,a,rfl⟩
  obtain⟨C,h,e⟩:=m9 M.r K this
  grind
 have k:=cU (fs:=stN 0) (fe:=e2 dIx (e2 dIx (rV 1) (eC (.int 1))) (rV 0)) (ρ0:=[none,some (.d (rdW a0 ws))]) (d:=λq:Nat=>.int (q:Int)) (g:=λq:Nat=>PyData.str (ws.getD q "")) (xs:=roomsL a0 L N) λq a=>⟨_,rfl,by
  obtain⟨_,i⟩:=M.w (b q a)
  simp[-List.getD_eq_getElem?_getD,v,i]⟩
 have u:(roomsL a0 L N).map (λq:Nat=>PyData.str (ws.getD q ""))=(eR a0 ws L N).map .str:=by unfold eR;rw[AZ];rfl
 rw[u]at k
 have x0:dIx (.tuple [.list ((roomsL a0 L N).map λq:Nat=>.int (q:Int)),.list ((dE a0 L N).map dH)]) (.int 0)=.ok (.list ((roomsL a0 L N).map λq:Nat=>.int (q:Int))):=rfl
 have x1:dIx (.tuple [.list ((roomsL a0 L N).map λq:Nat=>.int (q:Int)),.list ((dE a0 L N).map dH)]) (.int 1)=.ok (.list ((dE a0 L N).map dH)):=rfl
 show oD [.d (rdW a0 ws)]=.ok (.d (.tuple [.tuple ((dE a0 L N).map dH),.tuple ((eR a0 ws L N).map .str)]))
 generalize (dE a0 L N).map dH=A at *
 generalize (eR a0 ws L N).map PyData.str=B at *
 generalize (roomsL a0 L N).map (λq:Nat=>PyData.int (q:Int))=z at *
 unfold oD aA5
 simp[vI,oV,sA,aAZ,aIS,iU,vJ,eL,p,e,x0,x1,hi,eJ,k,dOf]
end
section
variable{a0:List (List Nat)}{ws:List Str}{sg:Nat}{L:List Nat}{N:Nat}
theorem EqA.sy{x y:Nat}(h:EqA a0 ws sg x y):EqA a0 ws sg y x:=λw a=>(h w a).symm
theorem EqA.tr{x y z:Nat}(h:EqA a0 ws sg x y)(k:EqA a0 ws sg y z):EqA a0 ws sg x z:=λw a=>(h w a).trans (k w a)
theorem Lk.iff(K:Lk a0 ws sg L){x y:Nat}(hx:x < a0.length)(d:y < a0.length):L.getD x 0=L.getD y 0↔EqA a0 ws sg x y:=by
 obtain⟨_,_,b,f⟩:=K.at_ x hx
 obtain⟨_,_,a,c⟩:=K.at_ y d
 constructor
 .intro h;rw[<-h]at a;exact b.tr a.sy
 .intro h
  have e:EqA a0 ws sg (L.getD x 0) (L.getD y 0):=b.sy.tr (h.tr a)
  rcases D0 (L.getD x 0) (L.getD y 0)with q|q|q
  · exact absurd e.sy (c _ q)
  · exact q
  · grind
theorem Lk.idem(K:Lk a0 ws sg L){x:Nat}(hx:x < a0.length):L.getD (L.getD x 0) 0=L.getD x 0:=by
 have h:=K.at_ x hx
 exact((K.iff hx (EJ h.2.1 hx)).mpr h.2.2.1).symm
theorem aI3(T:Lst a0 ws L N):(roomsL a0 L N).length=N:=by unfold roomsL;rw[AA,T.len]
theorem aLP(M:Rdr a0 sg)(K:Lk a0 ws sg L):∀ q∈roomsL a0 L N,q < a0.length:=λq a=>by
 have:PyData.int (q:Int)∈bfQ (afL a0 L) (.int 0) N:=by rw[aCE M K];exact AX.mpr ⟨q,a,rfl⟩
 obtain⟨b,h,e⟩:=m9 M K this
 grind
theorem zH{after:Dz->List Dz}{x0 x y:Dz}{n:Nat}(f:(bfQ after x0 n).length<=n)(hx:x∈bfQ after x0 n)(g:y∈after x):y∈bfQ after x0 n:=by
 obtain⟨m,d⟩:=FD hx
 have b:=(AU.mp d).1
 have a:m < n:=BA b f
 by_cases h:m < (bfQ after x0 m).length
 .have:=aCD (qU (DK a)) h d
  have e:=o6 this
  have c:y∈bfQ after x0 (m+1):=by rw[e];exact vS _ g
  exact(qU (show m+1<=n by omega)).subset c
 .exfalso
  have i:∀ k,(bfQ after x0 (m+k))=bfQ after x0 m:=by
   intro k
   induction k with
   | zero=>rfl
   | succ k ih=>
    have:(bfQ after x0 (m+k))[m+k]? = none:=by rw[ih];exact List.getElem?_eq_none (by omega)
    rw[<-Nat.add_assoc,bfQ,this]
    exact ih
  obtain⟨k,rfl⟩:=Nat.le.dest (DK a)
  grind
theorem aUK(M:Rdw a0 ws sg)(K:Lk a0 ws sg L)(T:Lst a0 ws L N):Rdw (dE a0 L N) (eR a0 ws L N) sg:=by
 have a:(dE a0 L N).length=N:=by unfold dE;rw[AA,T.len]
 have k:1<=N:=by
  have:=T.len
  cases N with
  | zero=>simp[bfQ]at this
  | succ n=>omega
 have e:=T.le
 have n2:=M.r.n2
 refine⟨⟨by omega,by omega,M.r.s1,M.r.s3,λr h=>?_⟩,?_,λw f=>?_⟩
 .obtain ⟨x,d,rfl⟩:=AX.mp h
  obtain⟨q,c,rfl⟩:=m9 M.r K d
  refine⟨by rw[AA,vW,AA,(M.r.at c).2.1],λj g=>?_⟩
  obtain⟨y,i,rfl⟩:=AX.mp g
  have b:=zB (zH (E4 T.len) d i)
  have:=(AU.mp b).1
  rw[T.len]at this
  grind
 .unfold eR;rw[AA,aI3 T,a]
 .obtain ⟨q,c,rfl⟩:=AX.mp f
  exact(M.w (aLP M.r K q c)).1
end
section
variable{after1 after2:Dz->List Dz}{x1 x2:Dz}{Rl:Dz->Dz->Prop}
theorem aNV(h1:∀ x y x' y',Rl x y->Rl x' y'->(x=x'↔y=y')){ps:List (Dz×Dz)}{q:Dz×Dz}(a:∀ p∈ps,Rl p.1 p.2)(b:Rl q.1 q.2):q.1∈ps.map (·.1)↔q.2∈ps.map (·.2):=by grind
theorem aBH(h1:∀ x y x' y',Rl x y->Rl x' y'->(x=x'↔y=y')):∀ (qs ps:List (Dz×Dz)),(∀ p∈ps,Rl p.1 p.2)->(∀ q∈qs,Rl q.1 q.2)->∃ ps':List (Dz×Dz),adA (ps.map (·.1)) (qs.map (·.1))=ps'.map (·.1)/\adA (ps.map (·.2)) (qs.map (·.2))=ps'.map (·.2)/\∀ p∈ps',Rl p.1 p.2
 | [],ps,hp,_=>⟨ps,rfl,rfl,hp⟩
 | q::qs,ps,hp,hq=>by
  have hq0:=hq q AV
  have e:=aNV h1 hp hq0
  by_cases h:q.1∈ps.map (·.1)
  .obtain ⟨ps',a,b,c⟩:=aBH h1 qs ps hp λy d=>hq y (AL _ d)
   refine⟨ps',?_,?_,c⟩
   .show adA (adQ _ _) _=_;rw[mG h];exact a
   .show adA (adQ _ _) _=_;rw[mG (e.mp h)];exact b
  .obtain ⟨ps',a,b,c⟩:=aBH h1 qs (ps++[q]) (λy d=>by
    rcases BX.mp d with z|z
    · grind
    · rw [A8.mp z]; exact hq0) λy d => hq y (AL _ d)
   rw[BL]at a b
   refine⟨ps',?_,?_,c⟩
   .show adA (adQ _ _) _=_;rw[kI h];exact a
   .show adA (adQ _ _) _=_;rw[kI λz=>h (e.mpr z)];exact b
theorem aRB(h0:Rl x1 x2)(e:∀ x y,Rl x y->∃ qs:List (Dz×Dz),after1 x=qs.map (·.1)/\after2 y=qs.map (·.2)/\∀ q∈qs,Rl q.1 q.2)(h1:∀ x y x' y',Rl x y->Rl x' y'->(x=x'↔y=y'))(n:Nat):∃ ps:List (Dz×Dz),bfQ after1 x1 n=ps.map (·.1)/\bfQ after2 x2 n=ps.map (·.2)/\∀ p∈ps,Rl p.1 p.2:=by
 induction n with
 | zero=>exact⟨[(x1,x2)],rfl,rfl,λp f=>by rw[A8.mp f];exact h0⟩
 | succ n ih=>
  obtain⟨ps,a,b,c⟩:=ih
  rw[bfQ,bfQ,a,b,AG,AG]
  cases q:ps[n]? with
  | none=>exact⟨ps,rfl,rfl,c⟩
  | some p=>
   obtain⟨qs,e1,e2,d⟩:=e p.1 p.2 (c p (AH q))
   obtain⟨g,i,h,j⟩:=aBH h1 qs ps c d
   grind
theorem aHI(h1:∀ x y x' y',Rl x y->Rl x' y'->(x=x'↔y=y')){q:Dz×Dz}(a:Rl q.1 q.2):∀ (ps:List (Dz×Dz)),(∀ p∈ps,Rl p.1 p.2)->nrQ (ps.map (·.1)) q.1=nrQ (ps.map (·.2)) q.2
 | [],_=>rfl
 | p::t,hp=>by
  have ih:=aHI h1 a t λy b=>hp y (AL _ b)
  have e:=h1 _ _ _ _ (hp p AV) a
  unfold nrQ at ih ⊢
  grind
end
section
variable{r1 r2:List (List Nat)}{w1 w2:List Str}{sg:Nat}{L1 L2:List Nat}{N1 N2:Nat}
def EqX(r1 r2:List (List Nat))(w1 w2:List Str)(sg x y:Nat):Prop:=∀ w,Sgs sg w->w1.getD (fN r1 x w) ""=w2.getD (fN r2 y w) ""
theorem EqX.on{x y c:Nat}(h:EqX r1 r2 w1 w2 sg x y)(e:cP sg c=true):EqX r1 r2 w1 w2 sg (eG r1 x c) (eG r2 y c):=λw a=>h (c::w) λd b=>by
 rcases A6.mp b with q|q
 · grind
 · exact a d q
def RlX(r1 r2:List (List Nat))(w1 w2:List Str)(sg:Nat)(L1 L2:List Nat)(a b:Dz):Prop:=∃ x y:Nat,a=.int (x:Int)/\b=.int (y:Int)/\x < r1.length/\y < r2.length/\L1.getD x 0=x/\L2.getD y 0=y/\EqX r1 r2 w1 w2 sg x y
theorem aHJ(M:Rdr r1 sg){x:Nat}(hx:x < r1.length):r1.getD x []=(List.range sg).map λk=>eG r1 x (97+k):=by
 have b:=M.at hx
 refine D3 λk=>?_
 rw[AG]
 by_cases a:k < sg
 .have:=(kJ M hx (c:=97+k) (by unfold cP;exact AJ (by omega))).1
  grind
 .grind
theorem aLQ(M1:Rdr r1 sg)(M2:Rdr r2 sg)(i:Lk r1 w1 sg L1)(g:Lk r2 w2 sg L2):∀ a b,RlX r1 r2 w1 w2 sg L1 L2 a b->∃ qs:List (Dz×Dz),afL r1 L1 a=qs.map (·.1)/\afL r2 L2 b=qs.map (·.2)/\∀ q∈qs,RlX r1 r2 w1 w2 sg L1 L2 q.1 q.2:=by
 rintro _ _ ⟨x,y,rfl,rfl,hx,hy,_,_,h⟩
 refine⟨(List.range sg).map λk=>(.int (L1.getD (eG r1 x (97+k)) 0:Int),.int (L2.getD (eG r2 y (97+k)) 0:Int)),?_,?_,λq m=>?_⟩
 .rw[vW,aHJ M1 hx,AZ,AZ];rfl
 .rw[vW,aHJ M2 hy,AZ,AZ];rfl
 .obtain ⟨k,n,rfl⟩:=AX.mp m
  have c:cP sg (97+k)=true:=by unfold cP;exact AJ (by have:=A7.mp n;omega)
  have f:=(kJ M1 hx c).2
  have d:=(kJ M2 hy c).2
  have j:=i.at_ _ f
  have l:=g.at_ _ d
  refine⟨_,_,rfl,rfl,EJ j.2.1 f,EJ l.2.1 d,i.idem f,g.idem d,λw e=>?_⟩
  rw[<-j.2.2.1 w e,<-l.2.2.1 w e]
  exact h.on c w e
theorem aRC(f:Lk r1 w1 sg L1)(d:Lk r2 w2 sg L2):∀ a b a' b',RlX r1 r2 w1 w2 sg L1 L2 a b->RlX r1 r2 w1 w2 sg L1 L2 a' b'->(a=a'↔b=b'):=by
 rintro _ _ _ _ ⟨x,y,rfl,rfl,hx,hy,fx,fy,h⟩ ⟨x',y',rfl,rfl,hx',hy',fx',fy',h'⟩
 constructor
 .intro e
  injection e with e
  obtain rfl:x=x':=by omega
  have:EqA r2 w2 sg y y':=λw c=>(h w c).symm.trans (h' w c)
  rw[<-fy,<-fy',(d.iff hy hy').mpr this]
 .intro e
  injection e with e
  obtain rfl:y=y':=by omega
  have:EqA r1 w1 sg x x':=λw c=>(h w c).trans (h' w c).symm
  rw[<-fx,<-fx',(f.iff hx hx').mpr this]
theorem aI4(M1:Rdw r1 w1 sg)(M2:Rdw r2 w2 sg)(e:Lk r1 w1 sg L1)(d:Lk r2 w2 sg L2)(m:Lst r1 w1 L1 N1)(k:Lst r2 w2 L2 N2)(h:EqX r1 r2 w1 w2 sg 0 0) :
  N1=N2/\dE r1 L1 N1=dE r2 L2 N2/\eR r1 w1 L1 N1=eR r2 w2 L2 N2:=by
 have A:=(e.at_ 0 M1.r.n1).2.1
 have z:=(d.at_ 0 M2.r.n1).2.1
 have t:RlX r1 r2 w1 w2 sg L1 L2 (.int 0) (.int 0):=⟨0,0,rfl,rfl,M1.r.n1,M2.r.n1,by omega,by omega,h⟩
 have j:=aLQ M1.r M2.r e d
 have h1:=aRC (w1:=w1) (w2:=w2) e d
 have l:=aRB t j h1
 have o:∀ n,(bfQ (afL r1 L1) (.int 0) n).length=(bfQ (afL r2 L2) (.int 0) n).length:=λn=>by
  obtain⟨ps,a,b,_⟩:=l n
  grind
 have v:N1=N2:=by
  rcases D0 N1 N2 with q|q|q
  .have:=k.on N1 q
   have a:=m.len
   grind
  .exact q
  .have:=m.on N2 q
   have a:=k.len
   grind
 subst v
 obtain⟨ps,a,b,c⟩:=l N1
 refine⟨rfl,?_,?_⟩
 .unfold dE
  rw[a,b,AZ,AZ]
  refine BH λp f=>?_
  obtain⟨qs,e1,e2,u⟩:=j p.1 p.2 (c p f)
  show(afL r1 L1 p.1).map _=(afL r2 L2 p.2).map _
  rw[e1,e2,AZ,AZ]
  refine BH λq g=>?_
  exact aHI h1 (u q g) ps c
 .unfold eR roomsL
  rw[a,b,AZ,AZ,AZ,AZ]
  refine BH λp f=>?_
  obtain⟨x,y,e1,e2,w,B,_,_,i⟩:=c p f
  show w1.getD (match p.1 with | .int q=>q.toNat|_=>0) ""=w2.getD (match p.2 with | .int q=>q.toNat|_=>0) ""
  rw[e1,e2]
  show w1.getD ((x:Int)).toNat ""=w2.getD ((y:Int)).toNat ""
  rw[show((x:Int)).toNat=x by omega,show((y:Int)).toNat=y by omega]
  exact i [] λc s=>by simp at s
end
end Mc
namespace Fl
open L2 PyProof.Rows
end Fl
namespace Mc
open L2 PyProof.Rows Fl
noncomputable def afW(rs:List Rw)(sg:Nat)(x:Dz):List Dz:=(List.range sg).map (aIY rs x)
noncomputable def bfW(rs:List Rw)(sg n:Nat):List Dz:=bfQ (afW rs sg) (bF rs []) n
noncomputable def adZ(rs:List Rw)(zs:List (List Nat))(z:List Nat):List (List Nat):=if bF rs z∈zs.map (bF rs)then zs else zs++[z]
def vX(sg:Nat)(z:List Nat):List (List Nat):=(List.range sg).map λk=>z++[97+k]
noncomputable def zsW(rs:List Rw)(sg:Nat):Nat->List (List Nat)
 | 0=>[[]]
 | n+1=>match (zsW rs sg n)[n]? with
  | some z=>(vX sg z).foldl (adZ rs) (zsW rs sg n)
  | none=>zsW rs sg n
theorem aRD(rs:List Rw)(zs:List (List Nat))(z:List Nat):(adZ rs zs z).map (bF rs)=adQ (zs.map (bF rs)) (bF rs z):=by
 unfold adZ adQ
 grind
theorem aNW(rs:List Rw)(l:List (List Nat)):∀ zs:List (List Nat),(l.foldl (adZ rs) zs).map (bF rs)=adA (zs.map (bF rs)) (l.map (bF rs)):=by
 induction l with
 | nil=>intro zs;rfl
 | cons z t ih=>intro zs;rw[EE,ih,aRD];rfl
theorem adZ_mem{rs:List Rw}{zs:List (List Nat)}{z x:List Nat}(h:x∈adZ rs zs z):x∈zs\/x=z:=by
 unfold adZ at h
 grind
theorem adZs_mem{rs:List Rw}{x:List Nat}(l:List (List Nat)):∀ {zs:List (List Nat)},x∈l.foldl (adZ rs) zs->x∈zs\/x∈l:=by
 induction l with
 | nil=>intro zs h;exact .inl h
 | cons z t ih=>
  intro zs h
  rcases ih (zs:=adZ rs zs z) h with h|h
  .rcases adZ_mem h with h|h
   · grind
   · grind
  .grind
theorem aE8{rs:List Rw}{sg:Nat}{z:List Nat}(M:Mach rs sg)(S:bK sg z):(vX sg z).map (bF rs)=afW rs sg (bF rs z):=by
 unfold vX afW
 rw[AZ]
 exact BH λk a=>(aBF M S (A7.mp a)).symm
structure ZsOk(rs:List Rw)(sg n:Nat)(zs:List (List Nat)):Prop where
 map:zs.map (bF rs)=bfW rs sg n
 ok:∀ z∈zs,bK sg z/\z.length<=n
theorem aRE{sg n:Nat}{z x:List Nat}(S:bK sg z)(c:z.length<=n)(b:n < 900)(h:x∈vX sg z):bK sg x/\x.length<=n+1:=by
 obtain⟨k,a,rfl⟩:=AX.mp h
 exact⟨zE S (A7.mp a) (by omega),by simp;omega⟩
theorem qX{rs:List Rw}{sg:Nat}(M:Mach rs sg):∀ n,n<=900->ZsOk rs sg n (zsW rs sg n):=by
 intro n
 induction n with
 | zero=>exact λ_=>⟨rfl,λz a=>by rw[A8.mp a];exact⟨⟨by simp,λc d=>by simp at d⟩,by simp⟩⟩
 | succ n ih=>
  intro f
  obtain⟨h1,h2⟩:=ih (by omega)
  unfold bfW at h1
  have e:(bfQ (afW rs sg) (bF rs []) n)[n]? = ((zsW rs sg n)[n]?).map (bF rs):=by rw[<-h1,AG]
  cases q:(zsW rs sg n)[n]? with
  | none=>
   rw[q]at e
   refine⟨?_,λz a=>?_⟩
   .unfold bfW
    rw[zsW,bfQ,q,e];exact h1
   .rw[zsW,q]at a
    grind
  | some z=>
   rw[q]at e
   have a:=h2 z (AH q)
   refine⟨?_,λx b=>?_⟩
   .unfold bfW
    rw[zsW,bfQ,q,e]
    simp only[FC]
    rw[aNW,h1,aE8 M a.1]
   .rw[zsW,q]at b
    rcases adZs_mem _ b with b|b
    · grind
    · exact aRE a.1 a.2 (by omega) b
structure EndW(rs:List Rw)(sg most N:Nat):Prop where
 on:∀ m,m < N->m < (bfW rs sg m).length/\(bfW rs sg m).length<=most
 off:(bfW rs sg N).length<=N\/most < (bfW rs sg N).length
theorem aNX{P:Nat->Prop}:∀ K:Nat,P K->∃ n,n<=K/\P n/\∀ m,m < n->¬ P m:=by
 intro K
 induction K using Nat.strongRecOn with
 | _ K ih=>
  grind
theorem aHK(rs:List Rw)(sg a:Nat):∃ N,N<=a/\EndW rs sg a N:=by
 obtain⟨n,h1,h2,c⟩:=aNX (P:=λn=>(bfW rs sg n).length<=n\/a < (bfW rs sg n).length) a (by omega)
 exact⟨n,h1,λm b=>by have:=c m b;omega,h2⟩
theorem EndW.full{rs:List Rw}{sg a N:Nat}(E:EndW rs sg a N)(h:(bfW rs sg N).length<=a):(bfW rs sg N).length=N:=by
 rcases E.off with q|q
 .cases N with
  | zero=>have:(bfW rs sg 0).length=1:=rfl;omega
  | succ n=>
   have h1:=(E.on n (by omega)).1
   have h2:(bfW rs sg n).length<=(bfW rs sg (n+1)).length:=(m8 _ _ n).length_le
   omega
 .omega
noncomputable def aWU(rs:List Rw)(sg:Nat):Sq where
 after:=afW rs sg
 x0:=bF rs []
 stop fs _:=decide (200 < fs.length)
 k1:=4
 k2:=1
 G:=iT 2 eW [.d (.list ((List.range sg).map (gX rs)))]
 D:=iT 2 gC []
theorem uI{rs:List Rw}{sg n:Nat}(M:Mach rs sg)(a:n<=900){x:Dz}(h:x∈bfW rs sg n):∃ z,bK sg z/\x=bF rs z:=by
 obtain⟨h1,h2⟩:=qX M n a
 grind
theorem aLR{rs:List Rw}{sg:Nat}{z:List Nat}(M:Mach rs sg)(S:bK sg z):k8 (bF rs z)=true:=by
 obtain⟨a,b⟩:=aQ4 M S
 exact aQ5 a b
theorem aHL{rs:List Rw}{sg a N:Nat}(M:Mach rs sg)(E:EndW rs sg a N)(d:1<=a):(bfW rs sg N).length<=a+3:=by
 cases N with
 | zero=>show 1<=a+3;omega
 | succ n=>
  obtain⟨h1,h2⟩:=E.on n (by omega)
  have b:(bfQ (afW rs sg) (bF rs []) n)[n]? = some (bfQ (afW rs sg) (bF rs []) n)[n]:=AW h1
  have c:=aQZ (afW rs sg (bfQ (afW rs sg) (bF rs []) n)[n]) (bfQ (afW rs sg) (bF rs []) n)
  rw[<-o6 b]at c
  have e:(afW rs sg (bfQ (afW rs sg) (bF rs []) n)[n]).length=sg:=by unfold afW;simp
  have:=M.sg3
  unfold bfW at h2 ⊢
  omega
theorem aRF{rs:List Rw}{sg N:Nat}(M:Mach rs sg)(E:EndW rs sg 200 N)(j:N<=200):(aWU rs sg).ok N where
 on m h:=⟨(E.on m h).1,A1 (by have:=(E.on m h).2;unfold bfW at this;show ¬ 200 < (bfQ (afW rs sg) (bF rs []) m).length;omega)⟩
 off:=E.off.imp id λh=>AJ h
 key:=.inl λx b=>by
  obtain⟨z,S,rfl⟩:=uI M (by omega) (show x∈bfW rs sg N from b)
  exact aLR M S
 len:=by have:=aHL M E (by omega);show(bfW rs sg N).length<=_;omega
 hk1:=by show 4<=12;decide
 hk2:=by show 1<=12;decide
 hG m x hm b:=by
  obtain⟨z,S,rfl⟩:=uI M (show N<=900 by omega) (AH b)
  have e:=cU (fs:=stN 0) (fe:=eA (aY 2 i6 (aA (vV 1) (aA (vV 0) aL)))) (ρ0:=[none,some (.d (bF rs z))]) (d:=gX rs) (g:=aIY rs (bF rs z)) (xs:=List.range sg) λk a=>by
   refine⟨_,rfl,?_⟩
   have a:=A7.mp a
   have:=aEV M S (c:=97+k) (by unfold cP;exact AJ (by omega))
   rw[show 97+k - 97=k by omega,<-aBF M S a]at this
   simp[this]
  have hi:=m4 (xs:=(List.range sg).map (gX rs)) (by have:=M.sg3;simp;omega)
  have f:(afW rs sg (bF rs z)).length=sg:=by unfold afW;simp
  have i:=M.sg3
  refine⟨⟨.list (afW rs sg (bF rs z)),?_,m4 (by omega)⟩,by show(afW rs sg (bF rs z)).length<=_;omega⟩
  show iT 2 eW [.d (.list ((List.range sg).map (gX rs)))] [bF rs z]=_
  unfold iT eW
  simp[hi,eJ,e,dOf]
  rfl
 hD m hm f:=by
  show iT 2 gC [] [.list (bfW rs sg m),.int (m:Int)]=.ok (.bool (decide (200 < (bfW rs sg m).length)))
  unfold iT gC
  simp[kS,dOf]
  omega
noncomputable def aI5(rs:List Rw)(sg N:Nat):Dz:=.tuple [.tuple (gD (afW rs sg) (bfW rs sg N) N),.tuple ((zsW rs sg N).map λz=>.str (gY rs z))]
theorem aLS{rs:List Rw}{sg N:Nat}(M:Mach rs sg)(E:EndW rs sg 200 N)(x:N<=200):dC [.d (aC rs)]=if 200 < (bfW rs sg N).length then .ex ⟨"TooMany",[]⟩else .ok (.d (aI5 rs sg N)):=by
 have O:=aRF M E x
 have e:=aUA O
 obtain⟨r,t,m,v⟩:=M.cons
 have f:cN [.d (aC rs)]=.ok (.d (.int sg)):=by rw[m,m6,v]
 have b:=pN (n:=sg) (by have:=M.sg3;omega)
 have k:=aT5 M [some (.d (aC rs)),none,none,none,none] rfl
 rw[show eJ [none,some 0] [some (.d (aC rs)),none,none,none,none]=[none,some (.d (aC rs))]from rfl]at k
 have q:=aVK M
 have Z:=qX M N (by omega)
 have a:=cU (fs:=stN 0) (fe:=eA (aY 2 fO (aA (vV 1) (aA (vV 0) aL)))) (ρ0:=[none,some (.d (aC rs))]) (d:=bF rs) (g:=λz=>.str (gY rs z)) (xs:=zsW rs sg N) λz y=>by
  refine⟨_,rfl,?_⟩
  have:=aUE M (Z.ok z y).1
  simp[this]
 rw[Z.map]at a
 have s:=aHL M E (by omega)
 have l:=m4 (xs:=bfW rs sg N) (by omega)
 have e:hV [.d (bF rs []),.g 4 1 (iT 2 eW [.d (.list ((List.range sg).map (gX rs)))]),.g 1 2 (iT 2 gC [])]=.ok (.d (.tuple [.list (bfW rs sg N),.list (gD (afW rs sg) (bfW rs sg N) N)])):=e
 generalize c:gD (afW rs sg) (bfW rs sg N) N=i at e
 have u:i.length<=16777216:=by rw[<-c];unfold gD;rw[AA,CL];omega
 have p:dIx (.tuple [.list (bfW rs sg N),.list i]) (.int 0)=.ok (.list (bfW rs sg N)):=rfl
 have o:dIx (.tuple [.list (bfW rs sg N),.list i]) (.int 1)=.ok (.list i):=rfl
 have w:(zsW rs sg N).length<=16777216:=by
  have:((zsW rs sg N).map (bF rs)).length<=16777216:=by rw[Z.map];omega
  grind
 by_cases h:200 < (bfW rs sg N).length
 .have j:(200:Int) < ((bfW rs sg N).length:Int):=by omega
  rw[AD h]
  unfold dC pJ
  simp[f,b,k,q,vI,oV,sA,aAZ,iU,vJ,e,dOf,p,o,kS,j,mU,few,eJ]
 .have j:¬ (200:Int) < ((bfW rs sg N).length:Int):=by omega
  rw[AE h]
  unfold dC pJ aI5
  rw[c]
  simp[f,b,k,q,vI,oV,sA,aAZ,iU,vJ,e,dOf,p,o,kS,j,l,eJ,a]
section
variable{rs:List Rw}{sg N:Nat}
structure Wy(rs:List Rw)(sg N:Nat):Prop where
 m:Mach rs sg
 len:(bfW rs sg N).length=N
 n:N<=200
noncomputable def jB(rs:List Rw)(sg N:Nat):List (List Nat):=(bfW rs sg N).map λx=>(afW rs sg x).map (nrQ (bfW rs sg N))
noncomputable def iY(rs:List Rw)(sg N:Nat):List Str:=(zsW rs sg N).map (gY rs)
theorem aUL(W:Wy rs sg N):aI5 rs sg N=rdW (jB rs sg N) (iY rs sg N):=by
 unfold aI5 rdW rdD gD jB iY aBC
 rw[GV (by rw[W.len];exact AQ _),AZ,AZ]
 rfl
theorem aUM(W:Wy rs sg N)(E:EndW rs sg 200 N):dC [.d (aC rs)]=.ok (.d (rdW (jB rs sg N) (iY rs sg N))):=by
 have h:=aLS W.m E W.n
 rw[AE (by have:=W.len;have:=W.n;omega),aUL W]at h
 exact h
theorem Wy.pos(W:Wy rs sg N):0 < N:=by
 have:=W.len
 cases N with
 | zero=>simp[bfW,bfQ]at this
 | succ n=>omega
theorem Wy.zlen(W:Wy rs sg N):(zsW rs sg N).length=N:=by
 have h:=(qX W.m N (by have:=W.n;omega)).map
 have:=DF List.length h
 rw[AA,W.len]at this
 grind
theorem Wy.at_(W:Wy rs sg N){i:Nat}(hi:i < N):∃ z,(zsW rs sg N)[i]? = some z/\(bfW rs sg N)[i]? = some (bF rs z)/\bK sg z/\z.length<=N:=by
 have ok:=qX W.m N (by have:=W.n;omega)
 have b:=W.zlen
 have a:(zsW rs sg N)[i]? = some (zsW rs sg N)[i]:=AW (by omega)
 refine⟨_,a,?_,ok.ok _ (GD _)⟩
 rw[<-ok.map,AG,a];rfl
theorem Wy.rows_len(W:Wy rs sg N):(jB rs sg N).length=N:=by unfold jB;rw[AA,W.len]
theorem Wy.on(W:Wy rs sg N){i c:Nat}{z:List Nat}(hi:(bfW rs sg N)[i]? = some (bF rs z))(S:bK sg z)(h:z.length < 1000)(f:cP sg c=true) :
  eG (jB rs sg N) i c < N/\(bfW rs sg N)[eG (jB rs sg N) i c]? = some (bF rs (z++[c])):=by
 obtain⟨j,d⟩:=zG f
 have a:=aBF W.m S (k:=c - 97) d
 rw[show 97+(c - 97)=c by omega]at a
 have g:bF rs (z++[c])∈bfW rs sg N:=zH (by have:=W.len;unfold bfW at this;omega) (AH hi) (by
  unfold afW
  exact AX.mpr ⟨c - 97,A7.mpr d,a⟩)
 have e:eG (jB rs sg N) i c=nrQ (bfW rs sg N) (bF rs (z++[c])):=by
  unfold eG jB
  rw[AI (l:=List.map _ _),AG,hi]
  show((afW rs sg (bF rs z)).map (nrQ (bfW rs sg N))).getD (c - 97) 0=_
  unfold afW
  grind
 have b:=zB g
 rw[e]
 exact⟨by have:=(AU.mp b).1;have:=W.len;omega,b⟩
theorem aF1(M:Mach rs sg){z b:List Nat}(S:bK sg z)(c:bK sg b)(h:bF rs z=bF rs b):gY rs z=gY rs b:=by
 have a:=zF M S
 rw[h,zF M c]at a
 grind
theorem Wy.word(W:Wy rs sg N){i:Nat}{z:List Nat}(hi:(bfW rs sg N)[i]? = some (bF rs z))(S:bK sg z):(iY rs sg N).getD i ""=gY rs z:=by
 have a:=(AU.mp hi).1
 rw[W.len]at a
 obtain⟨c,h1,h2,b,_⟩:=W.at_ a
 rw[hi]at h2
 unfold iY
 rw[AI,AG,h1]
 exact aF1 W.m b S (B5 h2).symm
theorem Wy.run(W:Wy rs sg N):∀ (y:List Nat) {i:Nat} {z:List Nat},(bfW rs sg N)[i]? = some (bF rs z)->bK sg (z++y)->(bfW rs sg N)[fN (jB rs sg N) i y]? = some (bF rs (z++y))
 | [],i,z,hi,_=>by rw[CT];exact hi
 | c::t,i,z,hi,S=>by
  have hc:cP sg c=true:=S.2 c (by simp)
  have a:z.length < 1000:=by have:=S.1;simp at this;omega
  have Sz:bK sg z:=⟨by omega,λd b=>S.2 d (B9 _ b)⟩
  have h:=(W.on hi Sz a hc).2
  have e:z++c::t=(z++[c])++t:=by simp
  rw[e]at S ⊢
  exact W.run t h S
theorem Wy.says(W:Wy rs sg N){z:List Nat}(S:bK sg z):(iY rs sg N).getD (fN (jB rs sg N) 0 z) ""=gY rs z:=by
 have a:(bfW rs sg N)[0]? = some (bF rs []):=bfQ_zero _ _ _
 have:=W.run z a S
 exact W.word this S
theorem Wy.rdw(W:Wy rs sg N):Rdw (jB rs sg N) (iY rs sg N) sg:=by
 have s1:=W.m.sg1
 have k:=W.m.sg3
 have n:=W.n
 have i:=W.pos
 have a:=W.rows_len
 refine⟨⟨by omega,by omega,by omega,by omega,λr c=>?_⟩,?_,λw b=>?_⟩
 .unfold jB at c
  obtain⟨x,f,rfl⟩:=AX.mp c
  refine⟨by rw[AA];unfold afW;rw[AA,A0],λj e=>?_⟩
  obtain⟨y,h,rfl⟩:=AX.mp e
  have g:y∈bfW rs sg N:=zH (by have:=W.len;unfold bfW at this;omega) f h
  have:=(AU.mp (zB g)).1
  have:=W.len
  omega
 .unfold iY;rw[AA,W.zlen,a]
 .unfold iY at b
  obtain⟨z,d,rfl⟩:=AX.mp b
  exact aNM W.m ((qX W.m N (by omega)).ok z d).1
end
section
variable{a0:List (List Nat)}{ws:List Str}{sg:Nat}
end
end Mc
namespace Fl
open L2 PyProof.Rows
def BxK(c:Ct)(E':XK)(σ:L2.St)(D:lG)(F H:Hp):R Unit->Prop
 | .bad=>False
 | .ok _=>∀ F' H',Ext F H F' H'->D.nx σ H'
 | .ex e=>∀ a C F' H',Ext F H F' H'->lX c.K c.mg F' e a C->E' (.ref C) (some a) H'
theorem BxK.ext{c:Ct}{E':XK}{σ:L2.St}{D:lG}{F H F1 H1:Hp}(s:Ext F H F1 H1):∀ {r:R Unit},BxK c E' σ D F H r->BxK c E' σ D F1 H1 r
 | .bad,h=>h
 | .ok _,h=>λb H' e=>h b H' (s.trans e)
 | .ex _,h=>λa C b H' e=>h a C b H' (s.trans e)
def aMB:Sg->R Unit:=λ_=>.ok ()
theorem lH{a es:List E1}{k:Nat}{p:Pos}{env:Env}:starEach (.Tuple a k p::es) env=(false,eval (.Tuple a k p) env)::starEach es env:=by rfl
theorem aRG{X:Cx}{c:Ct}{E:XK}{a:List Stmt}:lY X c E a aS5:=λ_ _ _ _ _ _ ⟨_,_,_,k⟩=>k.elim
end Fl
namespace L2
open PySem.Spec PyProof.Rows
end L2
namespace Fl
open L2 PyProof.Rows
section
variable{X:Cx}{c:Ct}{E:XK}{e o:E1}{es:List E1}{pos apos:Pos}
theorem tM{V W:Type}{g:Str}:∀ {fvs:List (Str×V)} {fs:List (Str×W)},fvs.map (·.1)=fs.map (·.1)->fs.lookup g=none->fvs.lookup g=none
 | [],[],_,_=>rfl
 | [],_::_,h,_=>by simp at h
 | _::_,[],h,_=>by simp at h
 | (a,v)::fvs,(b,x)::fs,h,e=>by
  rw[A4,A4]at h
  injection h with h1 h2
  simp only at h1
  subst h1
  rw[CM]at e ⊢
  cases q:(g == a)with
  | true=>rw[q]at e;cases e
  | false=>rw[q]at e;exact tM h2 e
end
def rLI(K:Frag):V->List V->Hp->VK->Prop:=λx vs H Q=>∃ xs d u j,vs=[u]/\DatV K H x (.list xs)/\DatV K H u d/\SeqAt.shaped d=true/\SeqAt.shaped (.list xs)=true/\xs.length<=16777216/\(xs.findIdx? λy=>PyData.eqv y d)=some j/\Q (.int j) H
theorem aCF{X:Cx}(P:X.A.units+64 < cLine):MtR X "list.index" (rLI X.K):=by
 intro a5 s σ H x vs v us Q I N D h
 obtain⟨xs,d,u,j,rfl,J,G,s1,t,S,w,q⟩:=h
 obtain⟨B,rfl,E⟩:=D.one
 obtain⟨T,r1⟩:=DatV.reads I J (lK t) N
 obtain⟨bs,r2⟩:=DatV.reads I G (lK s1) E
 have k:=rX t
 have f:=rY (b:=d.depth) k.2
 cases r1 with
 | list h1 h2 h3 h4=>
  rename_i a o c n M
  have e:=SeqAt.readsAll_map _ _ _ k.1 h4
  obtain⟨O,od,R,sl⟩:=o
  dsimp only at h2 h3
  subst h2 h3
  have g:c.toList.length=xs.length:=by rw[<-e,AA]
  have C:c.size=xs.length:=by rw[<-g,D9]
  rw[List.findIdx?_eq_some_iff_getElem]at w
  obtain⟨L,l,i⟩:=w
  have r:∀ m (f:m < c.size),PyData.eqv (SeqAt.readOf s.heap c[m]) d=PyData.eqv (xs[m]'(by omega)) d:=λm f=>by
   have:SeqAt.readOf s.heap c[m]=xs[m]'(by omega):=by
    have z:(c.toList.map (SeqAt.readOf s.heap))[m]'(by rw[AA];simpa using f)=xs[m]'(by omega):=by simp only[e]
    rw[List.getElem_map]at z
    simpa using z
   rw[this]
  refine DQ EM ⟨_,h1,rfl⟩ PySem.F.entry_list_index (PySem.F.args_list_index_2 _ _) (SeqAt.list_indexAt a c n od sl B (λy=>PyData.eqv (SeqAt.readOf s.heap y) d) j (by omega) (by omega) (by rw[r j (by omega)];exact l) (λm f p=>by rw[r m f];exact Bool.eq_false_iff.mpr (i m p))) ⟨h1,SeqAt.items_eqAt h4 r2 k.1 (hU s1) (by omega),.int j,H,I.tok _,⟨_,rfl⟩,q⟩
def aI6:Dz->Dz->R Dz
 | .list xs,x=>if SeqAt.shaped x=true/\SeqAt.shaped (.list xs)=true/\xs.length<=16777216 then(match xs.findIdx? λy=>PyData.eqv y x with|some j=>.ok (.int j)|none=>.bad)else .bad
 | _,_=>.bad
def isL:Dz->Bool
 | .list _=>true
 | _=>false
def aNY(f g:Sg->R Dz):Sg->R Dz:=λρ=>(f ρ).bind λx=>if isL x=true then(g ρ).bind λy=>aI6 x y else .bad
theorem aCG{X:Cx}{c:Ct}{E:XK}{e:E1}{f g:Sg->R Dz}(b:X.K=c.K)(h:PE X e (tBM X.K "list" (rLI X.K) (tV (cF c) c E f) (eK (tV (cF c) c E g) jN))):PD X c E e (aNY f g):=PE.imp h λσ H Q ⟨ρ,F,ab,k⟩=>by
 refine⟨ρ,F,ab,(Rk.bind k).imp λx ex q v l H1 s1 r1=>?_⟩
 cases x with
 | list xs=>
  have i:Rk c E F H (g ρ) _:=Rk.bind (f:=λy=>aI6 (.list xs) y) q
  obtain⟨p,vs,rfl,h1,h2⟩:=bJ.lst_of s1.fh r1
  refine⟨.inl ⟨rfl,vs,by rw[b];exact h1⟩,ρ,l,ab.ext s1,(i.ext s1).imp λy _ q u m H2 a r2=>?_⟩
  unfold aI6 at q
  dsimp only at q
  split at q
  .rename_i d
   split at q
   .rename_i j n
    exact⟨xs,y,u,j,rfl,by rw[b];exact(bJ.ext a r1).heap a.fh,by rw[b];exact r2.heap a.fh,d.1,d.2.1,d.2.2,n,Rk.ok q _ m H2 (s1.trans a) (.int _)⟩
   .exact q.elim
  .exact q.elim
 | _=>exact q.elim
structure OwnL(c:Ct)(F H:Hp)(σ:L2.St)(i:Nat)(p:Az)(qs:List Az)(vss:List (List V)):Prop where
 s:σ[i]? = some (some (.ref p))
 hp:H p=some (.lst (qs.map V.ref))
 fp:F p=none
 p0:c.H0 p=none
 np:p∉qs
 nd:qs.Nodup
 len:vss.length=qs.length
 q:∀ (j:Nat) (q:Az) (vs:List V),qs[j]? = some q->vss[j]? = some vs->H q=some (.lst vs)/\F q=none/\c.H0 q=none
theorem OwnL.ext{c:Ct}{F H g H':Hp}{σ:L2.St}{i:Nat}{p:Az}{qs:List Az}{f:List (List V)}(h:OwnL c F H σ i p qs f)(e:Ext F H g H'):OwnL c g H' σ i p qs f:=
 ⟨h.s,e.hh _ _ h.hp,e.stay h.fp h.hp (λ_ z=>nomatch z),h.p0,h.np,h.nd,h.len,λj q vs h1 h2=>by
  obtain⟨a,b,d⟩:=h.q j q vs h1 h2
  exact⟨e.hh _ _ a,e.stay b a (λ_ z=>nomatch z),d⟩⟩
end Fl
namespace L2
open PySem.Spec PyProof.Rows
theorem aRH{prog:P9}{w:W9}{A:U9}{E:V9->S9->Prop}{s:S9}{l:Az}{items:Array V9}{k:Nat}{x:Int}{u:Tok}{Q:V9->S9->Prop}
  (a:s.heap.get? l=some {cls:=.type "list",dict:=none,data:=.seq items k,slots:=#[]})
  (hlo : -(2 ^ 63:Int)<=x) (hhi:x < 2 ^ 63) (hsz:items.size * x.toNat<=2 ^ 24)
  (h:Q (.ref s.heap.objs.size) {s with heap:=s.heap.push {cls:=.type "list",data:=.seq (List.foldl (λx1 x2=>x1++x2) #[] (List.replicate (if items.isEmpty=true then 0 else x.toNat) items))}}) :
  wpAny (model prog w) A (binaryOp .Mult (.ref l) (.int x u)) Q E s:=
 F6 (T:="list") (U:="int") (by decide) ⟨_,a,rfl⟩ (λs'=>FZ s' x u) noFill_list_mul F.fills_int_mul E7 repeat_list F.slot_int_index.lookup
  (DQ E7 (FZ s x u) F.entry_int_rmul (F.args_int_rmul_2 _ _) (int___rmul___int_list x u l items k)
   ⟨a,rfl,⟨_,a,rfl⟩,DQ F.slot_list_mul ⟨_,a,rfl⟩ F.entry_list_mul (F.args_list_mul_2 _ _)
    (AutoListH.list___mul___list_int_3 l items k x u (by simp[Builtin.List.listFitsIndex];omega) (by omega) (by simp[Builtin.List.listTooLong,sizeLine];omega))
    ⟨a,h⟩⟩)
def aVT:R2:=λx y H Q=>∃ p vs i,x=.ref p/\y=.int i/\H p=some (.lst vs)/\vs≠[] /\ -(2 ^ 63:Int)<=i/\i < 2 ^ 63/\vs.length * i.toNat<=16777216/\∀ r,H r=none->Q (.ref r) (upd H r (.lst (List.replicate i.toNat vs).flatten))
theorem aRI{X:Cx}:OpR X (binaryOp .Mult) aVT:=by
 intro a5 s σ H v u x y Q I j l h
 obtain⟨p,vs,i,rfl,rfl,g,d,h1,h2,f,q⟩:=h
 cases j
 obtain⟨t,rfl⟩:=l
 obtain⟨z,a,n,r,k⟩:=(show cR X.prog X.w H s.heap p (.lst vs)from I.hok p _ g)
 have b:a.length=vs.length:=r.length.symm
 refine aRH (items:=a.toArray) k h1 h2 (by rw[BK,b];exact f) ?_
 have c:a.toArray.isEmpty=false:=by
  cases a with
  | nil=>cases vs with
   | nil=>exact absurd rfl d
   | cons _ _=>cases b
  | cons _ _=>rfl
 have e:=aAW a i.toNat []
 rw[BZ]at e
 rw[c,AE (by decide),show(#[]:Array V9)=([]:List V9).toArray from rfl,e]
 exact⟨.ref _,_,I.lnew (t':=s.toks) (Fl.xA r _) (by rw[aGA];have:sizeLine=16777216:=rfl;rw[GF]at f;omega),rfl,q _ I.fresh⟩
end L2
namespace Fl
open L2 PyProof.Rows
def sO(xs:List Dz):Dz->R (List Dz)
 | .int i=>if xs≠[] /\ -(2 ^ 63:Int)<=i/\i < 2 ^ 63/\xs.length * i.toNat<=16777216 then .ok (List.replicate i.toNat xs).flatten else .bad
 | _=>.bad
def nH(f:Sg->R (List Dz))(g:Sg->R Dz):Sg->R (List Dz):=λρ=>(f ρ).bind λxs=>(g ρ).bind λy=>sO xs y
section
variable{X:Cx}{c:Ct}{E:XK}{a b:E1}{pos:Pos}
theorem oG{h:Sg->R (List Dz)}{fb:Sg->R Dz}(m:PN X c E a h)(n:PR X c E b fb):PN X c E (.BinOp a .Mult b pos) (nH h fb):=PE.imp (aHZ aRI m n) λσ H Q ⟨ρ,F,ab,k⟩=>by
 refine⟨ρ,F,ab,(Rk.bind k).imp λxs _ q v j H1 s1 r1=>?_⟩
 obtain⟨p,vs,rfl,e1,e2,o,g⟩:=r1
 refine⟨ρ,j,ab.ext s1,((Rk.bind q).ext s1).imp λy _ q u l H2 d r2=>?_⟩
 cases y with
 | int i=>
  unfold sO at q
  dsimp only at q
  split at q
  .rename_i e
   obtain rfl:=bJ.int_of r2
   refine⟨p,vs,i,rfl,rfl,d.hh _ _ e2,λz=>e.1 ?_,e.2.1,e.2.2.1,by rw[g.length];exact e.2.2.2,λr f=>?_⟩
   .have:=g.length
    rw[z]at this
    exact DM.mp this.symm
   .exact Rk.ok q (.ref r) l _ ((s1.trans d).trans (Ext.own d.fh f)) ⟨r,_,rfl,cH (s1.trans d).hh f,bL,cH d.fh f,tW (g.same d.ff) _⟩
  .exact q.elim
 | _=>exact q.elim
end
end Fl
namespace Mc
open L2 PyProof.Rows Fl
noncomputable def aNZ:Sg->R Fw:=(aV (bT 7 (vD (e2 dIx (eL (dO (aA (eC (.str "out")) (aA (eV 0) aL)))) (e1 dInt (e2 dEq (rV 6) (rV 2))))))
 (lA 5 (cJ (aA (e2 dIx (eL (dO (aA (eC (.int 0)) (aA (eC (.str "out")) aL)))) (e1 dInt (e2 dGt (rV 6) (eC (.int 0))))) (aA (e1 dTup (eL (nH (dO (aA (cJ (aA (e2 dMod (e2 dN (rV 6) (eC (.int 1))) (rV 0)) (aA (eC (.int 1)) aL))) aL)) (rV 4)))) (aA (eV 7) aL))))))
noncomputable def aN0:Sg->R Fw:=(lA 5 (cJ (aA (e2 dIx (eL (dO (aA (eC (.str "out")) (aA (eC (.str "by")) aL)))) (e1 dInt (e2 dEq (rV 6) (rV 3)))) (aA (e1 dTup (eL (nH (dO (aA (cJ (aA (e2 dN (rV 0) (e2 dMod (e2 dN (rV 6) (eC (.int 1))) (rV 1))) (aA (e1 dNeg (eC (.int 1))) aL))) aL)) (rV 4)))) (aA (eC (.str "out")) aL)))))
noncomputable def qY:Sg->R Fw:=(aV (iI 5 (dO aL)) (aV (oR (jJ (rV 0)) (stN 6) aNZ) (aV (oR (jJ (rV 1)) (stN 6) aN0) (bS (vD (e1 dTup (rV 5)))))))
noncomputable def iZ:List A->R A:=fnF 8 qY
section
variable{a0 r1 r2:List (List Nat)}{ws w1 w2:List Str}{sg:Nat}{L:List Nat}{N:Nat}
theorem uJ(T:Lst a0 ws L N):(dE a0 L N).length=N:=by unfold dE;rw[AA,T.len]
end
section
variable{a0:List (List Nat)}{ws:List Str}{rs:List Rw}{sg N:Nat}{L:List Nat}
def dL(w:Str):Str:=if w="ever" then "out" else w
theorem stopW_is{w:Str}(h:aI1 w):dL w="by"\/dL w="out":=by
 rcases h with rfl|rfl|rfl
 · exact .inl (by decide)
 · exact .inr (by decide)
 · exact .inr (by decide)
def sP(a0:List (List Nat))(ws:List Str)(q:Nat):Rw:=⟨if q=0 then .n 0 else .w "out",(a0.getD q []).map λj:Nat=>((j:Int),1),.w (ws.getD q "")⟩
def aC1(a0:List (List Nat))(ws:List Str):List Rw:=(List.range a0.length).map (sP a0 ws)
def Stp(ws:List Str):Prop:=∀ w∈ws,w="by"\/w="out"
theorem aO1{w:Str}(h:aI1 w):fM [.d (.str w)]=.ok (.d (.str (dL w))):=by
 have a:=aT7 h (v:="ever") (.inr (.inr rfl))
 unfold fM l7 dL
 by_cases q:w="ever"
 .rw[AJ q]at a
  rw[AD q]
  simp[a]
 .rw[A1 q]at a
  rw[AE q]
  simp[a]
theorem aRJ(M:Rdw a0 ws sg){q:Nat}(f:q < a0.length):gO [.d (rdW a0 ws),.d (.int (q:Int))]=.ok (.d (rowD (sP a0 ws q))):=by
 have p:=M.r.at f
 have s3:=M.r.s3
 have n2:=M.r.n2
 have h:dIx (rdW a0 ws) (.int 0)=.ok (.tuple (a0.map dH)):=rfl
 have c:=aG9 (ws:=ws.map .str) M.r f
 have k:dIx (rdW a0 ws) (.int 1)=.ok (.tuple (ws.map .str)):=rfl
 have b:=(M.w f).2
 have l:bE (dH (a0.getD q []))=.ok ((a0.getD q []).map λj:Nat=>.int (j:Int)):=dP (by rw[AA];omega)
 have i:=cU (fs:=stN 0) (fe:=cJ (aA (eV 0) (aA (eC (.int 1)) aL))) (ρ0:=[none]) (d:=λj:Nat=>.int (j:Int)) (g:=λj:Nat=>cL ((j:Int),1)) (xs:=a0.getD q []) λj o=>⟨[some (.d (.int (j:Int)))],rfl,by simp[cL]⟩
 have a:rowD (sP a0 ws q)=.tuple [(if q=0 then Tn.n 0 else Tn.w "out").d,.tuple ((a0.getD q []).map λj:Nat=>cL ((j:Int),1)),.str (ws.getD q "")]:=by
  unfold rowD sP
  rw[AZ];rfl
 rw[a]
 generalize ws.getD q ""=w at *
 generalize a0.getD q []=r at *
 unfold gO mY
 by_cases m:q=0
 .subst m
  have c:dIx (.tuple (a0.map dH)) (.int 0)=.ok (dH r):=c
  have b:dIx (.tuple (ws.map .str)) (.int 0)=.ok (.str w):=b
  simp[jF,h,c,k,b,l,eJ,i,Tn.d]
 .have e:¬ (q:Int)=0:=by omega
  simp[jF,m,e,h,c,k,b,l,eJ,i,Tn.d]
theorem aUN(M:Rdw a0 ws sg)(e:dC [.d (aC rs)]=.ok (.d (rdW a0 ws)))(K:Lk a0 (ws.map dL) sg L)(eL:eS [.d (rdW a0 (ws.map dL))]=.ok (.d (.list (L.map λr:Nat=>.int (r:Int)))))(T:Lst a0 (ws.map dL) L N)(A:N<=60) :
  dD [.d (aC rs)]=.ok (.d (aC (aC1 (dE a0 L N) (eR a0 (ws.map dL) L N)))):=by
 have n2:=M.r.n2
 have wl:=M.wl
 have l:Rdw a0 (ws.map dL) sg:=⟨M.r,by rw[AA];exact M.wl,λw c=>by
  obtain⟨v,y,rfl⟩:=AX.mp c
  rcases stopW_is (M.ww v y)with h|h
  · exact .inl h
  · exact .inr (.inl h)⟩
 have u:=aO0 l K eL T
 have M2:=aUK l K T
 have a:=uJ T
 have m:dIx (rdW a0 ws) (.int 0)=.ok (.tuple (a0.map dH)):=rfl
 have z:dIx (rdW a0 ws) (.int 1)=.ok (.tuple (ws.map .str)):=rfl
 have s:bE (.tuple (ws.map PyData.str))=.ok (ws.map PyData.str):=dP (by rw[AA];omega)
 have o:=cU (fs:=stN 0) (fe:=eA (aY 1 fM (aA (vV 0) aL))) (ρ0:=[none]) (d:=PyData.str) (g:=λw=>PyData.str (dL w)) (xs:=ws) λw c=>⟨[some (.d (.str w))],rfl,by simp[aO1 (M.ww w c)]⟩
 have i:PyData.tuple [.tuple (a0.map dH),.tuple (ws.map λw=>PyData.str (dL w))]=rdW a0 (ws.map dL):=by
  unfold rdW rdD
  rw[AZ];rfl
 have p:dIx (rdW (dE a0 L N) (eR a0 (ws.map dL) L N)) (.int 0)=.ok (.tuple ((dE a0 L N).map dH)):=rfl
 have b:=pN (n:=N) (by omega)
 have j:=cU (fs:=stN 0) (fe:=eA (aY 2 gO (aA (vV 1) (aA (vV 0) aL)))) (ρ0:=[none,some (.d (rdW (dE a0 L N) (eR a0 (ws.map dL) L N)))]) (d:=λq:Nat=>.int (q:Int)) (g:=λq=>rowD (sP (dE a0 L N) (eR a0 (ws.map dL) L N) q)) (xs:=List.range N) λq x=>⟨[some (.d (.int (q:Int))),some (.d (rdW (dE a0 L N) (eR a0 (ws.map dL) L N)))],rfl,by
  have:=aRJ M2 (q:=q) (by rw[a];exact A7.mp x)
  simp[this]⟩
 have t:aC (aC1 (dE a0 L N) (eR a0 (ws.map dL) L N))=.tuple ((List.range N).map λq=>rowD (sP (dE a0 L N) (eR a0 (ws.map dL) L N) q)):=by
  unfold aC aC1
  rw[a,AZ];rfl
 rw[t]
 have f:dLen (.tuple ((dE a0 L N).map dH))=.ok (.int (N:Int)):=by rw[kT,AA,a]
 generalize rdW (dE a0 L N) (eR a0 (ws.map dL) L N)=X at *
 generalize ((List.range N).map λq=>rowD (sP (dE a0 L N) (eR a0 (ws.map dL) L N) q))=Y at *
 generalize (dE a0 L N).map dH=Z at *
 have k:¬ (60:Int) < (N:Int):=by omega
 unfold dD l8
 simp only[j5,bW,fC,i8,eX,eQ,kY,A4,BN,B7,BZ,A5,BF,Nat.reduceAdd,Nat.reduceSub,List.replicate,AN,AK,R.bind_ok,BU,e,A2,A3,f8,fE,fR,nE,o3,eM,f7,z,m,s,eJ,GK,o,mE,iV,mB,Nat.reduceLeDiff,i,u,p,f]
 simp[k,b,eJ,j]
end
section
variable{a0:List (List Nat)}{ws:List Str}{rs:List Rw}{sg N:Nat}{L:List Nat}
theorem aI7(M:Mach rs sg)(B:aIZ rs sg):∃ N,Wy rs sg N/\EndW rs sg 200 N:=by
 obtain⟨N,c,E⟩:=aHK rs sg 200
 have a:(bfW rs sg N).length<=200:=B _ (zC _ _ _) λx b=>uI M (n:=N) (by omega) b
 exact⟨N,⟨M,E.full a,c⟩,E⟩
theorem aRK(h:Stp ws):ws.map dL=ws:=by
 conv=>rhs;rw[<-List.map_id ws]
 refine BH λw a=>?_
 rcases h w a with rfl|rfl<;>rfl
end
end Mc
namespace Fl
open L2 PyProof.Rows
def mH(ρ:Sg):Sg:=ρ.map λo=>o.bind λa=>if a.own=true then none else some a
theorem aE9{ρ:Sg}{i:Nat}{a:A}(h:(mH ρ)[i]? = some (some a)):ρ[i]? = some (some a)/\a.own=false:=by
 unfold mH at h
 rw[AG]at h
 cases e:ρ[i]? with
 | none=>rw[e]at h;cases h
 | some o=>
  cases o with
  | none=>rw[e]at h;cases h
  | some b=>
   rw[e]at h
   have h:some ((some b).bind λa=>if a.own=true then none else some a)=some (some a):=h
   injection h with h
   have h:(if b.own=true then none else some b)=some a:=h
   split at h
   .cases h
   .rename_i n
    cases h
    exact⟨rfl,by simpa using n⟩
abbrev Ct.anew(c:Ct)(F H:Hp):Ct:={c with F0:=F,H0:=H}
theorem Ab.anew{c:Ct}{ρ:Sg}{σ:L2.St}{F H:Hp}(b:Ab c ρ σ F H):Ab (c.anew F H) (mH ρ) σ F H where
 len:=by unfold mH;rw[AA];exact b.len
 fh:=b.fh
 slot:=λi a h=>by
  obtain⟨h1,h2⟩:=aE9 h
  obtain⟨v,e,q⟩:=b.slot i a h1
  refine⟨v,e,?_⟩
  cases a with
  | l xs=>cases h2
  | m xs=>cases h2
  | d x=>exact q
  | x e=>exact q
  | g k n G=>exact q
  | k q'=>exact q
  | f a6=>exact q
  | o e=>exact q
 apart:=λi j a p _ h _ o _=>by rw[(aE9 h).2]at o;cases o
 f0:=cG F
 h0:=cG H
 n0:=λa e n=>absurd e n
 t0:=λa o z=>b.f0 a o (b.t0 a o z)
theorem Ab.back{c:Ct}{ρ r:Sg}{σ s:L2.St}{F H B H':Hp}(b:Ab c ρ σ F H)(j:Ab (c.anew F H) r s B H'):Ab c r s B H' where
 len:=j.len
 fh:=j.fh
 slot:=λi a h=>by
  obtain⟨v,e,q⟩:=j.slot i a h
  refine⟨v,e,?_⟩
  have A:∀ p,(c.anew F H).H0 p=none->c.H0 p=none:=λp z=>by
   cases y:c.H0 p with
   | none=>rfl
   | some o=>have:=b.h0 p o y;rw[show H p=none from z]at this;cases this
  cases a with
  | l xs=>obtain⟨p,vs,h1,h2,u,w,t⟩:=q;exact⟨p,vs,h1,h2,u,A p w,t⟩
  | m xs=>obtain⟨p,vs,h1,h2,u,w,t⟩:=q;exact⟨p,vs,h1,h2,u,A p w,t⟩
  | d x=>exact q
  | x e=>exact q
  | g k n G=>exact q
  | k q'=>exact q
  | f a6=>exact q
  | o e=>exact q
 apart:=j.apart
 f0:=λx o h=>j.f0 x o (b.f0 x o h)
 h0:=λx o h=>j.h0 x o (b.h0 x o h)
 n0:=λa h n=>by
  cases q:F a with
  | none=>exact(j.n0 a q n).back b.h0
  | some o=>exact b.n0 a h (by rw[q];exact λz=>nomatch z)
 t0:=b.t0
def zI(i:Nat)(fb:Sg->R Fw)(cl:List Str)(fs:Sg->R Fw):Sg->R Fw:=λρ=>match fb (mH ρ)with
 | .ok (.nx ρ')=>.ok (.nx ρ')
 | .ex e=>if cl.contains e.c=true then(fs ((ρ.map λ_=>none).set i (some (.x e)))).bind λw=>.ok (aM3 i w)else .bad
 | _=>.bad
section
variable{X:Cx}{c:Ct}{E:XK}
theorem aRL{i:Nat}{nx x:Str}{Wc:Az}{I:List V9}{body f:List Stmt}{L:Stmt}{np p pos:Pos}{fb:Sg->R Fw}{cl:List Str}{fs:Sg->R Fw}(hM:X.mg=c.mg)
  (W:rL X) (U:X.N.Nodup) (hi:X.N[i]? = some nx) (hk:X.env.scope.names.lookup nx=some .local) (O:Gl X x) (hm:X.mg x=some (.ref Wc)) (hw:SX.ExcAny X.K Wc I) (u:qL X.K X.mg Wc cl)
  (hb:∀ pn E' F H,lY ((X.pnw pn).fly E') (c.anew F H) E' body fb) (Y:∀ e,lY (X.inH e) c E (L::f) fs) (B:(x == ("__debug__":Str))=false:=by decide) :
  PSf X c E (.Try body [.ExceptHandler (some (.Name x np)) (some nx) (L::f) p] [] [] pos) (zI i fb cl fs):=PS.imp (L2.aSP W U hi hk O hm hw B) λD σ H y=>by
 obtain⟨ρ,F,ab,k⟩:=y
 refine⟨λV Z H'=>∃ C a e g,V=.ref C/\Z=some a/\Ext F H g H'/\lX c.K c.mg g e a C/\fb (mH ρ)=.ex e,λpn=>⟨_,hb pn _ F H,mH ρ,F,ab.anew,?_⟩,?_⟩
 .unfold zI at k
  cases t:fb (mH ρ)with
  | bad=>rw[t]at k;exact k
  | ok w=>
   rw[t]at k
   cases w with
   | nx ρ'=>exact λl g H' s' J=>k l g H' s' (ab.back J)
   | bk _=>exact k.elim
   | ct _=>exact k.elim
   | rt _=>exact k.elim
  | ex e=>exact λa C g H' s' s=>⟨C,a,e,g,rfl,rfl,s',s,rfl⟩
 .rintro C e H' l hl _ ⟨C',a,er,g,h1,h2,s',s,t⟩
  cases h1
  cases h2
  unfold zI at k
  rw[t]at k
  simp only at k
  by_cases G:cl.contains er.c=true
  .rw[AD G]at k
   obtain⟨C2,bm,M,T,P⟩:=u er.c (by simpa using G)
   obtain⟨Q,_⟩:=id s
   rw[hM,Q]at M
   cases M
   have A:Ab c (ρ.map λ_=>none) l g H':={
    len:=by rw[AA,ab.len,hl]
    fh:=s'.fh
    slot:=λj b h=>by
     rw[AG]at h
     cases z:ρ[j]? with
     | none=>rw[z]at h;cases h
     | some o=>rw[z]at h;cases h
    apart:=λi j a b _ h=>by
     rw[AG]at h
     cases z:ρ[i]? with
     | none=>rw[z]at h;cases h
     | some o=>rw[z]at h;cases h
    f0:=λx o h=>s'.ff x o (ab.f0 x o h)
    h0:=λx o h=>s'.hh x o (ab.h0 x o h)
    n0:=(ab.ext s').n0
    t0:=ab.t0}
   refine⟨bm,T,P,_,Y e,(ρ.map λ_=>none).set i (some (.x er)),g,A.setA ⟨e,C,rfl,s⟩,?_⟩
   have S:=(Rk.bind k).ext s'
   refine S.imp λw _ q=>?_
   cases w with
   | nx ρ2=>exact λr n H2 m d=>Rk.ok q _ n H2 (λa o z=>m a o (s'.ff a o z)) (d.off' i)
   | bk ρ2=>exact λr n H2 m d=>Rk.ok q _ n H2 (λa o z=>m a o (s'.ff a o z)) (d.off' i)
   | ct ρ2=>exact λr n H2 m d=>Rk.ok q _ n H2 (λa o z=>m a o (s'.ff a o z)) (d.off' i)
   | rt a=>exact λv n H2 m r2=>Rk.ok q v n H2 m r2
  .rw[AE G]at k;exact k.elim
end
@[simp] theorem aWV(i:Nat)(fb:Sg->R Fw)(cl:List Str)(fs:Sg->R Fw)(ρ:Sg):zI i fb cl fs ρ=match fb (mH ρ)with
 | .ok (.nx ρ')=>.ok (.nx ρ')
 | .ex e=>if cl.contains e.c=true then(fs ((ρ.map λ_=>none).set i (some (.x e)))).bind λw=>.ok (aM3 i w)else .bad
 | _=>.bad:=id rfl
def rLC(K:Frag):V->List V->Hp->VK->Prop:=λx vs H Q=>∃ xs d u,vs=[u]/\DatV K H x (.list xs)/\DatV K H u d/\SeqAt.shaped d=true/\SeqAt.shaped (.list xs)=true/\Q (.int (xs.countP λy=>PyData.eqv y d)) H
theorem aCH{X:Cx}(B:X.A.units+64 < cLine):MtR X "list.count" (rLC X.K):=by
 intro a5 s σ H x vs v us Q I t k h
 obtain⟨xs,d,u,rfl,p,m,s1,i,q⟩:=h
 obtain⟨j,rfl,l⟩:=k.one
 obtain⟨D,r1⟩:=DatV.reads I p (lK i) t
 obtain⟨bs,r2⟩:=DatV.reads I m (lK s1) l
 have g:=rX i
 have C:=rY (b:=d.depth) g.2
 cases r1 with
 | list h1 h2 h3 h4=>
  rename_i a o f n r
  have c:=SeqAt.readsAll_map _ _ _ g.1 h4
  obtain⟨z,od,w,sl⟩:=o
  dsimp only at h2 h3
  subst h2 h3
  have e:List.countP (λy=>PyData.eqv (SeqAt.readOf s.heap y) d) f.toList=xs.countP λy=>PyData.eqv y d:=by
   rw[<-c,List.countP_map];rfl
  refine DQ EN ⟨_,h1,rfl⟩ PySem.F.entry_list_count (PySem.F.args_list_count_2 _ _) (SeqAt.list_countAt a f n od sl j (λy=>PyData.eqv (SeqAt.readOf s.heap y) d)) ⟨h1,SeqAt.items_eqAt h4 r2 g.1 (hU s1) (by omega),.int (xs.countP λy=>PyData.eqv y d),H,I.tok _,⟨_,by rw[e]⟩,q⟩
def aI8:Dz->Dz->R Dz
 | .list xs,x=>if SeqAt.shaped x=true/\SeqAt.shaped (.list xs)=true then .ok (.int (xs.countP λy=>PyData.eqv y x))else .bad
 | _,_=>.bad
def aN1(f g:Sg->R Dz):Sg->R Dz:=λρ=>(f ρ).bind λx=>if isL x=true then(g ρ).bind λy=>aI8 x y else .bad
theorem aCI{X:Cx}{c:Ct}{E:XK}{e:E1}{f g:Sg->R Dz}(b:X.K=c.K)(h:PE X e (tBM X.K "list" (rLC X.K) (tV (cF c) c E f) (eK (tV (cF c) c E g) jN))):PD X c E e (aN1 f g):=PE.imp h λσ H Q ⟨ρ,F,ab,k⟩=>by
 refine⟨ρ,F,ab,(Rk.bind k).imp λx ex q v j H1 s1 r1=>?_⟩
 cases x with
 | list xs=>
  have i:Rk c E F H (g ρ) _:=Rk.bind (f:=λy=>aI8 (.list xs) y) q
  obtain⟨p,vs,rfl,h1,h2⟩:=bJ.lst_of s1.fh r1
  refine⟨.inl ⟨rfl,vs,by rw[b];exact h1⟩,ρ,j,ab.ext s1,(i.ext s1).imp λy _ q u l H2 a r2=>?_⟩
  unfold aI8 at q
  dsimp only at q
  split at q
  .rename_i d
   exact⟨xs,y,u,rfl,by rw[b];exact(bJ.ext a r1).heap a.fh,by rw[b];exact r2.heap a.fh,d.1,d.2,Rk.ok q _ l H2 (s1.trans a) (.int _)⟩
  .exact q.elim
 | _=>exact q.elim
end Fl
theorem L2.RoomH.units{k:Nat}{A:PySem.Around}(r:L2.RoomH k A):A.units+64 < PySem.cLine:=by have:=r.un;omega
namespace Fl
open L2 PyProof.Rows
section
variable{X:Cx}{c:Ct}{E:XK}{e:E1}
theorem aHM{i:Nat}{tb:List (Str×Bool)}{q o:Str}(x:X.mg=c.mg)(is:IsA X.K X.mg q tb)(d:IsA X.K X.mg o tb)(u:∀ p∈tb,p.2=false)
  (h:∀ D D',X.mg q=some (.ref D)->X.mg o=some (.ref D')->PE X e (tCB (aOT X.K) (eK (kK i) (eK (aSI (eK (tC (.ref D)) (eK (tC (.ref D')) jN))) jN)))):PD X c E e (p4 i tb):=by
 obtain⟨D,y,d2⟩:=is
 obtain⟨D',f,j⟩:=d
 refine PE.imp (h D D' y f) λσ H Q ⟨ρ,F,ab,k⟩=>?_
 unfold p4 at k
 split at k
 .rename_i B hi
  split at k
  .rename_i b n
   have l:=xH n
   have n:b=false:=u _ l
   subst n
   obtain⟨W,C,h1,h2,t⟩:=d2 _ l
   obtain⟨A,J,L,r,z⟩:=j _ l
   rw[h2]at r
   cases r
   obtain⟨v,s,a,G,rfl,m,od,e1,e2⟩:=ab.slot i _ hi
   rw[<-x,h2]at m
   cases m
   refine⟨_,s,by show 2<=sizeLine;decide,λp w=>?_⟩
   have ex:Ext F H F (upd H p (.tup [.ref D,.ref D'])):=Ext.own ab.fh w
   refine⟨a,W,_,p,[D,D'],false,rfl,h1,?_,SqT.of bL,aKO t z,Rk.ok k _ F _ ex (.bl false)⟩
   rcases e2 with ⟨_,rfl⟩|⟨dd,g,rfl,e2,I,M⟩
   · exact .inl (ex.hh _ _ (ab.fh _ _ e1))
   · exact .inr ⟨dd, g, ex.hh _ _ (ab.fh _ _ e1), ex.hh _ _ (ab.fh _ _ e2)⟩
  .exact k.elim
 .exact k.elim
end
end Fl
namespace Mc
open L2 PyProof.Rows Fl
noncomputable def aFA:Sg->R Fw:=aS5
noncomputable def xQ:List A->R A:=fnF 3 aFA
noncomputable def mI:Sg->R Fw:=(aV (sIf (e1 asB (e2 dNe (eA (aY 1 cN (aA (vV 0) aL))) (eA (aY 1 cN (aA (vV 1) aL))))) (qM "NotLike" (aA (eC (.str "not as many signs")) aL)) sNx)
 (bS (aY 2 xQ (aA (aY 1 dC (aA (vV 0) aL)) (aA (aY 1 dC (aA (vV 1) aL)) aL)))))
noncomputable def gA:List A->R A:=fnF 2 mI
noncomputable def nM:Sg->R Fw:=(aV (iI 5 (dO aL))
 (aV (oR (jJ (rV 0)) (stN 6) (aV (bT 7 (vD (e2 dIx (eL (dO (aA (eC (.str "out")) (aA (eV 0) aL)))) (e1 dInt (e2 dEq (rV 6) (rV 2))))))
 (lA 5 (cJ (aA (e2 dIx (eL (dO (aA (eC (.int 0)) (aA (eC (.str "out")) aL)))) (e1 dInt (e2 dGt (rV 6) (eC (.int 0))))) (aA (e1 dTup (eL (nH (dO (aA (cJ (aA (e2 dMod (e2 dN (rV 6) (eC (.int 1))) (rV 0)) (aA (eC (.int 1)) aL))) aL)) (rV 4)))) (aA (eV 7) aL)))))))
 (aV (oR (jJ (rV 1)) (stN 6) (lA 5 (cJ (aA (e2 dIx (eL (dO (aA (eC (.str "out")) (aA (eC (.str "by")) aL)))) (e1 dInt (e2 dEq (rV 6) (rV 3)))) (aA (e1 dTup (eL (nH (dO (aA (cJ (aA (e2 dN (rV 0) (e2 dMod (e2 dN (rV 6) (eC (.int 1))) (rV 1))) (aA (e1 dNeg (eC (.int 1))) aL))) aL)) (rV 4)))) (aA (eC (.str "out")) aL))))))
 (bS (vD (e1 dTup (rV 5)))))))
noncomputable def fD:List A->R A:=fnF 8 nM
noncomputable def aI9:Sg->R Fw:=(aV (bT 4 (vD (e1 dTup (eL (nH (dO (aA (cJ (aA (e2 (d2 jW) (e2 dN (rV 3) (eC (.int 1))) (rV 0)) (aA (eC (.int 1)) aL))) aL)) (rV 1))))))
 (lA 2 (cJ (aA (e2 dIx (eL (dO (aA (eC (.int 0)) (aA (eC (.str "out")) aL)))) (e1 dInt (e2 dGt (rV 3) (eC (.int 0))))) (aA (eV 4) (aA (e2 dIx (eL (dO (aA (eC (.str "by")) (aA (eC (.str "out")) aL)))) (e1 dInt (e2 dEq (rV 3) (rV 0)))) aL))))))
noncomputable def mJ:Sg->R Fw:=(aV (iI 2 (dO aL)) (aV (oR (jJ (e2 dN (rV 0) (eC (.int 1)))) (stN 3) aI9) (bS (vD (e1 dTup (rV 2))))))
noncomputable def gE:List A->R A:=fnF 5 mJ
noncomputable def raF:Sg->R Fw:=(lA 2 (cJ (aA (eA (aY 2 j6 (aA (vV 3) (aA (vV 1) aL)))) (aA (e1 dTup (eL (fK [none,none,some 1] (e1 bE (rV 4)) (stT [(stN 0),(stN 1)]) gR (cJ (aA (e2 dN (rV 0) (rV 2)) (aA (eV 1) aL)))))) (aA (eA (aY 2 j6 (aA (vV 5) (aA (vV 1) aL)))) aL)))))
noncomputable def kM:Sg->R Fw:=(aV (iI 2 (dO aL)) (aV (oR (e1 bE (eV 0)) (stT [(stN 3),(stN 4),(stN 5)]) raF) (sFz 2 (bS (vV 2)))))
noncomputable def gJ:List A->R A:=fnF 6 kM
noncomputable def jnF:Sg->R Fw:=(lA 5 (cJ (aA (e2 dIx (eL (dO (aA (eV 6) (aA (e2 dIx (e2 dIx (rV 4) (eC (.int 0))) (eC (.int 0))) aL)))) (e1 dInt (e2 dEq (rV 6) (rV 2)))) (aA (eV 7) (aA (e2 dIx (eL (dO (aA (eV 8) (aA (eV 3) aL)))) (e1 dInt (e2 dEq (rV 8) (rV 2)))) aL)))))
noncomputable def kN:Sg->R Fw:=(aV (bT 3 (vD (e1 dLen (rV 0))))
 (aV (bT 4 (aY 2 gJ (aA (vV 1) (aA (vD (e2 dN (rV 3) (eC (.int 1)))) aL))))
 (aV (iI 5 (dO aL))
 (aV (oR (e1 bE (eV 0)) (stT [(stN 6),(stN 7),(stN 8)]) jnF)
 (aV (lA 5 (cJ (aA (e2 dIx (e2 dIx (rV 4) (eC (.int 0))) (eC (.int 0))) (aA (e1 dTup (eL (nH (dO (aA (cJ (aA (eV 3) (aA (e1 dNeg (eC (.int 1))) aL))) aL)) (e1 dLen (e2 dIx (e2 dIx (rV 0) (eC (.int 0))) (eC (.int 1))))))) (aA (eC (.str "out")) aL)))))
 (bS (vD (e1 dTup (eL (e2 i5 (rV 5) (rV 4)))))))))))
noncomputable def gK:List A->R A:=fnF 9 kN
noncomputable def iC:Sg->R Fw:=(aV (iI 1 (dO (aA (p4 0 [("TooMany",false),("NotLike",true)]) (aA (p4 0 [("TooMany",true),("NotLike",false)]) aL))))
 (aV (sIf (bOr (aAM (e1 asB (p4 0 [("TooMany",true),("NotLike",true)]))) (bOr (e1 asB (p4 0 [("TooMany",false),("NotLike",false)])) (e1 asB (e2 dNe (aN1 (rV 1) (eC (.bool true))) (eC (.int 1)))))) (bS (vD (eC (.str "none of these")))) sNx)
 (bS (vD (e2 dIx (eL (dO (aA (eC (.str "like")) (aA (eC (.str "many")) aL)))) (aNY (rV 1) (eC (.bool true))))))))
noncomputable def dU:List A->R A:=fnF 2 iC
noncomputable def jC:Sg->R Fw:=(aV (bT 3 (vD (eC (.str "none"))))
 (aV (zI 4 (sIf (e1 asB (e2 dEq (rV 0) (eC (.int 0)))) (bT 3 (vD (e1 dLen (eA (aY 2 gV (aA (vV 1) (aA (vV 2) aL))))))) (sIf (e1 asB (e2 dEq (rV 0) (eC (.int 1)))) (bT 3 (vD (e1 dLen (eA (aY 2 j4 (aA (vV 1) (aA (vV 2) aL))))))) (sIf (e1 asB (e2 dEq (rV 0) (eC (.int 2)))) (bT 3 (vD (e1 dLen (eA (aY 1 eF (aA (vV 1) aL)))))) (sIf (e1 asB (e2 dEq (rV 0) (eC (.int 3)))) (bT 3 (vD (e1 dLen (eA (aY 1 dD (aA (vV 1) aL)))))) (bT 3 (vD (e2 dIx (eA (aY 2 gA (aA (vV 1) (aA (vV 2) aL)))) (eC (.int 0))))))))) ["TooMany","NotLike"] (bT 3 (yR 1 dU (aA (vV 4) aL))))
 (bS (vV 3))))
noncomputable def bC:List A->R A:=fnF 5 jC
noncomputable def mK:Sg->R Fw:=(aV (bT 3 (vD (cJ (aA (e2 dIx (eL (dO (aA (eC (.str "by")) (aA (eC (.str "out")) (aA (eC (.int 0)) aL))))) (e2 dMod (rV 2) (eC (.int 3)))) (aA (e1 dTup (eL (nH (dO (aA (cJ (aA (e2 dMod (rV 2) (rV 0)) (aA (eC (.int 1)) aL))) aL)) (rV 1)))) (aA (e2 dIx (eL (dO (aA (eC (.str "by")) (aA (eC (.str "out")) aL)))) (e2 dMod (e2 dDiv (rV 2) (eC (.int 3))) (eC (.int 2)))) aL))))))
 (bS (vD (e1 dTup (eL (nH (dO (aA (eV 3) aL)) (rV 0)))))))
noncomputable def dW:List A->R A:=fnF 4 mK
noncomputable def w1:Sg->R Fw:=(bT 1 (vD (e2 dN (eC (.int 57)) (e2 dMod (eA (aY 2 cZ (aA (vV 0) (aA (vD (eC (.int 0))) aL)))) (eC (.int 6))))))
noncomputable def w2:Sg->R Fw:=(iI 2 (dO (aA (e2 dN (eC (.int 1)) (e2 dMod (eA (aY 2 cZ (aA (vV 0) (aA (vD (eC (.int 1))) aL)))) (eC (.int 3)))) (aA (e2 dN (eC (.int 1)) (e2 dMod (eA (aY 2 cZ (aA (vV 0) (aA (vD (eC (.int 2))) aL)))) (eC (.int 3)))) aL))))
noncomputable def w3:Sg->R Fw:=(bT 3 (vD (e2 dN (eC (.int 1)) (e2 dMod (eA (aY 2 cZ (aA (vV 0) (aA (vD (eC (.int 3))) aL)))) (e2 (d2 jW) (eC (.int 59)) (e2 dSub (rV 1) (eC (.int 1))))))))
noncomputable def w4:Sg->R Fw:=(bT 4 (aY 3 dW (aA (vV 3) (aA (vD (e2 dIx (rV 2) (eC (.int 0)))) (aA (aY 2 cZ (aA (vV 0) (aA (vD (eC (.int 4))) aL))) aL)))))
noncomputable def w5:Sg->R Fw:=(bT 5 (aY 3 dW (aA (vD (e2 (d2 wY) (eC (.int 1)) (e2 (d2 jW) (eC (.int 60)) (e2 dSub (rV 1) (rV 3))))) (aA (vD (e2 dIx (rV 2) (eC (.int 1)))) (aA (aY 2 cZ (aA (vV 0) (aA (vD (eC (.int 5))) aL))) aL)))))
noncomputable def w6:Sg->R Fw:=(bT 6 (vD (e2 dN (e2 dN (e1 dLen (rV 4)) (e1 dLen (rV 5))) (eC (.int 1)))))
noncomputable def w7:Sg->R Fw:=(bT 7 (vV 6))
noncomputable def w8:Sg->R Fw:=(sIf (e1 asB (e2 dGt (rV 6) (eC (.int 60)))) (bT 7 (vD (eC (.str "many")))) sNx)
noncomputable def w9:Sg->R Fw:=(sIf (e1 asB (e2 dNe (e2 dIx (rV 2) (eC (.int 0))) (e2 dIx (rV 2) (eC (.int 1))))) (bT 7 (vD (eC (.str "like")))) sNx)
noncomputable def w10:Sg->R Fw:=(sIf (bOr (e1 asB (e2 dNe (eA (aY 3 bC (aA (vD (eC (.int 0))) (aA (vV 4) (aA (vV 5) aL))))) (rV 7))) (e1 asB (e2 dNe (eA (aY 3 bC (aA (vD (eC (.int 1))) (aA (vV 5) (aA (vV 4) aL))))) (rV 7)))) (bS (vD (eC (.bool false)))) sNx)
noncomputable def w11:Sg->R Fw:=(bT 8 (aY 3 dW (aA (vD (e2 dN (eC (.int 57)) (e2 dMod (eA (aY 2 cZ (aA (vV 0) (aA (vD (eC (.int 6))) aL)))) (eC (.int 4))))) (aA (vD (e2 dIx (rV 2) (eC (.int 0)))) (aA (aY 2 cZ (aA (vV 0) (aA (vD (eC (.int 7))) aL))) aL)))))
noncomputable def w12:Sg->R Fw:=(bT 7 (vD (e2 dN (e1 dLen (rV 8)) (eC (.int 1)))))
noncomputable def w13:Sg->R Fw:=(sIf (e1 asB (e2 dGt (rV 7) (eC (.int 60)))) (bT 7 (vD (eC (.str "many")))) sNx)
noncomputable def w14:Sg->R Fw:=(sIf (e1 asB (e2 dNe (eA (aY 3 bC (aA (vD (eC (.int 2))) (aA (vV 8) (aA (vV 8) aL))))) (rV 7))) (bS (vD (eC (.bool false)))) sNx)
noncomputable def w15:Sg->R Fw:=(aAU (stT [(stN 9),(stN 10)]) (e2 dIx (eL (dO (aA (cJ (aA (eC (.int 7)) (aA (eC (.int 8)) aL))) (aA (cJ (aA (eC (.int 5)) (aA (eC (.int 12)) aL))) (aA (cJ (aA (eC (.int 2)) (aA (eC (.int 31)) aL))) (aA (cJ (aA (eC (.int 7)) (aA (eC (.int 9)) aL))) (aA (cJ (aA (eC (.int 5)) (aA (eC (.int 13)) aL))) (aA (cJ (aA (eC (.int 6)) (aA (eC (.int 11)) aL))) (aA (cJ (aA (eC (.int 13)) (aA (eC (.int 17)) aL))) aL))))))))) (e2 dMod (eA (aY 2 cZ (aA (vV 0) (aA (vD (eC (.int 8))) aL)))) (eC (.int 7)))))
noncomputable def w16:Sg->R Fw:=(bT 7 (vD (e2 dMul (rV 9) (rV 10))))
noncomputable def w17:Sg->R Fw:=(sIf (e1 asB (e2 dGt (rV 7) (eC (.int 60)))) (bT 7 (vD (eC (.str "many")))) sNx)
noncomputable def w18:Sg->R Fw:=(bT 11 (aY 2 cZ (aA (vV 0) (aA (vD (eC (.int 9))) aL))))
noncomputable def w19:Sg->R Fw:=(sIf (e1 asB (e2 dNe (eA (aY 3 bC (aA (vD (eC (.int 3))) (aA (aY 5 fD (aA (vV 9) (aA (vV 10) (aA (vD (e2 dMod (rV 11) (rV 9))) (aA (vD (e2 dMod (e2 dDiv (rV 11) (eC (.int 64))) (rV 10))) (aA (vD (e2 dN (eC (.int 1)) (e2 dMod (e2 dDiv (rV 11) (eC (.int 4096))) (eC (.int 2))))) aL)))))) (aA (vV 5) aL))))) (rV 7))) (bS (vD (eC (.bool false)))) sNx)
noncomputable def w20:Sg->R Fw:=(bT 12 (aY 3 gK (aA (aY 2 gE (aA (vD (eC (.int 1))) (aA (vD (eC (.int 1))) aL))) (aA (aY 5 fD (aA (vD (eC (.int 5))) (aA (vD (eC (.int 12))) (aA (vD (e2 dN (eC (.int 1)) (e2 dMod (rV 11) (eC (.int 4))))) (aA (vD (e2 dMod (e2 dDiv (rV 11) (eC (.int 64))) (eC (.int 12)))) (aA (vD (eC (.int 1))) aL)))))) (aA (vD (eC (.str "out"))) aL)))))
noncomputable def w21:Sg->R Fw:=(sIf (e1 asB (e2 dNe (eA (aY 3 bC (aA (vD (eC (.int 3))) (aA (vV 12) (aA (vV 5) aL))))) (eC (.str "many")))) (bS (vD (eC (.bool false)))) sNx)
noncomputable def w22:Sg->R Fw:=(bT 13 (aY 5 fD (aA (vD (eC (.int 13))) (aA (vD (eC (.int 17))) (aA (vD (e2 dMod (rV 11) (eC (.int 13)))) (aA (vD (e2 dMod (rV 11) (eC (.int 17)))) (aA (vD (e2 dIx (rV 2) (eC (.int 0)))) aL)))))))
noncomputable def w23:Sg->R Fw:=(bT 14 (aY 3 dW (aA (vD (e2 dN (eC (.int 1)) (e2 dMod (e2 dDiv (rV 11) (eC (.int 8192))) (eC (.int 4))))) (aA (vD (e2 dN (eC (.int 1)) (e2 dMod (e2 dN (e2 dIx (rV 2) (eC (.int 0))) (e2 dMod (e2 dDiv (rV 11) (eC (.int 4096))) (eC (.int 2)))) (eC (.int 3))))) (aA (vV 11) aL)))))
noncomputable def w24:Sg->R Fw:=(sIf (bOr (e1 asB (e2 dNe (eA (aY 3 bC (aA (vD (eC (.int 4))) (aA (vV 13) (aA (vV 14) aL))))) (eC (.str "like")))) (e1 asB (e2 dNe (eA (aY 3 bC (aA (vD (eC (.int 4))) (aA (vV 14) (aA (vV 13) aL))))) (eC (.str "like"))))) (bS (vD (eC (.bool false)))) sNx)
noncomputable def w25:Sg->R Fw:=(bT 15 (aY 3 dW (aA (vD (e1 dLen (rV 14))) (aA (vD (e2 dIx (rV 2) (eC (.int 0)))) (aA (vV 11) aL)))))
noncomputable def w26:Sg->R Fw:=(bS (vD (aMS (e2 dEq (eA (aY 3 bC (aA (vD (eC (.int 4))) (aA (vV 13) (aA (vV 15) aL))))) (eC (.str "many"))) (e2 dEq (eA (aY 3 bC (aA (vD (eC (.int 4))) (aA (vV 15) (aA (vV 13) aL))))) (eC (.str "many"))))))
noncomputable def zJ:Sg->R Fw:=(aV w1 (aV w2 (aV w3 (aV w4 (aV w5 (aV w6 (aV w7 (aV w8 (aV w9 (aV w10 (aV w11 (aV w12 (aV w13 (aV w14 (aV w15 (aV w16 (aV w17 (aV w18 (aV w19 (aV w20 (aV w21 (aV w22 (aV w23 (aV w24 (aV w25 w26)))))))))))))))))))))))))
noncomputable def aJA:List A->R A:=fnF 16 zJ
def top(i:Nat):Stmt:=PySem.Challenge.pw_striproam_k34_joined_refused.main.body.getD i (.Pass ⟨0,0,0,0⟩)
def eY:ClSt:=clS "one_way.<locals>.after" ((cX (top 37)).getD 1 (.Pass ⟨0,0,0,0⟩))
def iD:Pos:=aTM ((cX (top 37)).getD 1 (.Pass ⟨0,0,0,0⟩))
def iE:ClSt:=clE "one_way.<locals>.<lambda>" (aTL (aTK ((cX (top 37)).getD 2 (.Pass ⟨0,0,0,0⟩))) 2)
def iJ:Pos:=aWJ (aTL (aTK ((cX (top 37)).getD 2 (.Pass ⟨0,0,0,0⟩))) 2)
def f6:ClSt:=clS "least.<locals>.after" ((cX (top 51)).getD 1 (.Pass ⟨0,0,0,0⟩))
def jD:Pos:=aTM ((cX (top 51)).getD 1 (.Pass ⟨0,0,0,0⟩))
def qsT:List (Pos×Str):=[(iD,("one_way.<locals>.after":Str)),(iJ,("one_way.<locals>.<lambda>":Str)),(jD,("least.<locals>.after":Str))]
structure Txt(w:World)(K:Frag)(mg:Str->Option V9):Prop where
 b_ValueError:mg "ValueError"=none
 b_enumerate:mg "enumerate"=none
 b_int:mg "int"=none
 b_isinstance:mg "isinstance"=none
 b_len:mg "len"=none
 b_max:mg "max"=none
 b_min:mg "min"=none
 b_range:mg "range"=none
 b_str:mg "str"=none
 b_tuple:mg "tuple"=none
 b_zip:mg "zip"=none
 g_MOST_BEGINNINGS:∃ t,mg "MOST_BEGINNINGS"=some (.int 200 t)
 g_MOST_ROOMS:∃ t,mg "MOST_ROOMS"=some (.int 60 t)
 g_STOPS:∃ a,mg "STOPS"=some (.ref a)/\aAF K a [.str "by",.str "out"]
section
variable{P:P9}{w:W9}{K:Frag}{mg:Str->O9 V9}{base:H9}{TH:Hp}
theorem wK:FnScope ["machine"] ["machine"] (aK (top 10)):=by constructor<;>first|rfl|decide +kernel
theorem aF2(T:Txt w K mg)(D:DefAt K mg "signs_of" (top 10) ["machine"]):aS P w K mg base TH 1 "signs_of" ["machine"] cN:=
 @cE P w K mg base TH "signs_of" (top 10) ["machine"] ["machine"] 0 sC D wK (λf a A outer s H F E b=>by
  have nd:=wK.nd
  exact(Fl.aQ (Fl.bH (aM (dM rfl (bM cK rfl T.b_len BB (aJ (aB (aZ (a8 rfl) aN (aB (aZ (a8 rfl) aN (aE (pv 0)) (aB aG))) (aB aG))) aP)))))))
theorem wL:FnScope ["machine","number"] ["machine","number"] (aK (top 11)):=by constructor<;>first|rfl|decide +kernel
theorem aF3(T:Txt w K mg)(D:DefAt K mg "cells_of" (top 11) ["machine","number"]):aS P w K mg base TH 1 "cells_of" ["machine","number"] kE:=
 @cE P w K mg base TH "cells_of" (top 11) ["machine","number"] ["machine","number"] 0 sD D wL (λf a A outer s H F E c=>by
  have nd:=wL.nd
  exact(Fl.aQ (Fl.bH (aM (bY (eP (eO (N:=["row","number"]) (js:=[none,some 1]) rfl (.own (.cap rfl (.inl rfl) (.inl rfl) .nil)) (by rfl) (lB rfl (aE (pv 0)))) (by decide) (by decide) (is:=[0]) (λcl C b d e=>⟨_,(bX (i:=0) (show(["row","number"]:List Str).Nodup by decide +kernel) rfl (Or.inl rfl)),(bZ 0),Fl.dR,(aZ (a8 rfl) aN (aB (aZ (a8 rfl) aN (aE (pv 0)) (aB aG))) (aE (pv 1)))⟩)))))))
theorem pQ:FnScope ["row"] ["row"] (aK (top 13)):=by constructor<;>first|rfl|decide +kernel
theorem zK(T:Txt w K mg)(D:DefAt K mg "mirrored_row" (top 13) ["row"]):aS P w K mg base TH 1 "mirrored_row" ["row"] gN:=
 @cE P w K mg base TH "mirrored_row" (top 13) ["row"] ["row"] 0 mX D pQ (λf a A outer s H F E c=>by
  have nd:=pQ.nd
  exact(Fl.aQ (Fl.bH (aM (b9 (aF (aZ (a8 rfl) aN (aE (pv 0)) (aB aG)) (aF (cO rfl (bP bI rfl T.b_tuple AY (aJ (aB (bY (eP (eO (N:=["cell"]) (js:=[none]) rfl (.own .nil) (by rfl) (lB rfl (aB (aZ (a8 rfl) aN (aE (pv 0)) (aB aG))))) (by decide) (by decide) (is:=[0]) (λcl C b d e=>⟨_,(bX (i:=0) (show(["cell"]:List Str).Nodup by decide +kernel) rfl (Or.inl rfl)),(bZ 0),Fl.dR,(b9 (aF (aZ (a8 rfl) aN (aE (pv 0)) (aB aG)) (aF (aCW vA pF (aB (aZ (a8 rfl) aN (aE (pv 0)) (aB aG)))) aX)))⟩)))) aP))) (aF (aZ (a8 rfl) aN (aE (pv 0)) (aB aG)) aX))))))))
theorem wM:FnScope ["machine"] ["machine"] (aK (top 14)):=by constructor<;>first|rfl|decide +kernel
theorem aF4(T:Txt w K mg)(D:DefAt K mg "mirrored" (top 14) ["machine"])(a:aS P w K mg base TH 1 "mirrored_row" ["row"] gN):aS P w K mg base TH 2 "mirrored" ["machine"] l6:=
 @cE P w K mg base TH "mirrored" (top 14) ["machine"] ["machine"] 1 sE D wM (λf b A outer s H F E c=>by
  have nd:=wM.nd
  exact(Fl.aQ (Fl.bH (aM (cO rfl (bP bI rfl T.b_tuple AY (aJ (aB (bY (eP (eO (N:=["row"]) (js:=[none]) rfl (.own .nil) (by rfl) (lB rfl (aE (pv 0)))) (by decide) (by decide) (is:=[0]) (λcl C d e g=>⟨_,(bX (i:=0) (show(["row"]:List Str).Nodup by decide +kernel) rfl (Or.inl rfl)),(bZ 0),Fl.dR,(cM (bB rfl rfl rfl (bA a (c.mono (by decide)) rfl nA (aD (aR (pv 0)) aU))))⟩)))) aP)))))))
theorem sW:FnScope ["turn","rooms"] ["turn","rooms"] (aK (top 16)):=by constructor<;>first|rfl|decide +kernel
theorem aCP(T:Txt w K mg)(D:DefAt K mg "moved_turn" (top 16) ["turn","rooms"]):aS P w K mg base TH 1 "moved_turn" ["turn","rooms"] gS:=
 @cE P w K mg base TH "moved_turn" (top 16) ["turn","rooms"] ["turn","rooms"] 0 l9 D sW (λf a A outer s H F E b=>by
  have nd:=sW.nd
  exact(Fl.aQ (Fl.bH (aM (vB (Fl.cS (aSZ rfl b.units) aMR (aE (pv 0)) (aB (gQ (fA (v:=.ref T.g_STOPS.choose) rfl T.g_STOPS.choose_spec.1 rfl) λF=>aMZ T.g_STOPS.choose_spec.2 (by exact λF=>.cons (.str _) (.cons (.str _) (.nil))) F)) (by with_unfolding_all rfl)) (bR (pv 0)) (a9 (cQ rfl) bV (aE (pv 0)) (aE (pv 1))))))))
end
section
variable{P:P9}{w:W9}{K:Frag}{mg:Str->O9 V9}{base:H9}{TH:Hp}
theorem uK:FnScope ["row","rooms","cells"] ["row","rooms"] (aK (top 17)):=by constructor<;>first|rfl|decide +kernel
theorem aFB(T:Txt w K mg)(D:DefAt K mg "moved_row" (top 17) ["row","rooms"])(a:aS P w K mg base TH 1 "moved_turn" ["turn","rooms"] gS):aS P w K mg base TH 2 "moved_row" ["row","rooms"] jK:=
 @cE P w K mg base TH "moved_row" (top 17) ["row","rooms","cells"] ["row","rooms"] 1 p5 D uK (λf c A outer s H F E b=>by
  have nd:=uK.nd
  exact(Fl.aH (Fl.aI (L2.aI (i:=2) nd rfl (Or.inl rfl) (aM (cO rfl (bP bI rfl T.b_tuple AY (aJ (aB (bY (eP (eO (N:=["cell","rooms"]) (js:=[none,some 1]) rfl (.own (.cap rfl (.inl rfl) (.inl rfl) .nil)) (by rfl) (lB rfl (aB (aZ (a8 rfl) aN (aE (pv 0)) (aB aG))))) (by decide) (by decide) (is:=[0]) (λcl C d e g=>⟨_,(bX (i:=0) (show(["cell","rooms"]:List Str).Nodup by decide +kernel) rfl (Or.inl rfl)),(bZ 0),Fl.dR,(b9 (aF (a9 (cQ rfl) bV (aB (aZ (a8 rfl) aN (aE (pv 0)) (aB aG))) (aE (pv 1))) (aF (aZ (a8 rfl) aN (aE (pv 0)) (aB aG)) aX)))⟩)))) aP))))))
   (Fl.aQ (Fl.bH (aM (b9 (aF (cM (bB rfl rfl rfl (bA a (b.mono (by decide)) rfl (bD λ_ _ _ h=>h) (aD (aM (aZ (a8 rfl) aN (aE (pv 0)) (aB aG))) (aD (aR (pv 1)) aU))))) (aF (bR (pv 2)) (aF (cM (bB rfl rfl rfl (bA a (b.mono (by decide)) rfl (bD λ_ _ _ h=>h) (aD (aM (aZ (a8 rfl) aN (aE (pv 0)) (aB aG))) (aD (aR (pv 1)) aU))))) aX)))))))))
theorem aFC:FnScope ["machine","rooms"] ["machine","rooms"] (aK (top 18)):=by constructor<;>first|rfl|decide +kernel
theorem aN2(T:Txt w K mg)(D:DefAt K mg "moved" (top 18) ["machine","rooms"])(a:aS P w K mg base TH 2 "moved_row" ["row","rooms"] jK):aS P w K mg base TH 3 "moved" ["machine","rooms"] mZ:=
 @cE P w K mg base TH "moved" (top 18) ["machine","rooms"] ["machine","rooms"] 2 aA6 D aFC (λf b A outer s H F E c=>by
  have nd:=aFC.nd
  exact(Fl.aQ (Fl.bH (aM (bY (eP (eO (N:=["row","rooms"]) (js:=[none,some 1]) rfl (.own (.cap rfl (.inl rfl) (.inl rfl) .nil)) (by rfl) (lB rfl (aE (pv 0)))) (by decide) (by decide) (is:=[0]) (λcl C d e g=>⟨_,(bX (i:=0) (show(["row","rooms"]:List Str).Nodup by decide +kernel) rfl (Or.inl rfl)),(bZ 0),Fl.dR,(cM (bB rfl rfl rfl (bA a (c.mono (by decide)) rfl nA (aD (aR (pv 0)) (aD (aR (pv 1)) aU)))))⟩)))))))
theorem zL:FnScope ["rows"] ["rows"] (aK (top 19)):=by constructor<;>first|rfl|decide +kernel
theorem aJB(T:Txt w K mg)(D:DefAt K mg "bounded" (top 19) ["rows"]){Wp_TooMany Cp_TooMany:Az}(a:ErrP K mg "TooMany" Wp_TooMany Cp_TooMany):aS P w K mg base TH 1 "bounded" ["rows"] hZ:=
 @cE P w K mg base TH "bounded" (top 19) ["rows"] ["rows"] 0 pK D zL (λf b A outer s H F E c=>by
  have nd:=zL.nd
  exact(Fl.aH (Fl.dX (Fl.cS kP iG (aB (dM rfl (bM cK rfl T.b_len BB (aJ (aE (pv 0)) aP)))) (aB (gQ (fA (v:=.int 60) rfl T.g_MOST_ROOMS.choose_spec ⟨_,rfl⟩) λ_=>.int _)) (b7 _)) (Fl.aQ (tX a.m (L2.i3 rfl a rfl (aJ (aD6 (aB (gQ (fA (v:=.int 60) rfl T.g_MOST_ROOMS.choose_spec ⟨_,rfl⟩) λ_=>.int _))) aP)))) Fl.dA)
   (Fl.aQ (Fl.bH (aM (cO rfl (bP bI rfl T.b_tuple AY (aJ (aE (pv 0)) aP))))))))
theorem sX:FnScope ["row","word","begin","home","left","right"] ["row","word","begin","home"] (aK (top 20)):=by constructor<;>first|rfl|decide +kernel
theorem aCQ(T:Txt w K mg)(D:DefAt K mg "handing_on" (top 20) ["row","word","begin","home"]):aS P w K mg base TH 1 "handing_on" ["row","word","begin","home"] gT:=
 @cE P w K mg base TH "handing_on" (top 20) ["row","word","begin","home","left","right"] ["row","word","begin","home"] 0 oX D sX (λf b A outer s H F E a=>by
  have nd:=sX.nd
  exact(Fl.aH (Fl.aI (L2.aI (i:=4) nd rfl (Or.inl rfl) (aM (vB (Fl.cS (gH rfl a.units) eI (aB (aZ (a8 rfl) aN (aE (pv 0)) (aB aG))) (aE (pv 1)) (b7 _)) (bR (pv 2)) (aZ (a8 rfl) aN (aE (pv 0)) (aB aG))))))
   (Fl.aH (Fl.aI (L2.aI (i:=5) nd rfl (Or.inl rfl) (aM (vB (Fl.cS (gH rfl a.units) eI (aB (aZ (a8 rfl) aN (aE (pv 0)) (aB aG))) (aE (pv 1)) (b7 _)) (bR (pv 3)) (aZ (a8 rfl) aN (aE (pv 0)) (aB aG))))))
   (Fl.aQ (Fl.bH (aM (b9 (aF (bR (pv 4)) (aF (aZ (a8 rfl) aN (aE (pv 0)) (aB aG)) (aF (bR (pv 5)) aX))))))))))
theorem aCJ:FnScope ["one","two","word","signs","second","begin","home","first","homeward"] ["one","two","word"] (aK (top 21)):=by constructor<;>first|rfl|decide +kernel
theorem aLT(T:Txt w K mg)(D:DefAt K mg "joined" (top 21) ["one","two","word"])(b:aS P w K mg base TH 1 "signs_of" ["machine"] cN)(e:aS P w K mg base TH 3 "moved" ["machine","rooms"] mZ)(c:aS P w K mg base TH 1 "handing_on" ["row","word","begin","home"] gT)(d:aS P w K mg base TH 1 "bounded" ["rows"] hZ){Wp_NotLike Cp_NotLike:Az}(a:ErrP K mg "NotLike" Wp_NotLike Cp_NotLike):aS P w K mg base TH 4 "joined" ["one","two","word"] gU:=
 @cE P w K mg base TH "joined" (top 21) ["one","two","word","signs","second","begin","home","first","homeward"] ["one","two","word"] 3 oY D aCJ (λf j A outer s H F E g=>by
  have nd:=aCJ.nd
  exact(Fl.aH (Fl.aI (L2.aI (i:=3) nd rfl (Or.inl rfl) (bB rfl rfl rfl (bA b (g.mono (by decide)) rfl (bD λ_ _ _ h=>h) (aD (aR (pv 0)) aU)))))
   (Fl.aH (Fl.dX (Fl.cS (iS rfl g.units) fX (aE (pv 3)) (aB (cM (bB rfl rfl rfl (bA b (g.mono (by decide)) rfl (bD λ_ _ _ h=>h) (aD (aR (pv 1)) aU))))) (b7 _)) (Fl.aQ (Fl.i3 a.m (L2.i3 rfl a rfl (aF b8 aX)))) Fl.dA)
   (Fl.aH (Fl.aI (L2.aI (i:=4) nd rfl (Or.inl rfl) (bB rfl rfl rfl (bA e (g.mono (by decide)) rfl (bD λ_ _ _ h=>h) (aD (aR (pv 1)) (aD (aM (dM rfl (bM cK rfl T.b_len BB (aJ (aE (pv 0)) aP)))) aU))))))
   (Fl.aH (Fl.aI (L2.aI (i:=5) nd rfl (Or.inr rfl) (aM (aZ (a8 rfl) aN (aB (aZ (a8 rfl) aN (aE (pv 4)) (aB aG))) (aB aG)))))
   (Fl.aH (Fl.aI (L2.aI (i:=6) nd rfl (Or.inr rfl) (aM (a9 (cQ rfl) bV (aB (dM rfl (bM cK rfl T.b_len BB (aJ (aE (pv 0)) aP)))) (aB (dM rfl (bM cK rfl T.b_len BB (aJ (aE (pv 1)) aP))))))))
   (Fl.aH (aPT (L2.aH3 (i:=7) nd rfl (Or.inl rfl) (by rfl) (N:=["row","word","begin","home"]) (js:=[none,some 2,some 5,some 6]) rfl (.own (.cap rfl (.inl rfl) (.inl rfl) (.cap rfl (.inl rfl) (.inl rfl) (.cap rfl (.inl rfl) (.inl rfl) .nil)))) (by rfl) (lB rfl (aE (pv 0)))) (by decide) (by decide) (is:=[0]) (λcl C k l n=>⟨_,(bX (i:=0) (show(["row","word","begin","home"]:List Str).Nodup by decide +kernel) rfl (Or.inl rfl)),(bZ 0),Fl.dR,(cM (bB rfl rfl rfl (bA c (g.mono (by decide)) rfl nA (aD (aR (pv 0)) (aD (aR (pv 1)) (aD (aR (pv 2)) (aD (aR (pv 3)) aU)))))))⟩))
   (Fl.aH (Fl.aI (L2.aI (i:=8) nd rfl (Or.inl rfl) (aM (b9 (aF (bR (pv 5)) (aF (a9 (aD5 rfl) yP (aB (b9 (aF (b9 (aF (bR (pv 6)) (aF (aCW vA pF (aB aG)) aX))) aX))) (aE (pv 3))) (aF b8 aX)))))))
   (Fl.aQ (Fl.bH (bB rfl rfl rfl (bA d (g.mono (by decide)) rfl (bD λ_ _ _ h=>h) (aD (aM (bY (yQ rfl (aB (bY (yQ rfl (aE (pv 7)) (aE (pv 4))))) (aB (bY (cW (aF (bR (pv 8)) aX))))))) aU)))))))))))))
end
section
variable{P:P9}{w:W9}{K:Frag}{mg:Str->O9 V9}{base:H9}{TH:Hp}
theorem aCK:FnScope ["one","two"] ["one","two"] (aK (top 22)):=by constructor<;>first|rfl|decide +kernel
theorem aLU(T:Txt w K mg)(D:DefAt K mg "either" (top 22) ["one","two"])(a:aS P w K mg base TH 4 "joined" ["one","two","word"] gU):aS P w K mg base TH 5 "either" ["one","two"] gV:=
 @cE P w K mg base TH "either" (top 22) ["one","two"] ["one","two"] 4 oZ D aCK (λf c A outer s H F E b=>by
  have nd:=aCK.nd
  exact(Fl.aQ (Fl.bH (bB rfl rfl rfl (bA a (b.mono (by decide)) rfl (bD λ_ _ _ h=>h) (aD (aR (pv 0)) (aD (aR (pv 1)) (aD (aM b8) aU))))))))
theorem aHN:FnScope ["one","two"] ["one","two"] (aK (top 23)):=by constructor<;>first|rfl|decide +kernel
theorem aRM(T:Txt w K mg)(D:DefAt K mg "both" (top 23) ["one","two"])(a:aS P w K mg base TH 4 "joined" ["one","two","word"] gU):aS P w K mg base TH 5 "both" ["one","two"] j4:=
 @cE P w K mg base TH "both" (top 23) ["one","two"] ["one","two"] 4 t6 D aHN (λf c A outer s H F E b=>by
  have nd:=aHN.nd
  exact(Fl.aQ (Fl.bH (bB rfl rfl rfl (bA a (b.mono (by decide)) rfl (bD λ_ _ _ h=>h) (aD (aR (pv 0)) (aD (aR (pv 1)) (aD (aM b8) aU))))))))
theorem pR:FnScope ["machine","rows","onward"] ["machine"] (aK (top 24)):=by constructor<;>first|rfl|decide +kernel
theorem zM(T:Txt w K mg)(D:DefAt K mg "turned_about" (top 24) ["machine"])(d:aS P w K mg base TH 3 "moved" ["machine","rooms"] mZ)(a:aS P w K mg base TH 2 "mirrored" ["machine"] l6)(b:aS P w K mg base TH 1 "signs_of" ["machine"] cN)(c:aS P w K mg base TH 1 "bounded" ["rows"] hZ):aS P w K mg base TH 4 "turned_about" ["machine"] eF:=
 @cE P w K mg base TH "turned_about" (top 24) ["machine","rows","onward"] ["machine"] 3 kG D pR (λf g A outer s H F E e=>by
  have nd:=pR.nd
  exact(Fl.aH (Fl.aI (L2.aI (i:=1) nd rfl (Or.inl rfl) (bB rfl rfl rfl (bA d (e.mono (by decide)) rfl (bD λ_ _ _ h=>h) (aD (bB rfl rfl rfl (bA a (e.mono (by decide)) rfl (bD λ_ _ _ h=>h) (aD (aR (pv 0)) aU))) (aD (aM aG) aU))))))
   (Fl.aH (Fl.aI (L2.aI (i:=2) nd rfl (Or.inl rfl) (aM (b9 (aF aG (aF (a9 (aD5 rfl) yP (aB (b9 (aF (b9 (aF aG (aF aG aX))) aX))) (aB (cM (bB rfl rfl rfl (bA b (e.mono (by decide)) rfl (bD λ_ _ _ h=>h) (aD (aR (pv 0)) aU)))))) (aF (aZ (a8 rfl) aN (aB (aZ (a8 rfl) aN (aE (pv 1)) (aB aG))) (aB aG)) aX)))))))
   (Fl.aQ (Fl.bH (bB rfl rfl rfl (bA c (e.mono (by decide)) rfl (bD λ_ _ _ h=>h) (aD (aM (bY (yQ rfl (aB (bY (cW (aF (bR (pv 2)) aX)))) (aE (pv 1))))) aU))))))))
theorem zN:FnScope ["begin","after","done","found","numbers","rows","row","thing"] ["begin","after","done"] (aK (top 26)):=by constructor<;>first|rfl|decide +kernel
theorem aJC(T:Txt w K mg)(D:DefAt K mg "reached" (top 26) ["begin","after","done"]):aS P w K mg base TH 13 "reached" ["begin","after","done"] hV:=
 @cE P w K mg base TH "reached" (top 26) ["begin","after","done","found","numbers","rows","row","thing"] ["begin","after","done"] 12 t4 D zN (λf b A outer s H F E a=>by
  have nd:=zN.nd
  exact(Fl.aH (g9 (L2.aI (i:=3) nd rfl (Or.inl rfl) (cW (aF (bR (pv 0)) aX))))
   (Fl.aH (aP2 rfl rfl (L2.aI (i:=4) nd rfl (Or.inl rfl) (aP0 a.units (aM2 (bR (pv 0)) aG aP1))))
   (Fl.aH (g9 (L2.aI (i:=5) nd rfl (Or.inl rfl) (cW aX)))
   (Fl.aH (Fl.i4 (L2.i4 (iQ ⟨rfl,rfl⟩) (PW.pt (Fl.aC5 (Fl.cS aSY aMQ (aB (dM rfl (bM cK rfl T.b_len BB (aJ (aE (pv 5)) aP)))) (aB (dM rfl (bM cK rfl T.b_len BB (aJ (aE (pv 3)) aP)))) (b7 _)) (Fl.aAB (Fl.oI (Fl.jS (aP6 (m:=12) rfl rfl rfl (a.mono (by decide)) (aD8 (pv 2) (bD λ_ _ _ h=>h) (aD9 (aE (pv 3)) (aD9 (aB (dM rfl (bM cK rfl T.b_len BB (aJ (aE (pv 5)) aP)))) aP5)))))))))
   (Fl.aH (g9 (L2.aI (i:=6) nd rfl (Or.inl rfl) (cW aX)))
   (Fl.aH (Fl.gP (bZ 7) (L2.gP (iQ ⟨rfl,rfl⟩) rfl (aMT rfl (aTF (m:=12) rfl rfl rfl (a.mono (by decide)) (aD8 (pv 1) (bD λ_ _ _ h=>h) (aF (aZ (a8 rfl) aN (aE (pv 3)) (aB (dM rfl (bM cK rfl T.b_len BB (aJ (aE (pv 5)) aP))))) aX)))) (bX (i:=7) nd rfl (Or.inl rfl))
   (Fl.aH (Fl.dX (aD1 rfl rfl (uW (aMX a.units) (bR (pv 7)) (pv 4) (by with_unfolding_all rfl))) (Fl.aH (Fl.aAT rfl rfl (x3 (dM rfl (bM cK rfl T.b_len BB (aJ (aE (pv 3)) aP))) (aC6 (pv 4) (bR (pv 7)) (wX a.units))))
   (Fl.aQ (lZ rfl (L2.iL (kA BI BV BW hJ (pv 3) (aJ (bR (pv 7)) aP)))))) Fl.dA)
   (Fl.aQ (lZ rfl (L2.iL (kA BI BV BW hJ (pv 6) (aJ (aGP rfl rfl (aGO a.units (pv 4) (bR (pv 7)) (λ_ _=>rfl))) aP))))))))
   (Fl.aQ (lZ rfl (L2.iL (kA BI BV BW hJ (pv 5) (aJ (cO rfl (bP bI rfl T.b_tuple AY (aJ (aE (pv 6)) aP))) aP)))))))))
   (Fl.aQ (aCX 5 (aCX 3 (Fl.bH (aM (b9 (aF (bR (pv 3)) (aF (bR (pv 5)) aX)))))))))))))
theorem aFD:FnScope ["found","at"] ["found","at"] (aK (top 27)):=by constructor<;>first|rfl|decide +kernel
theorem aN3(T:Txt w K mg)(D:DefAt K mg "never" (top 27) ["found","at"]):aS P w K mg base TH 1 "never" ["found","at"] lR:=
 @cE P w K mg base TH "never" (top 27) ["found","at"] ["found","at"] 0 aA3 D aFD (λf a A outer s H F E b=>by
  have nd:=aFD.nd
  exact(Fl.aQ (Fl.bH (aM kX))))
end
section
variable{P:P9}{w:W9}{K:Frag}{mg:Str->O9 V9}{base:H9}{TH:Hp}
theorem zO:FnScope ["part"] ["part"] (aK (top 32)):=by constructor<;>first|rfl|decide +kernel
theorem aJD(T:Txt w K mg)(D:DefAt K mg "is_word" (top 32) ["part"]):aS P w K mg base TH 1 "is_word" ["part"] gM:=
 @cE P w K mg base TH "is_word" (top 32) ["part"] ["part"] 0 pI D zO (λf a A outer s H F E b=>by
  have nd:=zO.nd
  exact(Fl.aQ (Fl.bH (aM (aKJ (bM (aDZ rfl (aGL _)) rfl T.b_isinstance BJ (aJ (aE (pv 0)) (aJ (uV (v:=.ty "str") rfl T.b_str GY rfl) aP))))))))
theorem o7:FnScope ["machine","lefts"] ["machine"] (aK (top 33)):=by constructor<;>first|rfl|decide +kernel
theorem xR(T:Txt w K mg)(D:DefAt K mg "without_signs" (top 33) ["machine"]):aS P w K mg base TH 1 "without_signs" ["machine"] hX:=
 @cE P w K mg base TH "without_signs" (top 33) ["machine","lefts"] ["machine"] 0 l5 D o7 (λf a A outer s H F E c=>by
  have nd:=o7.nd
  exact(Fl.aH (Fl.aI (L2.aI (i:=1) nd rfl (Or.inl rfl) (aM (cO rfl (bP bI rfl T.b_tuple AY (aJ (aB (bY (eP (eO (N:=["row"]) (js:=[none]) rfl (.own .nil) (by rfl) (lB rfl (aE (pv 0)))) (by decide) (by decide) (is:=[0]) (λcl C b d e=>⟨_,(bX (i:=0) (show(["row"]:List Str).Nodup by decide +kernel) rfl (Or.inl rfl)),(bZ 0),Fl.dR,(aZ (a8 rfl) aN (aE (pv 0)) (aB aG))⟩)))) aP))))))
   (Fl.aQ (Fl.bH (aM (b9 (aF (aZ (a8 rfl) aN (aE (pv 1)) (aB aG)) (aF (bR (pv 1)) aX))))))))
theorem zP:FnScope ["backs","cells","room","been","cell"] ["backs","cells","room"] (aK (top 34)):=by constructor<;>first|rfl|decide +kernel
theorem aJE(T:Txt w K mg)(D:DefAt K mg "gone_on" (top 34) ["backs","cells","room"])(a:aS P w K mg base TH 1 "is_word" ["part"] gM):aS P w K mg base TH 2 "gone_on" ["backs","cells","room"] jZ:=
 @cE P w K mg base TH "gone_on" (top 34) ["backs","cells","room","been","cell"] ["backs","cells","room"] 1 t5 D zP (λf c A outer s H F E b=>by
  have nd:=zP.nd
  exact(Fl.aH (aAS rfl (L2.aI (i:=3) nd rfl (Or.inl rfl) aAR))
   (Fl.aH (Fl.i4 (L2.i4 (iQ ⟨rfl,rfl⟩) (Fl.oI (Fl.jS (cM (bB rfl rfl rfl (bA a (b.mono (by decide)) rfl (bD λ_ _ _ h=>h) (aD (aR (pv 2)) aU))))))
   (Fl.aH (Fl.dX (aD1 rfl rfl (uW (aGN b.units) (bR (pv 2)) (pv 3) (by with_unfolding_all rfl))) (Fl.aQ (Fl.bH (aM b8))) Fl.dA)
   (Fl.aH (Fl.aAT rfl rfl (x3 kX (aC6 (pv 3) (bR (pv 2)) (wX b.units))))
   (Fl.aH (Fl.aI (L2.aI (i:=4) nd rfl (Or.inl rfl) (aM (aZ (a8 rfl) aN (aE (pv 1)) (aE (pv 2))))))
   (Fl.aH (Fl.dX (Fl.cS (gH rfl b.units) eI (aB (aZ (a8 rfl) aN (aE (pv 4)) (aB aG))) (aB aG) (b7 _)) (Fl.aQ (Fl.bH (aM (aZ (a8 rfl) aN (aE (pv 4)) (aB aG))))) Fl.dA)
   (Fl.aQ (Fl.aI (L2.aI (i:=2) nd rfl (Or.inl rfl) (aM (aZ (a8 rfl) aN (aE (pv 0)) (aB (aZ (a8 rfl) aN (aE (pv 4)) (aB aG))))))))))))))
   (Fl.aQ (Fl.bH (aR (pv 2)))))))
theorem aCL:FnScope ["begun","cells","first","backs"] ["begun","cells"] (aK (top 35)):=by constructor<;>first|rfl|decide +kernel
theorem aLV(T:Txt w K mg)(D:DefAt K mg "longer" (top 35) ["begun","cells"])(a:aS P w K mg base TH 2 "gone_on" ["backs","cells","room"] jZ):aS P w K mg base TH 3 "longer" ["begun","cells"] i6:=
 @cE P w K mg base TH "longer" (top 35) ["begun","cells","first","backs"] ["begun","cells"] 2 xI D aCL (λf c A outer s H F E b=>by
  have nd:=aCL.nd
  exact(Fl.aH (Fl.aI (L2.aI (i:=2) nd rfl (Or.inl rfl) (bB rfl rfl rfl (bA a (b.mono (by decide)) rfl (bD λ_ _ _ h=>h) (aD (aM (aZ (a8 rfl) aN (aE (pv 0)) (aB aG))) (aD (aR (pv 1)) (aD (aM (aZ (a8 rfl) aN (aE (pv 0)) (aB aG))) aU)))))))
   (Fl.aH (Fl.aI (L2.aI (i:=3) nd rfl (Or.inl rfl) (aM (cO rfl (bP bI rfl T.b_tuple AY (aJ (aB (bY (eP (eO (N:=["room","begun","cells"]) (js:=[none,some 0,some 1]) rfl (.own (.cap rfl (.inl rfl) (.inl rfl) (.cap rfl (.inl rfl) (.inl rfl) .nil))) (by rfl) (aII (oA (lJ rfl T.b_range (aJ (aB (dM rfl (bM cK rfl T.b_len BB (aJ (aE (pv 1)) aP)))) aP))))) (by decide) (by decide) (is:=[0]) (λcl C d e g=>⟨_,(bX (i:=0) (show(["room","begun","cells"]:List Str).Nodup by decide +kernel) rfl (Or.inl rfl)),(bZ 0),Fl.dR,(cM (bB rfl rfl rfl (bA a (b.mono (by decide)) rfl nA (aD (aM (aZ (a8 rfl) aN (aE (pv 1)) (aB aG))) (aD (aR (pv 2)) (aD (aR (pv 0)) aU))))))⟩)))) aP))))))
   (Fl.aQ (Fl.bH (aM (b9 (aF (bR (pv 2)) (aF (bR (pv 3)) aX)))))))))
theorem qZ:FnScope ["machine","begun","room","been","turn"] ["machine","begun"] (aK (top 36)):=by constructor<;>first|rfl|decide +kernel
theorem aBI(T:Txt w K mg)(D:DefAt K mg "word_behind" (top 36) ["machine","begun"])(a:aS P w K mg base TH 1 "is_word" ["part"] gM):aS P w K mg base TH 2 "word_behind" ["machine","begun"] fO:=
 @cE P w K mg base TH "word_behind" (top 36) ["machine","begun","room","been","turn"] ["machine","begun"] 1 nQ D qZ (λf c A outer s H F E b=>by
  have nd:=qZ.nd
  exact(Fl.aH (Fl.aI (L2.aI (i:=2) nd rfl (Or.inl rfl) (aM (aZ (a8 rfl) aN (aE (pv 1)) (aB aG)))))
   (Fl.aH (aAS rfl (L2.aI (i:=3) nd rfl (Or.inl rfl) aAR))
   (Fl.aH (Fl.i4 (L2.i4 (iQ ⟨rfl,rfl⟩) (Fl.oI (Fl.jS (cM (bB rfl rfl rfl (bA a (b.mono (by decide)) rfl (bD λ_ _ _ h=>h) (aD (aR (pv 2)) aU))))))
   (Fl.aH (Fl.dX (aD1 rfl rfl (uW (aGN b.units) (bR (pv 2)) (pv 3) (by with_unfolding_all rfl))) (Fl.aQ (Fl.bH (aM b8))) Fl.dA)
   (Fl.aH (Fl.aAT rfl rfl (x3 kX (aC6 (pv 3) (bR (pv 2)) (wX b.units))))
   (Fl.aH (Fl.aI (L2.aI (i:=4) nd rfl (Or.inl rfl) (aM (aZ (a8 rfl) aN (aB (aZ (a8 rfl) aN (aE (pv 0)) (aE (pv 2)))) (aB aG)))))
   (Fl.aQ (Fl.aI (L2.aI (i:=2) nd rfl (Or.inl rfl) (aM (vB (Fl.jS (cM (bB rfl rfl rfl (bA a (b.mono (by decide)) rfl (bD λ_ _ _ h=>h) (aD (aR (pv 4)) aU))))) (bR (pv 4)) (aZ (a8 rfl) aN (aB (aZ (a8 rfl) aN (aE (pv 1)) (aB aG))) (aE (pv 4)))))))))))))
   (Fl.aQ (Fl.bH (aR (pv 2))))))))
end
section
variable{P:P9}{w:W9}{K:Frag}{mg:Str->O9 V9}{base:H9}{TH:Hp}
theorem iK:CloScope ["begun","columns"] ["begun"] ["columns"] eY.scope:=⟨rfl,rfl,rfl,by decide +kernel,rfl,by decide +kernel,by decide +kernel,by decide +kernel,by decide +kernel⟩
theorem wE:∀ y∈eY.scope.names,y.2=.free->(aK (top 37)).names.lookup y.1=some .cell\/(aK (top 37)).names.lookup y.1=some .free:=by decide +kernel
theorem uL:(iD,("one_way.<locals>.after":Str))∈qsT:=(.head _)
theorem wF:∀ p∈qsT,p.1.line=iD.line->p.1.col=iD.col->p.2=("one_way.<locals>.after":Str):=by decide +kernel
theorem uM(T:Txt w K mg)(a:aS P w K mg base TH 3 "longer" ["begun","cells"] i6):CloOk P w K mg base TH eY ["columns"] 4 1 (iT 2 eW):=
 @aKP P w K mg base TH eY ["begun","columns"] ["begun"] ["columns"] 3 _ eW rfl iK (λ_ _ _ _ _=>Mc.bn1 λ_=>rfl) (λf g cl A outer s H F E e b=>by
  have nd:=iK.nd
  exact(Fl.aQ (Fl.bH (aM (bY (eP (eO (N:=["cells","begun"]) (js:=[none,some 0]) rfl (.own (.cap rfl (.inl rfl) (.inl rfl) .nil)) (by rfl) (lB rfl (aE (pv 1)))) (by decide) (by decide) (is:=[0]) (λcl C c d h=>⟨_,(bX (i:=0) (show(["cells","begun"]:List Str).Nodup by decide +kernel) rfl (Or.inl rfl)),(bZ 0),Fl.dR,(cM (bB rfl rfl rfl (bA a (b.mono (by decide)) rfl nA (aD (aR (pv 1)) (aD (aR (pv 0)) aU)))))⟩)))))))
theorem jE:CloScope ["found","at"] ["found","at"] [] iE.scope:=⟨rfl,rfl,rfl,by decide +kernel,rfl,by decide +kernel,by decide +kernel,by decide +kernel,by decide +kernel⟩
theorem xS:∀ y∈iE.scope.names,y.2=.free->(aK (top 37)).names.lookup y.1=some .cell\/(aK (top 37)).names.lookup y.1=some .free:=by decide +kernel
theorem wG:(iJ,("one_way.<locals>.<lambda>":Str))∈qsT:=(.tail _ (.head _))
theorem xT:∀ p∈qsT,p.1.line=iJ.line->p.1.col=iJ.col->p.2=("one_way.<locals>.<lambda>":Str):=by decide +kernel
theorem wH(T:Txt w K mg):CloOk P w K mg base TH iE [] 1 2 (iT 2 gC):=
 @aTH P w K mg base TH iE ["found","at"] ["found","at"] [] 0 _ (e2 dGt (e1 dLen (rV 0)) (eC (.int 200))) rfl jE (λ_ _ _ _ _=>Mc.bn2 λ_ _=>rfl) (λf c cl A outer s H F E a b=>by
  have nd:=jE.nd
  exact(kO kP iG (aB (dM rfl (bM cK rfl T.b_len BB (aJ (aE (pv 0)) aP)))) (aB (gQ (fA (v:=.int 200) rfl T.g_MOST_BEGINNINGS.choose_spec ⟨_,rfl⟩) λ_=>.int _)) (b7 _)))
theorem zQ:FnScope ["machine","columns","after","search","found"] ["machine"] (aK (top 37)):=by constructor<;>first|rfl|decide +kernel
theorem aJF(T:Txt w K mg)(D:DefAtT K mg base TH qsT "one_way" (top 37) ["machine"])(e:aS P w K mg base TH 1 "signs_of" ["machine"] cN)(d:aS P w K mg base TH 1 "cells_of" ["machine","number"] kE)(j:aS P w K mg base TH 3 "longer" ["begun","cells"] i6)(g:aS P w K mg base TH 13 "reached" ["begin","after","done"] hV)(b:aS P w K mg base TH 1 "without_signs" ["machine"] hX)(c:aS P w K mg base TH 2 "word_behind" ["machine","begun"] fO){Wp_TooMany Cp_TooMany:Az}(a:ErrP K mg "TooMany" Wp_TooMany Cp_TooMany):aS P w K mg base TH 14 "one_way" ["machine"] dC:=
 @aGZ P w K mg base TH "one_way" (top 37) ["machine","columns","after","search","found"] ["machine"] 13 qsT (λq=>[(("one_way.<locals>.after":Str),eY)].lookup q) pJ D zQ (λf c0 P0 A outer s H F E l n o=>by
  have nd:=zQ.nd
  exact(Fl.aH (g9 (L2.aI (i:=1) nd rfl (Or.inr rfl) (eP (eO (N:=["number","machine"]) (js:=[none,some 0]) rfl (.own (.cap rfl (.inl rfl) (.inl rfl) .nil)) (by rfl) (aII (oA (lJ rfl T.b_range (aJ (aB (cM (bB rfl rfl rfl (bA e (o.mono (by decide)) rfl (bD λ_ _ _ h=>h) (aD (aR (pv 0)) aU))))) aP))))) (by decide) (by decide) (is:=[0]) (λcl C t p r=>⟨_,(bX (i:=0) (show(["number","machine"]:List Str).Nodup by decide +kernel) rfl (Or.inl rfl)),(bZ 0),Fl.dR,(cM (bB rfl rfl rfl (bA d (o.mono (by decide)) rfl nA (aD (aR (pv 1)) (aD (aR (pv 0)) aU)))))⟩))))
   (Fl.aH (aGV (S:=eY) rfl rfl n (L2.aJ8 rfl l rfl uL wF wE rfl rfl rfl nd rfl (Or.inl rfl)))
   (Fl.aH (aCX 1 (Fl.aI (L2.aI (i:=3) nd rfl (Or.inl rfl) (aKQ (js:=[1]) rfl rfl rfl rfl rfl rfl rfl (aA0 ⟨_,rfl,rfl,rfl⟩ aKS) (L2.aKB g (o.mono (by decide)) rfl (bD λ_ _ _ h=>h) (mV (aIR (bB rfl rfl rfl (bA b (o.mono (by decide)) rfl (bD λ_ _ _ h=>h) (aD (aR (pv 0)) aU)))) (mV (aGX (S:=eY) rfl (uM T j) (λy k=>iK.only (y,.free) k rfl) (λy k=>BG (iK.cap y k)) rfl (by decide) (pv 2)) (mV (aTI (S:=iE) rfl n (wH T ) (λy k=>jE.only (y,.free) k rfl) (λy k=>BG (jE.cap y k)) rfl (by decide) (L2.aST rfl l rfl wG xT xS rfl)) aGY))))))))
   (Fl.aH (Fl.aI (L2.aI (i:=4) nd rfl (Or.inl rfl) (aM (aZ (a8 rfl) aN (aE (pv 3)) (aB aG)))))
   (Fl.aH (Fl.dX (Fl.cS kP iG (aB (dM rfl (bM cK rfl T.b_len BB (aJ (aE (pv 4)) aP)))) (aB (gQ (fA (v:=.int 200) rfl T.g_MOST_BEGINNINGS.choose_spec ⟨_,rfl⟩) λ_=>.int _)) (b7 _)) (Fl.aQ (tX a.m (L2.i3 rfl a rfl (aJ (aD6 (aB (gQ (fA (v:=.int 200) rfl T.g_MOST_BEGINNINGS.choose_spec ⟨_,rfl⟩) λ_=>.int _))) aP)))) Fl.dA)
   (Fl.aQ (Fl.bH (aM (b9 (aF (cO rfl (bP bI rfl T.b_tuple AY (aJ (aB (aZ (a8 rfl) aN (aE (pv 3)) (aB aG))) aP))) (aF (cO rfl (bP bI rfl T.b_tuple AY (aJ (aB (bY (eP (eO (N:=["begun","machine"]) (js:=[none,some 0]) rfl (.own (.cap rfl (.inl rfl) (.inl rfl) .nil)) (by rfl) (lB rfl (aE (pv 4)))) (by decide) (by decide) (is:=[0]) (λcl C t p r=>⟨_,(bX (i:=0) (show(["begun","machine"]:List Str).Nodup by decide +kernel) rfl (Or.inl rfl)),(bZ 0),Fl.dR,(cM (bB rfl rfl rfl (bA c (o.mono (by decide)) rfl nA (aD (aR (pv 1)) (aD (aR (pv 0)) aU)))))⟩)))) aP))) aX))))))))))))
theorem aHO:FnScope ["one","other","search"] ["one","other"] (aK (top 44)):=by constructor<;>first|rfl|decide +kernel
theorem aRN(T:Txt w K mg)(D:DefAt K mg "held" (top 44) ["one","other"]):aS P w K mg base TH 1 "held" ["one","other"] xQ:=
 @cE P w K mg base TH "held" (top 44) ["one","other","search"] ["one","other"] 0 aFA D aHO (λf a A outer s H F E b=>by
  have nd:=aHO.nd
  exact aRG)
theorem wN:FnScope ["one","other"] ["one","other"] (aK (top 45)):=by constructor<;>first|rfl|decide +kernel
theorem aF5(T:Txt w K mg)(D:DefAt K mg "compared" (top 45) ["one","other"])(b:aS P w K mg base TH 1 "signs_of" ["machine"] cN)(d:aS P w K mg base TH 1 "held" ["one","other"] xQ)(c:aS P w K mg base TH 14 "one_way" ["machine"] dC){Wp_NotLike Cp_NotLike:Az}(a:ErrP K mg "NotLike" Wp_NotLike Cp_NotLike):aS P w K mg base TH 15 "compared" ["one","other"] gA:=
 @cE P w K mg base TH "compared" (top 45) ["one","other"] ["one","other"] 14 mI D wN (λf g A outer s H F E e=>by
  have nd:=wN.nd
  exact(Fl.aH (Fl.dX (Fl.cS (iS rfl e.units) fX (aB (cM (bB rfl rfl rfl (bA b (e.mono (by decide)) rfl (bD λ_ _ _ h=>h) (aD (aR (pv 0)) aU))))) (aB (cM (bB rfl rfl rfl (bA b (e.mono (by decide)) rfl (bD λ_ _ _ h=>h) (aD (aR (pv 1)) aU))))) (b7 _)) (Fl.aQ (Fl.i3 a.m (L2.i3 rfl a rfl (aF b8 aX)))) Fl.dA)
   (Fl.aQ (Fl.bH (bB rfl rfl rfl (bA d (e.mono (by decide)) rfl (bD λ_ _ _ h=>h) (aD (bB rfl rfl rfl (bA c (e.mono (by decide)) rfl (bD λ_ _ _ h=>h) (aD (aR (pv 0)) aU))) (aD (bB rfl rfl rfl (bA c (e.mono (by decide)) rfl (bD λ_ _ _ h=>h) (aD (aR (pv 1)) aU))) aU))))))))
theorem aCM:FnScope ["keys","first","room","key"] ["keys"] (aK (top 47)):=by constructor<;>first|rfl|decide +kernel
theorem aLW(T:Txt w K mg)(D:DefAt K mg "firsts" (top 47) ["keys"]):aS P w K mg base TH 1 "firsts" ["keys"] i7:=
 @cE P w K mg base TH "firsts" (top 47) ["keys","first","room","key"] ["keys"] 0 xJ D aCM (λf b A outer s H F E a=>by
  have nd:=aCM.nd
  exact(Fl.aH (aAS rfl (L2.aI (i:=1) nd rfl (Or.inr rfl) aAR))
   (Fl.aH (Fl.gP (qJ rfl (fJ (bZ 2) (fJ (bZ 3) n9)) rfl) (L2.gP (iQ ⟨rfl,rfl⟩) rfl (aQL rfl (L2.aQJ rfl T.b_enumerate (aJ (bR (pv 0)) aP))) (qA rfl (fH (bX (i:=2) nd rfl (Or.inl rfl)) (fH (bX (i:=3) nd rfl (Or.inl rfl)) nY)))
   (Fl.aQ (aQI rfl rfl (L2.iL (aTB PySem.F.plainAttrs_dict D5 PySem.F.type_dict_setdefault (aTQ a.units) (pv 1) (aJ (bR (pv 3)) (aJ (bR (pv 2)) aP))))))))
   (Fl.aQ (Fl.bH (aM (bY (eP (eO (N:=["key","first"]) (js:=[none,some 1]) rfl (.own (.cap rfl (.inl rfl) (.inl rfl) .nil)) (by rfl) (lB rfl (aE (pv 0)))) (by decide) (by decide) (is:=[0]) (λcl C c d e=>⟨_,(bX (i:=0) (show(["key","first"]:List Str).Nodup by decide +kernel) rfl (Or.inl rfl)),(bZ 0),Fl.dR,(aGP rfl rfl (aGO a.units (pv 1) (bR (pv 0)) (λ_ _=>rfl)))⟩)))))))))
theorem pS:FnScope ["likes","row"] ["likes","row"] (aK (top 48)):=by constructor<;>first|rfl|decide +kernel
theorem zR(T:Txt w K mg)(D:DefAt K mg "behind_signs" (top 48) ["likes","row"]):aS P w K mg base TH 1 "behind_signs" ["likes","row"] dG:=
 @cE P w K mg base TH "behind_signs" (top 48) ["likes","row"] ["likes","row"] 0 kF D pS (λf a A outer s H F E c=>by
  have nd:=pS.nd
  exact(Fl.aQ (Fl.bH (aM (cO rfl (bP bI rfl T.b_tuple AY (aJ (aB (bY (eP (eO (N:=["there","likes"]) (js:=[none,some 0]) rfl (.own (.cap rfl (.inl rfl) (.inl rfl) .nil)) (by rfl) (lB rfl (aE (pv 1)))) (by decide) (by decide) (is:=[0]) (λcl C b d e=>⟨_,(bX (i:=0) (show(["there","likes"]:List Str).Nodup by decide +kernel) rfl (Or.inl rfl)),(bZ 0),Fl.dR,(aZ (a8 rfl) aN (aE (pv 1)) (aE (pv 0)))⟩)))) aP)))))))
end
section
variable{P:P9}{w:W9}{K:Frag}{mg:Str->O9 V9}{base:H9}{TH:Hp}
theorem aFE:FnScope ["rows","likes"] ["rows","likes"] (aK (top 49)):=by constructor<;>first|rfl|decide +kernel
theorem aN4(T:Txt w K mg)(D:DefAt K mg "finer" (top 49) ["rows","likes"])(b:aS P w K mg base TH 1 "firsts" ["keys"] i7)(a:aS P w K mg base TH 1 "behind_signs" ["likes","row"] dG):aS P w K mg base TH 2 "finer" ["rows","likes"] oC:=
 @cE P w K mg base TH "finer" (top 49) ["rows","likes"] ["rows","likes"] 1 aA4 D aFE (λf d A outer s H F E c=>by
  have nd:=aFE.nd
  exact(Fl.aQ (Fl.bH (bB rfl rfl rfl (bA b (c.mono (by decide)) rfl (bD λ_ _ _ h=>h) (aD (aM (bY (eP (eO (N:=["like","row","likes"]) (js:=[none,none,some 1]) rfl (.own (.own (.cap rfl (.inl rfl) (.inl rfl) .nil))) (by rfl) (aQG rfl (L2.aTO rfl T.b_zip (aJ (aE (pv 1)) (aJ (aE (pv 0)) aP))))) (by decide) (by decide) (is:=[0,1]) (λcl C e g j=>⟨_,(qA rfl (fH (bX (i:=0) (show(["like","row","likes"]:List Str).Nodup by decide +kernel) rfl (Or.inl rfl)) (fH (bX (i:=1) (show(["like","row","likes"]:List Str).Nodup by decide +kernel) rfl (Or.inl rfl)) nY))),(qJ rfl (fJ (bZ 0) (fJ (bZ 1) n9)) rfl),Fl.dR,(b9 (aF (bR (pv 0)) (aF (cM (bB rfl rfl rfl (bA a (c.mono (by decide)) rfl nA (aD (aR (pv 2)) (aD (aR (pv 1)) aU))))) aX)))⟩)))) aU))))))
theorem q9:FnScope ["reader","likes","again"] ["reader"] (aK (top 50)):=by constructor<;>first|rfl|decide +kernel
theorem aBJ(T:Txt w K mg)(D:DefAt K mg "alike_rooms" (top 50) ["reader"])(b:aS P w K mg base TH 1 "firsts" ["keys"] i7)(a:aS P w K mg base TH 2 "finer" ["rows","likes"] oC):aS P w K mg base TH 3 "alike_rooms" ["reader"] eS:=
 @cE P w K mg base TH "alike_rooms" (top 50) ["reader","likes","again"] ["reader"] 2 nR D q9 (λf d A outer s H F E c=>by
  have nd:=q9.nd
  exact(Fl.aH (Fl.aI (L2.aI (i:=1) nd rfl (Or.inl rfl) (bB rfl rfl rfl (bA b (c.mono (by decide)) rfl (bD λ_ _ _ h=>h) (aD (aM (aZ (a8 rfl) aN (aE (pv 0)) (aB aG))) aU)))))
   (Fl.aH (Fl.aI (L2.aI (i:=2) nd rfl (Or.inl rfl) (bB rfl rfl rfl (bA a (c.mono (by decide)) rfl (bD λ_ _ _ h=>h) (aD (aM (aZ (a8 rfl) aN (aE (pv 0)) (aB aG))) (aD (aR (pv 1)) aU))))))
   (Fl.aH (Fl.i4 (L2.i4 (iQ ⟨rfl,rfl⟩) (Fl.cS (iS rfl c.units) fX (aE (pv 2)) (aE (pv 1)) (b7 _))
   (Fl.aH (Fl.aI (L2.aI (i:=1) nd rfl (Or.inl rfl) (aR (pv 2))))
   (Fl.aQ (Fl.aI (L2.aI (i:=2) nd rfl (Or.inl rfl) (bB rfl rfl rfl (bA a (c.mono (by decide)) rfl (bD λ_ _ _ h=>h) (aD (aM (aZ (a8 rfl) aN (aE (pv 0)) (aB aG))) (aD (aR (pv 1)) aU))))))))))
   (Fl.aQ (Fl.bH (aR (pv 1))))))))
theorem jR:CloScope ["room","likes","reader"] ["room"] ["likes","reader"] f6.scope:=⟨rfl,rfl,rfl,by decide +kernel,rfl,by decide +kernel,by decide +kernel,by decide +kernel,by decide +kernel⟩
theorem zS:∀ y∈f6.scope.names,y.2=.free->(aK (top 51)).names.lookup y.1=some .cell\/(aK (top 51)).names.lookup y.1=some .free:=by decide +kernel
theorem xU:(jD,("least.<locals>.after":Str))∈qsT:=(.tail _ (.tail _ (.head _)))
theorem zT:∀ p∈qsT,p.1.line=jD.line->p.1.col=jD.col->p.2=("least.<locals>.after":Str):=by decide +kernel
theorem xV(T:Txt w K mg)(a:aS P w K mg base TH 1 "behind_signs" ["likes","row"] dG):CloOk P w K mg base TH f6 ["likes","reader"] 2 1 (iT 3 fY):=
 @aKP P w K mg base TH f6 ["room","likes","reader"] ["room"] ["likes","reader"] 1 _ fY rfl jR (λ_ _ _ _ _=>Mc.bn1 λ_=>rfl) (λf d cl A outer s H F E c b=>by
  have nd:=jR.nd
  exact(Fl.aQ (Fl.bH (bB rfl rfl rfl (bA a (b.mono (by decide)) rfl (bD λ_ _ _ h=>h) (aD (aR (pv 1)) (aD (aM (aZ (a8 rfl) aN (aB (aZ (a8 rfl) aN (aE (pv 2)) (aB aG))) (aE (pv 0)))) aU)))))))
theorem aFF:FnScope ["reader","likes","after","search"] ["reader"] (aK (top 51)):=by constructor<;>first|rfl|decide +kernel
theorem aN5(T:Txt w K mg)(D:DefAtT K mg base TH qsT "least" (top 51) ["reader"])(b:aS P w K mg base TH 3 "alike_rooms" ["reader"] eS)(a:aS P w K mg base TH 1 "behind_signs" ["likes","row"] dG)(c:aS P w K mg base TH 13 "reached" ["begin","after","done"] hV)(d:aS P w K mg base TH 1 "never" ["found","at"] lR):aS P w K mg base TH 14 "least" ["reader"] oD:=
 @aGZ P w K mg base TH "least" (top 51) ["reader","likes","after","search"] ["reader"] 13 qsT (λq=>[(("least.<locals>.after":Str),f6)].lookup q) aA5 D aFF (λf c0 P0 A outer s H F E g e l=>by
  have nd:=aFF.nd
  exact(Fl.aH (Fl.aI (L2.aI (i:=1) nd rfl (Or.inr rfl) (bB rfl rfl rfl (bA b (l.mono (by decide)) rfl (bD λ_ _ _ h=>h) (aD (aR (pv 0)) aU)))))
   (Fl.aH (aGV (S:=f6) rfl rfl e (L2.aJ8 rfl g rfl xU zT zS rfl rfl rfl nd rfl (Or.inl rfl)))
   (Fl.aH (Fl.aI (L2.aI (i:=3) nd rfl (Or.inl rfl) (aKQ (js:=[1,0]) rfl rfl rfl rfl rfl rfl rfl (aA0 ⟨_,rfl,rfl,rfl⟩ (aA0 ⟨_,rfl,rfl,rfl⟩ aKS)) (L2.aKB c (l.mono (by decide)) rfl (bD λ_ _ _ h=>h) (mV (aIR (aM (aZ (a8 rfl) aN (aE (pv 1)) (aB aG)))) (mV (aGX (S:=f6) rfl (xV T a) (λy j=>jR.only (y,.free) j rfl) (λy j=>BG (jR.cap y j)) rfl (by decide) (pv 2)) (mV (aIR (aQB (k:=1) (x:="never") (ps:=["found","at"]) (G:=lR) rfl d rfl)) aGY)))))))
   (Fl.aQ (Fl.bH (aM (b9 (aF (cO rfl (bP bI rfl T.b_tuple AY (aJ (aB (aZ (a8 rfl) aN (aE (pv 3)) (aB aG))) aP))) (aF (cO rfl (bP bI rfl T.b_tuple AY (aJ (aB (bY (eP (eO (N:=["room","reader"]) (js:=[none,some 0]) rfl (.own (.cap rfl (.inl rfl) (.inl rfl) .nil)) (by rfl) (lB rfl (aB (aZ (a8 rfl) aN (aE (pv 3)) (aB aG))))) (by decide) (by decide) (is:=[0]) (λcl C m n o=>⟨_,(bX (i:=0) (show(["room","reader"]:List Str).Nodup by decide +kernel) rfl (Or.inl rfl)),(bZ 0),Fl.dR,(aZ (a8 rfl) aN (aB (aZ (a8 rfl) aN (aE (pv 1)) (aB aG))) (aE (pv 0)))⟩)))) aP))) aX))))))))))
theorem o8:FnScope ["word"] ["word"] (aK (top 53)):=by constructor<;>first|rfl|decide +kernel
theorem xW(T:Txt w K mg)(D:DefAt K mg "stopping_word" (top 53) ["word"]):aS P w K mg base TH 1 "stopping_word" ["word"] fM:=
 @cE P w K mg base TH "stopping_word" (top 53) ["word"] ["word"] 0 l7 D o8 (λf a A outer s H F E b=>by
  have nd:=o8.nd
  exact(Fl.aQ (Fl.bH (aM (vB (Fl.cS (gH rfl b.units) eI (aE (pv 0)) (aB b8) (b7 _)) b8 (bR (pv 0)))))))
theorem pT:FnScope ["reader","room","left"] ["reader","room"] (aK (top 54)):=by constructor<;>first|rfl|decide +kernel
theorem zU(T:Txt w K mg)(D:DefAt K mg "stopping_row" (top 54) ["reader","room"]):aS P w K mg base TH 1 "stopping_row" ["reader","room"] gO:=
 @cE P w K mg base TH "stopping_row" (top 54) ["reader","room","left"] ["reader","room"] 0 mY D pT (λf a A outer s H F E b=>by
  have nd:=pT.nd
  exact(Fl.aH (Fl.aI (L2.aI (i:=2) nd rfl (Or.inl rfl) (aM (vB (Fl.cS (gH rfl b.units) eI (aE (pv 1)) (aB aG) (b7 _)) aG b8))))
   (Fl.aQ (Fl.bH (aM (b9 (aF (bR (pv 2)) (aF (cO rfl (bP bI rfl T.b_tuple AY (aJ (aB (bY (eP (eO (N:=["there"]) (js:=[none]) rfl (.own .nil) (by rfl) (lB rfl (aB (aZ (a8 rfl) aN (aB (aZ (a8 rfl) aN (aE (pv 0)) (aB aG))) (aE (pv 1)))))) (by decide) (by decide) (is:=[0]) (λcl C c d e=>⟨_,(bX (i:=0) (show(["there"]:List Str).Nodup by decide +kernel) rfl (Or.inl rfl)),(bZ 0),Fl.dR,(b9 (aF (bR (pv 0)) (aF aG aX)))⟩)))) aP))) (aF (aZ (a8 rfl) aN (aB (aZ (a8 rfl) aN (aE (pv 0)) (aB aG))) (aE (pv 1))) aX)))))))))
end
section
variable{P:P9}{w:W9}{K:Frag}{mg:Str->O9 V9}{base:H9}{TH:Hp}
theorem wO:FnScope ["machine","reader","words","smallest","rooms"] ["machine"] (aK (top 55)):=by constructor<;>first|rfl|decide +kernel
theorem aF6(T:Txt w K mg)(D:DefAt K mg "stopping" (top 55) ["machine"])(d:aS P w K mg base TH 14 "one_way" ["machine"] dC)(b:aS P w K mg base TH 1 "stopping_word" ["word"] fM)(e:aS P w K mg base TH 14 "least" ["reader"] oD)(c:aS P w K mg base TH 1 "stopping_row" ["reader","room"] gO){Wp_TooMany Cp_TooMany:Az}(a:ErrP K mg "TooMany" Wp_TooMany Cp_TooMany):aS P w K mg base TH 15 "stopping" ["machine"] dD:=
 @cE P w K mg base TH "stopping" (top 55) ["machine","reader","words","smallest","rooms"] ["machine"] 14 l8 D wO (λf j A outer s H F E g=>by
  have nd:=wO.nd
  exact(Fl.aH (Fl.aI (L2.aI (i:=1) nd rfl (Or.inl rfl) (bB rfl rfl rfl (bA d (g.mono (by decide)) rfl (bD λ_ _ _ h=>h) (aD (aR (pv 0)) aU)))))
   (Fl.aH (Fl.aI (L2.aI (i:=2) nd rfl (Or.inl rfl) (aM (cO rfl (bP bI rfl T.b_tuple AY (aJ (aB (bY (eP (eO (N:=["word"]) (js:=[none]) rfl (.own .nil) (by rfl) (lB rfl (aB (aZ (a8 rfl) aN (aE (pv 1)) (aB aG))))) (by decide) (by decide) (is:=[0]) (λcl C k l n=>⟨_,(bX (i:=0) (show(["word"]:List Str).Nodup by decide +kernel) rfl (Or.inl rfl)),(bZ 0),Fl.dR,(cM (bB rfl rfl rfl (bA b (g.mono (by decide)) rfl nA (aD (aR (pv 0)) aU))))⟩)))) aP))))))
   (Fl.aH (Fl.aI (L2.aI (i:=3) nd rfl (Or.inr rfl) (bB rfl rfl rfl (bA e (g.mono (by decide)) rfl (bD λ_ _ _ h=>h) (aD (aM (b9 (aF (aZ (a8 rfl) aN (aE (pv 1)) (aB aG)) (aF (bR (pv 2)) aX)))) aU)))))
   (Fl.aH (Fl.aI (L2.aI (i:=4) nd rfl (Or.inl rfl) (aM (dM rfl (bM cK rfl T.b_len BB (aJ (aB (aZ (a8 rfl) aN (aE (pv 3)) (aB aG))) aP))))))
   (Fl.aH (Fl.dX (Fl.cS kP iG (aE (pv 4)) (aB (gQ (fA (v:=.int 60) rfl T.g_MOST_ROOMS.choose_spec ⟨_,rfl⟩) λ_=>.int _)) (b7 _)) (Fl.aQ (tX a.m (L2.i3 rfl a rfl (aJ (aD6 (aB (gQ (fA (v:=.int 60) rfl T.g_MOST_ROOMS.choose_spec ⟨_,rfl⟩) λ_=>.int _))) aP)))) Fl.dA)
   (Fl.aQ (Fl.bH (aM (cO rfl (bP bI rfl T.b_tuple AY (aJ (aB (bY (eP (eO (N:=["room","smallest"]) (js:=[none,some 3]) rfl (.own (.cap rfl (.inl rfl) (.inl rfl) .nil)) (by rfl) (aII (oA (lJ rfl T.b_range (aJ (aE (pv 4)) aP))))) (by decide) (by decide) (is:=[0]) (λcl C k l n=>⟨_,(bX (i:=0) (show(["room","smallest"]:List Str).Nodup by decide +kernel) rfl (Or.inl rfl)),(bZ 0),Fl.dR,(cM (bB rfl rfl rfl (bA c (g.mono (by decide)) rfl nA (aD (aR (pv 1)) (aD (aR (pv 0)) aU)))))⟩)))) aP))))))))))))
theorem uN:FnScope ["_law_script","_law_k","_law_cell_here","_law_mixed"] ["_law_script","_law_k"] (aK (top 57)):=by constructor<;>first|rfl|decide +kernel
theorem aFG(T:Txt w K mg)(D:DefAt K mg "_law_cell" (top 57) ["_law_script","_law_k"]):aS P w K mg base TH 1 "_law_cell" ["_law_script","_law_k"] cZ:=
 @cE P w K mg base TH "_law_cell" (top 57) ["_law_script","_law_k","_law_cell_here","_law_mixed"] ["_law_script","_law_k"] 0 nG D uN (λf a A outer s H F E b=>by
  have nd:=uN.nd
  exact(Fl.aH (Fl.aI (L2.aI (i:=2) nd rfl (Or.inl rfl) (aM aG)))
   (Fl.aH (Fl.dX (Fl.cS kP iG (aB (dM rfl (bM cK rfl T.b_len BB (aJ (aE (pv 0)) aP)))) (aB aG) (b7 _)) (Fl.aQ (Fl.aI (L2.aI (i:=2) nd rfl (Or.inl rfl) (aM (aZ (a8 rfl) aN (aE (pv 0)) (aB (a9 cY cD (aE (pv 1)) (aB (dM rfl (bM cK rfl T.b_len BB (aJ (aE (pv 0)) aP))))))))))) Fl.dA)
   (Fl.aH (Fl.aI (L2.aI (i:=3) nd rfl (Or.inl rfl) (aM (a9 cY cD (aB (a9 n6 lP (aB (a9 (cQ rfl) bV (aB (a9 (cQ rfl) bV (aB (a9 cY cD (aE (pv 2)) (aB aG))) (aB (a9 n6 lP (aB aG) (aE (pv 1)))))) (aB aG))) (aB aG))) (aB aG)))))
   (Fl.aQ (Fl.bH (aM (a9 (cQ rfl) bV (aB (a9 n6 lP (aB (a9 mS jV (aE (pv 2)) (aB aG))) (aB aG))) (aB (a9 cY cD (aB (a9 (cQ rfl) bV (aB (a9 n6 lP (aE (pv 3)) (aB aG))) (aB (a9 n6 lP (aB aG) (aE (pv 1)))))) (aB aG)))))))))))
theorem pU:FnScope ["_law_p","_law_q","_law_a","_law_b","_law_signs","_law_rows_here","_law_k","_law_there"] ["_law_p","_law_q","_law_a","_law_b","_law_signs"] (aK (top 58)):=by constructor<;>first|rfl|decide +kernel
theorem zV(T:Txt w K mg)(D:DefAt K mg "_law_sweeper" (top 58) ["_law_p","_law_q","_law_a","_law_b","_law_signs"]):aS P w K mg base TH 1 "_law_sweeper" ["_law_p","_law_q","_law_a","_law_b","_law_signs"] fD:=
 @cE P w K mg base TH "_law_sweeper" (top 58) ["_law_p","_law_q","_law_a","_law_b","_law_signs","_law_rows_here","_law_k","_law_there"] ["_law_p","_law_q","_law_a","_law_b","_law_signs"] 0 nM D pU (λf b A outer s H F E a=>by
  have nd:=pU.nd
  exact(Fl.aH (g9 (L2.aI (i:=5) nd rfl (Or.inl rfl) (cW aX)))
   (Fl.aH (Fl.gP (bZ 6) (L2.gP (iQ ⟨rfl,rfl⟩) rfl (oA (lJ rfl T.b_range (aJ (aE (pv 0)) aP))) (bX (i:=6) nd rfl (Or.inl rfl))
   (Fl.aH (Fl.aI (L2.aI (i:=7) nd rfl (Or.inl rfl) (aM (aZ (a8 rfl) aN (aB (bY (cW (aF b8 (aF (bR (pv 0)) aX))))) (aB (mT (bP jT rfl T.b_int CK (aJ (aB (kO (gH rfl a.units) eI (aE (pv 6)) (aE (pv 2)) (b7 _))) aP))))))))
   (Fl.aQ (lZ rfl (L2.iL (kA BI BV BW hJ (pv 5) (aJ (b9 (aF (aZ (a8 rfl) aN (aB (bY (cW (aF aG (aF b8 aX))))) (aB (mT (bP jT rfl T.b_int CK (aJ (aB (kO kP iG (aE (pv 6)) (aB aG) (b7 _))) aP))))) (aF (cO rfl (bP bI rfl T.b_tuple AY (aJ (aB (bY (oG (cW (aF (b9 (aF (a9 cY cD (aB (a9 (cQ rfl) bV (aE (pv 6)) (aB aG))) (aE (pv 0))) (aF aG aX))) aX)) (aE (pv 4))))) aP))) (aF (bR (pv 7)) aX)))) aP))))))))
   (Fl.aH (Fl.gP (bZ 6) (L2.gP (iQ ⟨rfl,rfl⟩) rfl (oA (lJ rfl T.b_range (aJ (aE (pv 1)) aP))) (bX (i:=6) nd rfl (Or.inl rfl))
   (Fl.aQ (lZ rfl (L2.iL (kA BI BV BW hJ (pv 5) (aJ (b9 (aF (aZ (a8 rfl) aN (aB (bY (cW (aF b8 (aF b8 aX))))) (aB (mT (bP jT rfl T.b_int CK (aJ (aB (kO (gH rfl a.units) eI (aE (pv 6)) (aE (pv 3)) (b7 _))) aP))))) (aF (cO rfl (bP bI rfl T.b_tuple AY (aJ (aB (bY (oG (cW (aF (b9 (aF (a9 (cQ rfl) bV (aE (pv 0)) (aB (a9 cY cD (aB (a9 (cQ rfl) bV (aE (pv 6)) (aB aG))) (aE (pv 1))))) (aF (aCW vA pF (aB aG)) aX))) aX)) (aE (pv 4))))) aP))) (aF b8 aX)))) aP)))))))
   (Fl.aQ (Fl.bH (aM (cO rfl (bP bI rfl T.b_tuple AY (aJ (aE (pv 5)) aP))))))))))
theorem uO:FnScope ["_law_many","_law_signs","_law_rows_here","_law_room","_law_cells"] ["_law_many","_law_signs"] (aK (top 59)):=by constructor<;>first|rfl|decide +kernel
theorem aFH(T:Txt w K mg)(D:DefAt K mg "_law_less" (top 59) ["_law_many","_law_signs"]):aS P w K mg base TH 1 "_law_less" ["_law_many","_law_signs"] gE:=
 @cE P w K mg base TH "_law_less" (top 59) ["_law_many","_law_signs","_law_rows_here","_law_room","_law_cells"] ["_law_many","_law_signs"] 0 mJ D uO (λf a A outer s H F E b=>by
  have nd:=uO.nd
  exact(Fl.aH (g9 (L2.aI (i:=2) nd rfl (Or.inl rfl) (cW aX)))
   (Fl.aH (Fl.gP (bZ 3) (L2.gP (iQ ⟨rfl,rfl⟩) rfl (oA (lJ rfl T.b_range (aJ (aB (a9 (cQ rfl) bV (aE (pv 0)) (aB aG))) aP))) (bX (i:=3) nd rfl (Or.inl rfl))
   (Fl.aH (Fl.aI (L2.aI (i:=4) nd rfl (Or.inl rfl) (aM (cO rfl (bP bI rfl T.b_tuple AY (aJ (aB (bY (oG (cW (aF (b9 (aF (yO (G:=jW) (bM (s9 rfl) rfl T.b_min EZ (aJ (aB (a9 (cQ rfl) bV (aE (pv 3)) (aB aG))) (aJ (aE (pv 0)) aP)))) (aF aG aX))) aX)) (aE (pv 1))))) aP))))))
   (Fl.aQ (lZ rfl (L2.iL (kA BI BV BW hJ (pv 2) (aJ (b9 (aF (aZ (a8 rfl) aN (aB (bY (cW (aF aG (aF b8 aX))))) (aB (mT (bP jT rfl T.b_int CK (aJ (aB (kO kP iG (aE (pv 3)) (aB aG) (b7 _))) aP))))) (aF (bR (pv 4)) (aF (aZ (a8 rfl) aN (aB (bY (cW (aF b8 (aF b8 aX))))) (aB (mT (bP jT rfl T.b_int CK (aJ (aB (kO (gH rfl b.units) eI (aE (pv 3)) (aE (pv 0)) (b7 _))) aP))))) aX)))) aP))))))))
   (Fl.aQ (Fl.bH (aM (cO rfl (bP bI rfl T.b_tuple AY (aJ (aE (pv 2)) aP)))))))))
theorem zW:FnScope ["_law_end","_law_by"] ["_law_end","_law_by"] (aK (top 60)):=by constructor<;>first|rfl|decide +kernel
theorem aJG(T:Txt w K mg)(D:DefAt K mg "_law_up" (top 60) ["_law_end","_law_by"]):aS P w K mg base TH 1 "_law_up" ["_law_end","_law_by"] j6:=
 @cE P w K mg base TH "_law_up" (top 60) ["_law_end","_law_by"] ["_law_end","_law_by"] 0 pO D zW (λf a A outer s H F E b=>by
  have nd:=zW.nd
  exact(Fl.aH (Fl.dX (Fl.jS (aKJ (bM (aDZ rfl (aGL _)) rfl T.b_isinstance BJ (aJ (aE (pv 0)) (aJ (uV (v:=.ty "str") rfl T.b_str GY rfl) aP))))) (Fl.aQ (Fl.bH (aR (pv 0)))) Fl.dA)
   (Fl.aQ (Fl.bH (aM (a9 (cQ rfl) bV (aE (pv 0)) (aE (pv 1))))))))
end
section
variable{P:P9}{w:W9}{K:Frag}{mg:Str->O9 V9}{base:H9}{TH:Hp}
theorem rA:FnScope ["_law_machine","_law_by","_law_rows_here","_law_left","_law_cells","_law_right"] ["_law_machine","_law_by"] (aK (top 61)):=by constructor<;>first|rfl|decide +kernel
theorem aBK(T:Txt w K mg)(D:DefAt K mg "_law_raised" (top 61) ["_law_machine","_law_by"])(a:aS P w K mg base TH 1 "_law_up" ["_law_end","_law_by"] j6):aS P w K mg base TH 2 "_law_raised" ["_law_machine","_law_by"] gJ:=
 @cE P w K mg base TH "_law_raised" (top 61) ["_law_machine","_law_by","_law_rows_here","_law_left","_law_cells","_law_right"] ["_law_machine","_law_by"] 1 kM D rA (λf c A outer s H F E b=>by
  have nd:=rA.nd
  exact(Fl.aH (g9 (L2.aI (i:=2) nd rfl (Or.inl rfl) (cW aX)))
   (Fl.aH (Fl.gP (qJ rfl (fJ (bZ 3) (fJ (bZ 4) (fJ (bZ 5) n9))) rfl) (L2.gP (iQ ⟨rfl,rfl⟩) rfl (aMT rfl (bR (pv 0))) (qA rfl (fH (bX (i:=3) nd rfl (Or.inl rfl)) (fH (bX (i:=4) nd rfl (Or.inl rfl)) (fH (bX (i:=5) nd rfl (Or.inl rfl)) nY))))
   (Fl.aQ (lZ rfl (L2.iL (kA BI BV BW hJ (pv 2) (aJ (b9 (aF (cM (bB rfl rfl rfl (bA a (b.mono (by decide)) rfl (bD λ_ _ _ h=>h) (aD (aR (pv 3)) (aD (aR (pv 1)) aU))))) (aF (cO rfl (bP bI rfl T.b_tuple AY (aJ (aB (bY (eP (eO (N:=["_law_there","_law_step","_law_by"]) (js:=[none,none,some 1]) rfl (.own (.own (.cap rfl (.inl rfl) (.inl rfl) .nil))) (by rfl) (lB rfl (aE (pv 4)))) (by decide) (by decide) (is:=[0,1]) (λcl C d e g=>⟨_,(qA rfl (fH (bX (i:=0) (show(["_law_there","_law_step","_law_by"]:List Str).Nodup by decide +kernel) rfl (Or.inl rfl)) (fH (bX (i:=1) (show(["_law_there","_law_step","_law_by"]:List Str).Nodup by decide +kernel) rfl (Or.inl rfl)) nY))),(qJ rfl (fJ (bZ 0) (fJ (bZ 1) n9)) rfl),Fl.dR,(b9 (aF (a9 (cQ rfl) bV (aE (pv 0)) (aE (pv 2))) (aF (bR (pv 1)) aX)))⟩)))) aP))) (aF (cM (bB rfl rfl rfl (bA a (b.mono (by decide)) rfl (bD λ_ _ _ h=>h) (aD (aR (pv 5)) (aD (aR (pv 1)) aU))))) aX)))) aP)))))))
   (Fl.aQ (aCX 2 (Fl.bH (aR (pv 2))))))))
theorem rB:FnScope ["_law_one","_law_two","_law_word","_law_back","_law_rest","_law_rows_here","_law_left","_law_cells","_law_right"] ["_law_one","_law_two","_law_word"] (aK (top 62)):=by constructor<;>first|rfl|decide +kernel
theorem aBL(T:Txt w K mg)(D:DefAt K mg "_law_joined" (top 62) ["_law_one","_law_two","_law_word"])(a:aS P w K mg base TH 2 "_law_raised" ["_law_machine","_law_by"] gJ):aS P w K mg base TH 3 "_law_joined" ["_law_one","_law_two","_law_word"] gK:=
 @cE P w K mg base TH "_law_joined" (top 62) ["_law_one","_law_two","_law_word","_law_back","_law_rest","_law_rows_here","_law_left","_law_cells","_law_right"] ["_law_one","_law_two","_law_word"] 2 kN D rB (λf c A outer s H F E b=>by
  have nd:=rB.nd
  exact(Fl.aH (Fl.aI (L2.aI (i:=3) nd rfl (Or.inl rfl) (aM (dM rfl (bM cK rfl T.b_len BB (aJ (aE (pv 0)) aP))))))
   (Fl.aH (Fl.aI (L2.aI (i:=4) nd rfl (Or.inl rfl) (bB rfl rfl rfl (bA a (b.mono (by decide)) rfl (bD λ_ _ _ h=>h) (aD (aR (pv 1)) (aD (aM (a9 (cQ rfl) bV (aE (pv 3)) (aB aG))) aU))))))
   (Fl.aH (g9 (L2.aI (i:=5) nd rfl (Or.inl rfl) (cW aX)))
   (Fl.aH (Fl.gP (qJ rfl (fJ (bZ 6) (fJ (bZ 7) (fJ (bZ 8) n9))) rfl) (L2.gP (iQ ⟨rfl,rfl⟩) rfl (aMT rfl (bR (pv 0))) (qA rfl (fH (bX (i:=6) nd rfl (Or.inl rfl)) (fH (bX (i:=7) nd rfl (Or.inl rfl)) (fH (bX (i:=8) nd rfl (Or.inl rfl)) nY))))
   (Fl.aQ (lZ rfl (L2.iL (kA BI BV BW hJ (pv 5) (aJ (b9 (aF (aZ (a8 rfl) aN (aB (bY (cW (aF (bR (pv 6)) (aF (aZ (a8 rfl) aN (aB (aZ (a8 rfl) aN (aE (pv 4)) (aB aG))) (aB aG)) aX))))) (aB (mT (bP jT rfl T.b_int CK (aJ (aB (kO (gH rfl b.units) eI (aE (pv 6)) (aE (pv 2)) (b7 _))) aP))))) (aF (bR (pv 7)) (aF (aZ (a8 rfl) aN (aB (bY (cW (aF (bR (pv 8)) (aF (bR (pv 3)) aX))))) (aB (mT (bP jT rfl T.b_int CK (aJ (aB (kO (gH rfl b.units) eI (aE (pv 8)) (aE (pv 2)) (b7 _))) aP))))) aX)))) aP)))))))
   (Fl.aH (lZ rfl (L2.iL (kA BI BV BW hJ (pv 5) (aJ (b9 (aF (aZ (a8 rfl) aN (aB (aZ (a8 rfl) aN (aE (pv 4)) (aB aG))) (aB aG)) (aF (cO rfl (bP bI rfl T.b_tuple AY (aJ (aB (bY (oG (cW (aF (b9 (aF (bR (pv 3)) (aF (aCW vA pF (aB aG)) aX))) aX)) (aB (dM rfl (bM cK rfl T.b_len BB (aJ (aB (aZ (a8 rfl) aN (aB (aZ (a8 rfl) aN (aE (pv 0)) (aB aG))) (aB aG))) aP))))))) aP))) (aF b8 aX)))) aP))))
   (Fl.aQ (Fl.bH (aM (cO rfl (bP bI rfl T.b_tuple AY (aJ (aB (bY (yQ rfl (aE (pv 5)) (aE (pv 4))))) aP))))))))))))
theorem mL:FnScope ["_law_e","_law_kinds"] ["_law_e"] (aK (top 63)):=by constructor<;>first|rfl|decide +kernel
theorem aFI(T:Txt w K mg)(D:DefAt K mg "_law_kind" (top 63) ["_law_e"]){Wp_NotLike Cp_NotLike:Az}(b:ErrP K mg "NotLike" Wp_NotLike Cp_NotLike){Wp_TooMany Cp_TooMany:Az}(a:ErrP K mg "TooMany" Wp_TooMany Cp_TooMany)(I_TooMany_TooMany:Is1 K mg "TooMany" "TooMany" true)(I_NotLike_TooMany:Is1 K mg "NotLike" "TooMany" false)(I_TooMany_NotLike:Is1 K mg "TooMany" "NotLike" false)(I_NotLike_NotLike:Is1 K mg "NotLike" "NotLike" true)(I_TooMany_NoStrip:Is1 K mg "TooMany" "NoStrip" false)(I_NotLike_NoStrip:Is1 K mg "NotLike" "NoStrip" false)(I_TooMany_NoWord:Is1 K mg "TooMany" "NoWord" false)(I_NotLike_NoWord:Is1 K mg "NotLike" "NoWord" false)(J_TooMany_ValueError:pY K mg "TooMany" "ValueError" true)(J_NotLike_ValueError:pY K mg "NotLike" "ValueError" true):aS P w K mg base TH 1 "_law_kind" ["_law_e"] dU:=
 @cE P w K mg base TH "_law_kind" (top 63) ["_law_e","_law_kinds"] ["_law_e"] 0 iC D mL (λf j A outer s H F E g=>by
  have nd:=mL.nd
  exact(Fl.aH (g9 (L2.aI (i:=1) nd rfl (Or.inl rfl) (cW (aF (yV rfl (jY a.c a.m I_TooMany_NotLike (lQ b.c b.m I_NotLike_NotLike)) λD d=>bM fG rfl T.b_isinstance BJ (aJ (pv 0) (aJ (fA (v:=.ref D) rfl d rfl) aP))) (aF (yV rfl (jY a.c a.m I_TooMany_TooMany (lQ b.c b.m I_NotLike_TooMany)) λD d=>bM fG rfl T.b_isinstance BJ (aJ (pv 0) (aJ (fA (v:=.ref D) rfl d rfl) aP))) aX)))))
   (Fl.aH (Fl.dX (PW.pt (Fl.o9 (Fl.oI (Fl.jS (aEF rfl rfl (sB a.c a.m J_TooMany_ValueError (sB b.c b.m J_NotLike_ValueError aA2)) (bM fG rfl T.b_isinstance BJ (aJ (pv 0) (aJ (uV (v:=.ty "ValueError") rfl T.b_ValueError aGQ rfl) aP)))))) (Fl.o9 (Fl.jS (aHM rfl (jY a.c a.m I_TooMany_NoStrip (lQ b.c b.m I_NotLike_NoStrip)) (jY a.c a.m I_TooMany_NoWord (lQ b.c b.m I_NotLike_NoWord)) (by decide) λD h d e=>bM sV rfl T.b_isinstance BJ (aJ (pv 0) (aJ (aC7 (aJ (fA (v:=.ref D) rfl d rfl) (aJ (fA (v:=.ref h) rfl e rfl) aP))) aP)))) (Fl.p9 (Fl.cS (iS rfl g.units) fX (aB (aCI rfl (kA BI EN GN (aCH g.units) (aE (pv 1)) (aJ (aB kX) aP)))) (aB aG) (b7 _)))))) (Fl.aQ (Fl.bH (aM b8))) Fl.dA)
   (Fl.aQ (Fl.bH (aM (aZ (a8 rfl) aN (aB (bY (cW (aF b8 (aF b8 aX))))) (aB (aCG rfl (kA BI EM GO (aCF g.units) (aE (pv 1)) (aJ (aB kX) aP)))))))))))
theorem aCR(T:Txt w K mg)(D:DefAt K mg "_law_kind" (top 63) ["_law_e"]){Wp_NotLike Cp_NotLike:Az}(b:ErrP K mg "NotLike" Wp_NotLike Cp_NotLike){Wp_TooMany Cp_TooMany:Az}(a:ErrP K mg "TooMany" Wp_TooMany Cp_TooMany)(I_TooMany_TooMany:Is1 K mg "TooMany" "TooMany" true)(I_NotLike_TooMany:Is1 K mg "NotLike" "TooMany" false)(I_TooMany_NotLike:Is1 K mg "TooMany" "NotLike" false)(I_NotLike_NotLike:Is1 K mg "NotLike" "NotLike" true)(I_TooMany_NoStrip:Is1 K mg "TooMany" "NoStrip" false)(I_NotLike_NoStrip:Is1 K mg "NotLike" "NoStrip" false)(I_TooMany_NoWord:Is1 K mg "TooMany" "NoWord" false)(I_NotLike_NoWord:Is1 K mg "NotLike" "NoWord" false)(J_TooMany_ValueError:pY K mg "TooMany" "ValueError" true)(J_NotLike_ValueError:pY K mg "NotLike" "ValueError" true):aAX P w K mg base TH 1 "_law_kind" ["_law_e"] dU:=
 @aP3 P w base TH K mg "_law_kind" (top 63) ["_law_e","_law_kinds"] ["_law_e"] 0 iC D mL (λf j A outer s H F g=>by
  have nd:=mL.nd
  exact(Fl.aH (g9 (L2.aI (i:=1) nd rfl (Or.inl rfl) (cW (aF (yV rfl (jY a.c a.m I_TooMany_NotLike (lQ b.c b.m I_NotLike_NotLike)) λD d=>bM fG rfl T.b_isinstance BJ (aJ (pv 0) (aJ (fA (v:=.ref D) rfl d rfl) aP))) (aF (yV rfl (jY a.c a.m I_TooMany_TooMany (lQ b.c b.m I_NotLike_TooMany)) λD d=>bM fG rfl T.b_isinstance BJ (aJ (pv 0) (aJ (fA (v:=.ref D) rfl d rfl) aP))) aX)))))
   (Fl.aH (Fl.dX (PW.pt (Fl.o9 (Fl.oI (Fl.jS (aEF rfl rfl (sB a.c a.m J_TooMany_ValueError (sB b.c b.m J_NotLike_ValueError aA2)) (bM fG rfl T.b_isinstance BJ (aJ (pv 0) (aJ (uV (v:=.ty "ValueError") rfl T.b_ValueError aGQ rfl) aP)))))) (Fl.o9 (Fl.jS (aHM rfl (jY a.c a.m I_TooMany_NoStrip (lQ b.c b.m I_NotLike_NoStrip)) (jY a.c a.m I_TooMany_NoWord (lQ b.c b.m I_NotLike_NoWord)) (by decide) λD h d e=>bM sV rfl T.b_isinstance BJ (aJ (pv 0) (aJ (aC7 (aJ (fA (v:=.ref D) rfl d rfl) (aJ (fA (v:=.ref h) rfl e rfl) aP))) aP)))) (Fl.p9 (Fl.cS (iS rfl g.units) fX (aB (aCI rfl (kA BI EN GN (aCH g.units) (aE (pv 1)) (aJ (aB kX) aP)))) (aB aG) (b7 _)))))) (Fl.aQ (Fl.bH (aM b8))) Fl.dA)
   (Fl.aQ (Fl.bH (aM (aZ (a8 rfl) aN (aB (bY (cW (aF b8 (aF b8 aX))))) (aB (aCG rfl (kA BI EM GO (aCF g.units) (aE (pv 1)) (aJ (aB kX) aP)))))))))))
theorem sY:FnScope ["_law_which","_law_one","_law_two","_law_told","_law_e"] ["_law_which","_law_one","_law_two"] (aK (top 64)):=by constructor<;>first|rfl|decide +kernel
theorem aCS(T:Txt w K mg)(D:DefAt K mg "_law_asked" (top 64) ["_law_which","_law_one","_law_two"])(e:aS P w K mg base TH 5 "either" ["one","two"] gV)(j:aS P w K mg base TH 5 "both" ["one","two"] j4)(a:aS P w K mg base TH 4 "turned_about" ["machine"] eF)(d:aS P w K mg base TH 15 "stopping" ["machine"] dD)(c:aS P w K mg base TH 15 "compared" ["one","other"] gA)(U_TooMany_NotLike:UpK K mg ["TooMany","NotLike"])(b:aAX P w K mg base TH 1 "_law_kind" ["_law_e"] dU):aS P w K mg base TH 16 "_law_asked" ["_law_which","_law_one","_law_two"] bC:=
 @cE P w K mg base TH "_law_asked" (top 64) ["_law_which","_law_one","_law_two","_law_told","_law_e"] ["_law_which","_law_one","_law_two"] 15 jC D sY (λf k A outer s H F E g=>by
  have nd:=sY.nd
  exact(Fl.aH (Fl.aI (L2.aI (i:=3) nd rfl (Or.inl rfl) (aM b8)))
   (Fl.aH (aRL (i:=4) rfl ⟨rfl,rfl⟩ nd rfl rfl rfl U_TooMany_NotLike.choose_spec.choose_spec.1 U_TooMany_NotLike.choose_spec.choose_spec.2.1 U_TooMany_NotLike.choose_spec.choose_spec.2.2 (λm n l H1=>(Fl.aQ (Fl.dX (Fl.cS (gH rfl g.units) eI (aE (pv 0)) (aB aG) (b7 _)) (Fl.aQ (Fl.aI (L2.aI (i:=3) nd rfl (Or.inl rfl) (aM (dM rfl (bM cK rfl T.b_len BB (aJ (aB (cM (bB rfl rfl rfl (bA e (g.mono (by decide)) rfl (bD λ_ _ _ h=>h) (aD (aR (pv 1)) (aD (aR (pv 2)) aU)))))) aP))))))) (Fl.aQ (Fl.dX (Fl.cS (gH rfl g.units) eI (aE (pv 0)) (aB aG) (b7 _)) (Fl.aQ (Fl.aI (L2.aI (i:=3) nd rfl (Or.inl rfl) (aM (dM rfl (bM cK rfl T.b_len BB (aJ (aB (cM (bB rfl rfl rfl (bA j (g.mono (by decide)) rfl (bD λ_ _ _ h=>h) (aD (aR (pv 1)) (aD (aR (pv 2)) aU)))))) aP))))))) (Fl.aQ (Fl.dX (Fl.cS (gH rfl g.units) eI (aE (pv 0)) (aB aG) (b7 _)) (Fl.aQ (Fl.aI (L2.aI (i:=3) nd rfl (Or.inl rfl) (aM (dM rfl (bM cK rfl T.b_len BB (aJ (aB (cM (bB rfl rfl rfl (bA a (g.mono (by decide)) rfl (bD λ_ _ _ h=>h) (aD (aR (pv 1)) aU))))) aP))))))) (Fl.aQ (Fl.dX (Fl.cS (gH rfl g.units) eI (aE (pv 0)) (aB aG) (b7 _)) (Fl.aQ (Fl.aI (L2.aI (i:=3) nd rfl (Or.inl rfl) (aM (dM rfl (bM cK rfl T.b_len BB (aJ (aB (cM (bB rfl rfl rfl (bA d (g.mono (by decide)) rfl (bD λ_ _ _ h=>h) (aD (aR (pv 1)) aU))))) aP))))))) (Fl.aQ (Fl.aI (L2.aI (i:=3) nd rfl (Or.inl rfl) (aM (aZ (a8 rfl) aN (aB (cM (bB rfl rfl rfl (bA c (g.mono (by decide)) rfl (bD λ_ _ _ h=>h) (aD (aR (pv 1)) (aD (aR (pv 2)) aU)))))) (aB aG))))))))))))))) (λe1=>(Fl.aQ (Fl.aI (L2.aI (i:=3) nd rfl (Or.inl rfl) (aTC rfl rfl rfl (aSQ b ((g.mono (by decide)).h.mark _) rfl (aD (aR (pv 4)) aU))))))))
   (Fl.aQ (Fl.bH (aR (pv 3)))))))
theorem uP:FnScope ["_law_many","_law_signs","_law_cell_here","_law_row"] ["_law_many","_law_signs","_law_cell_here"] (aK (top 65)):=by constructor<;>first|rfl|decide +kernel
theorem aFJ(T:Txt w K mg)(D:DefAt K mg "_law_rows" (top 65) ["_law_many","_law_signs","_law_cell_here"]):aS P w K mg base TH 1 "_law_rows" ["_law_many","_law_signs","_law_cell_here"] dW:=
 @cE P w K mg base TH "_law_rows" (top 65) ["_law_many","_law_signs","_law_cell_here","_law_row"] ["_law_many","_law_signs","_law_cell_here"] 0 mK D uP (λf a A outer s H F E b=>by
  have nd:=uP.nd
  exact(Fl.aH (Fl.aI (L2.aI (i:=3) nd rfl (Or.inl rfl) (aM (b9 (aF (aZ (a8 rfl) aN (aB (bY (cW (aF b8 (aF b8 (aF aG aX)))))) (aB (a9 cY cD (aE (pv 2)) (aB aG)))) (aF (cO rfl (bP bI rfl T.b_tuple AY (aJ (aB (bY (oG (cW (aF (b9 (aF (a9 cY cD (aE (pv 2)) (aE (pv 0))) (aF aG aX))) aX)) (aE (pv 1))))) aP))) (aF (aZ (a8 rfl) aN (aB (bY (cW (aF b8 (aF b8 aX))))) (aB (a9 cY cD (aB (a9 mS jV (aE (pv 2)) (aB aG))) (aB aG)))) aX)))))))
   (Fl.aQ (Fl.bH (aM (cO rfl (bP bI rfl T.b_tuple AY (aJ (aB (bY (oG (cW (aF (bR (pv 3)) aX)) (aE (pv 0))))) aP))))))))
end
section
variable{P:P9}{w:W9}{K:Frag}{mg:Str->O9 V9}{base:H9}{TH:Hp}
theorem aLX:FnScope ["_law_script","_law_total","_law_signs","_law_many","_law_one","_law_two","_law_rooms","_law_due","_law_alone","_law_p","_law_q","_law_cell_here","_law_later","_law_great","_law_small","_law_alike"] ["_law_script"] (aK (top 66)):=by constructor<;>first|rfl|decide +kernel
theorem aUO(T:Txt w K mg){k:Az}{j:FuncData}(l:Fun K "law" "law" (top 66) k j)(b:aS P w K mg base TH 1 "_law_cell" ["_law_script","_law_k"] cZ)(c:aS P w K mg base TH 1 "_law_rows" ["_law_many","_law_signs","_law_cell_here"] dW)(a:aS P w K mg base TH 16 "_law_asked" ["_law_which","_law_one","_law_two"] bC)(d:aS P w K mg base TH 1 "_law_sweeper" ["_law_p","_law_q","_law_a","_law_b","_law_signs"] fD)(f:aS P w K mg base TH 3 "_law_joined" ["_law_one","_law_two","_law_word"] gK)(g:aS P w K mg base TH 1 "_law_less" ["_law_many","_law_signs"] gE):FnOk P w K mg base (CXe P w) 17 k j ["_law_script"] (spF (gOf P w K mg base TH) K mg 1 aJA):=
 @aS3 P w K mg base TH "law" (top 66) ["_law_script","_law_total","_law_signs","_law_many","_law_one","_law_two","_law_rooms","_law_due","_law_alone","_law_p","_law_q","_law_cell_here","_law_later","_law_great","_law_small","_law_alike"] ["_law_script"] 16 k j zJ l aLX (λm A outer s H F E e=>by
  have nd:=aLX.nd
  exact(@Fl.aH _ _ _ _ _ _ _ (Fl.aI (L2.aI (i:=1) nd rfl (Or.inl rfl) (aM (a9 (cQ rfl) bV (aB aG) (aB (a9 cY cD (aB (cM (bB rfl rfl rfl (bA b (e.mono (by decide)) rfl (bD λ_ _ _ h=>h) (aD (aR (pv 0)) (aD (aM aG) aU)))))) (aB aG)))))))
   (@Fl.aH _ _ _ _ _ _ _ (g9 (L2.aI (i:=2) nd rfl (Or.inl rfl) (cW (aF (a9 (cQ rfl) bV (aB aG) (aB (a9 cY cD (aB (cM (bB rfl rfl rfl (bA b (e.mono (by decide)) rfl (bD λ_ _ _ h=>h) (aD (aR (pv 0)) (aD (aM aG) aU)))))) (aB aG)))) (aF (a9 (cQ rfl) bV (aB aG) (aB (a9 cY cD (aB (cM (bB rfl rfl rfl (bA b (e.mono (by decide)) rfl (bD λ_ _ _ h=>h) (aD (aR (pv 0)) (aD (aM aG) aU)))))) (aB aG)))) aX)))))
   (@Fl.aH _ _ _ _ _ _ _ (Fl.aI (L2.aI (i:=3) nd rfl (Or.inl rfl) (aM (a9 (cQ rfl) bV (aB aG) (aB (a9 cY cD (aB (cM (bB rfl rfl rfl (bA b (e.mono (by decide)) rfl (bD λ_ _ _ h=>h) (aD (aR (pv 0)) (aD (aM aG) aU)))))) (aB (yO (G:=jW) (bM (s9 rfl) rfl T.b_min EZ (aJ (aB aG) (aJ (aB (a9 aGH aB1 (aE (pv 1)) (aB aG))) aP)))))))))))
   (@Fl.aH _ _ _ _ _ _ _ (Fl.aI (L2.aI (i:=4) nd rfl (Or.inl rfl) (bB rfl rfl rfl (bA c (e.mono (by decide)) rfl (bD λ_ _ _ h=>h) (aD (aR (pv 3)) (aD (aM (aZ (a8 rfl) aN (aE (pv 2)) (aB aG))) (aD (bB rfl rfl rfl (bA b (e.mono (by decide)) rfl (bD λ_ _ _ h=>h) (aD (aR (pv 0)) (aD (aM aG) aU)))) aU)))))))
   (@Fl.aH _ _ _ _ _ _ _ (Fl.aI (L2.aI (i:=5) nd rfl (Or.inl rfl) (bB rfl rfl rfl (bA c (e.mono (by decide)) rfl (bD λ_ _ _ h=>h) (aD (aM (yO (G:=wY) (bM (aJQ rfl) rfl T.b_max PyProof.Rows.boot_max (aJ (aB aG) (aJ (aB (yO (G:=jW) (bM (s9 rfl) rfl T.b_min EZ (aJ (aB aG) (aJ (aB (a9 aGH aB1 (aE (pv 1)) (aE (pv 3)))) aP))))) aP))))) (aD (aM (aZ (a8 rfl) aN (aE (pv 2)) (aB aG))) (aD (bB rfl rfl rfl (bA b (e.mono (by decide)) rfl (bD λ_ _ _ h=>h) (aD (aR (pv 0)) (aD (aM aG) aU)))) aU)))))))
   (@Fl.aH _ _ _ _ _ _ _ (Fl.aI (L2.aI (i:=6) nd rfl (Or.inl rfl) (aM (a9 (cQ rfl) bV (aB (a9 (cQ rfl) bV (aB (dM rfl (bM cK rfl T.b_len BB (aJ (aE (pv 4)) aP)))) (aB (dM rfl (bM cK rfl T.b_len BB (aJ (aE (pv 5)) aP)))))) (aB aG)))))
   (@Fl.aH _ _ _ _ _ _ _ (Fl.aI (L2.aI (i:=7) nd rfl (Or.inl rfl) (aR (pv 6))))
   (@Fl.aH _ _ _ _ _ _ _ (Fl.dX (Fl.cS kP iG (aE (pv 6)) (aB aG) (b7 _)) (Fl.aQ (Fl.aI (L2.aI (i:=7) nd rfl (Or.inl rfl) (aM b8)))) Fl.dA)
   (@Fl.aH _ _ _ _ _ _ _ (Fl.dX (Fl.cS (iS rfl e.units) fX (aB (aZ (a8 rfl) aN (aE (pv 2)) (aB aG))) (aB (aZ (a8 rfl) aN (aE (pv 2)) (aB aG))) (b7 _)) (Fl.aQ (Fl.aI (L2.aI (i:=7) nd rfl (Or.inl rfl) (aM b8)))) Fl.dA)
   (@Fl.aH _ _ _ _ _ _ _ (Fl.dX (PW.pt (Fl.o9 (Fl.cS (iS rfl e.units) fX (aB (cM (bB rfl rfl rfl (bA a (e.mono (by decide)) rfl (bD λ_ _ _ h=>h) (aD (aM aG) (aD (aR (pv 4)) (aD (aR (pv 5)) aU))))))) (aE (pv 7)) (b7 _)) (Fl.p9 (Fl.cS (iS rfl e.units) fX (aB (cM (bB rfl rfl rfl (bA a (e.mono (by decide)) rfl (bD λ_ _ _ h=>h) (aD (aM aG) (aD (aR (pv 5)) (aD (aR (pv 4)) aU))))))) (aE (pv 7)) (b7 _))))) (Fl.aQ (Fl.bH (aM kX))) Fl.dA)
   (@Fl.aH _ _ _ _ _ _ _ (Fl.aI (L2.aI (i:=8) nd rfl (Or.inl rfl) (bB rfl rfl rfl (bA c (e.mono (by decide)) rfl (bD λ_ _ _ h=>h) (aD (aM (a9 (cQ rfl) bV (aB aG) (aB (a9 cY cD (aB (cM (bB rfl rfl rfl (bA b (e.mono (by decide)) rfl (bD λ_ _ _ h=>h) (aD (aR (pv 0)) (aD (aM aG) aU)))))) (aB aG))))) (aD (aM (aZ (a8 rfl) aN (aE (pv 2)) (aB aG))) (aD (bB rfl rfl rfl (bA b (e.mono (by decide)) rfl (bD λ_ _ _ h=>h) (aD (aR (pv 0)) (aD (aM aG) aU)))) aU)))))))
   (@Fl.aH _ _ _ _ _ _ _ (Fl.aI (L2.aI (i:=7) nd rfl (Or.inl rfl) (aM (a9 (cQ rfl) bV (aB (dM rfl (bM cK rfl T.b_len BB (aJ (aE (pv 8)) aP)))) (aB aG)))))
   (@Fl.aH _ _ _ _ _ _ _ (Fl.dX (Fl.cS kP iG (aE (pv 7)) (aB aG) (b7 _)) (Fl.aQ (Fl.aI (L2.aI (i:=7) nd rfl (Or.inl rfl) (aM b8)))) Fl.dA)
   (@Fl.aH _ _ _ _ _ _ _ (Fl.dX (Fl.cS (iS rfl e.units) fX (aB (cM (bB rfl rfl rfl (bA a (e.mono (by decide)) rfl (bD λ_ _ _ h=>h) (aD (aM aG) (aD (aR (pv 8)) (aD (aR (pv 8)) aU))))))) (aE (pv 7)) (b7 _)) (Fl.aQ (Fl.bH (aM kX))) Fl.dA)
   (@Fl.aH _ _ _ _ _ _ _ (@Fl.aS2 _ _ _ _ _ _ _ _ (qJ rfl (fJ (bZ 9) (fJ (bZ 10) n9)) rfl) (@L2.x3 _ _ _ _ _ _ (@aZ _ _ _ _ _ _ _ _ _ (a8 rfl) aN (@aB _ _ _ _ _ (@bY _ _ _ _ _ (@cW _ _ _ _ _ _ (@aF _ _ _ _ _ _ _ (b9 (aF aG (aF aG aX))) (@aF _ _ _ _ _ _ _ (b9 (aF aG (aF aG aX))) (@aF _ _ _ _ _ _ _ (b9 (aF aG (aF aG aX))) (@aF _ _ _ _ _ _ _ (b9 (aF aG (aF aG aX))) (@aF _ _ _ _ _ _ _ (b9 (aF aG (aF aG aX))) (@aF _ _ _ _ _ _ _ (b9 (aF aG (aF aG aX))) (@aF _ _ _ _ _ _ _ (b9 (aF aG (aF aG aX))) aX lH) lH) lH) lH) lH) lH) lH)))) (aB (a9 cY cD (aB (cM (bB rfl rfl rfl (bA b (e.mono (by decide)) rfl (bD λ_ _ _ h=>h) (aD (aR (pv 0)) (aD (aM aG) aU)))))) (aB aG))) (λ_ _=>rfl)) (qA rfl (fH (bX (i:=9) nd rfl (Or.inl rfl)) (fH (bX (i:=10) nd rfl (Or.inl rfl)) nY))) rfl rfl rfl))
   (Fl.aH (Fl.aI (L2.aI (i:=7) nd rfl (Or.inl rfl) (aM (a9 n6 lP (aE (pv 9)) (aE (pv 10))))))
   (Fl.aH (Fl.dX (Fl.cS kP iG (aE (pv 7)) (aB aG) (b7 _)) (Fl.aQ (Fl.aI (L2.aI (i:=7) nd rfl (Or.inl rfl) (aM b8)))) Fl.dA)
   (Fl.aH (Fl.aI (L2.aI (i:=11) nd rfl (Or.inl rfl) (bB rfl rfl rfl (bA b (e.mono (by decide)) rfl (bD λ_ _ _ h=>h) (aD (aR (pv 0)) (aD (aM aG) aU))))))
   (Fl.aH (Fl.dX (Fl.cS (iS rfl e.units) fX (aB (cM (bB rfl rfl rfl (bA a (e.mono (by decide)) rfl (bD λ_ _ _ h=>h) (aD (aM aG) (aD (bB rfl rfl rfl (bA d (e.mono (by decide)) rfl (bD λ_ _ _ h=>h) (aD (aR (pv 9)) (aD (aR (pv 10)) (aD (aM (a9 cY cD (aE (pv 11)) (aE (pv 9)))) (aD (aM (a9 cY cD (aB (a9 mS jV (aE (pv 11)) (aB aG))) (aE (pv 10)))) (aD (aM (a9 (cQ rfl) bV (aB aG) (aB (a9 cY cD (aB (a9 mS jV (aE (pv 11)) (aB aG))) (aB aG))))) aU))))))) (aD (aR (pv 5)) aU))))))) (aE (pv 7)) (b7 _)) (Fl.aQ (Fl.bH (aM kX))) Fl.dA)
   (Fl.aH (Fl.aI (L2.aI (i:=12) nd rfl (Or.inl rfl) (bB rfl rfl rfl (bA f (e.mono (by decide)) rfl (bD λ_ _ _ h=>h) (aD (bB rfl rfl rfl (bA g (e.mono (by decide)) rfl (bD λ_ _ _ h=>h) (aD (aM aG) (aD (aM aG) aU)))) (aD (bB rfl rfl rfl (bA d (e.mono (by decide)) rfl (bD λ_ _ _ h=>h) (aD (aM aG) (aD (aM aG) (aD (aM (a9 (cQ rfl) bV (aB aG) (aB (a9 cY cD (aE (pv 11)) (aB aG))))) (aD (aM (a9 cY cD (aB (a9 mS jV (aE (pv 11)) (aB aG))) (aB aG))) (aD (aM aG) aU))))))) (aD (aM b8) aU)))))))
   (Fl.aH (Fl.dX (Fl.cS (iS rfl e.units) fX (aB (cM (bB rfl rfl rfl (bA a (e.mono (by decide)) rfl (bD λ_ _ _ h=>h) (aD (aM aG) (aD (aR (pv 12)) (aD (aR (pv 5)) aU))))))) (aB b8) (b7 _)) (Fl.aQ (Fl.bH (aM kX))) Fl.dA)
   (Fl.aH (Fl.aI (L2.aI (i:=13) nd rfl (Or.inl rfl) (bB rfl rfl rfl (bA d (e.mono (by decide)) rfl (bD λ_ _ _ h=>h) (aD (aM aG) (aD (aM aG) (aD (aM (a9 cY cD (aE (pv 11)) (aB aG))) (aD (aM (a9 cY cD (aE (pv 11)) (aB aG))) (aD (aM (aZ (a8 rfl) aN (aE (pv 2)) (aB aG))) aU)))))))))
   (Fl.aH (Fl.aI (L2.aI (i:=14) nd rfl (Or.inl rfl) (bB rfl rfl rfl (bA c (e.mono (by decide)) rfl (bD λ_ _ _ h=>h) (aD (aM (a9 (cQ rfl) bV (aB aG) (aB (a9 cY cD (aB (a9 mS jV (aE (pv 11)) (aB aG))) (aB aG))))) (aD (aM (a9 (cQ rfl) bV (aB aG) (aB (a9 cY cD (aB (a9 (cQ rfl) bV (aB (aZ (a8 rfl) aN (aE (pv 2)) (aB aG))) (aB (a9 cY cD (aB (a9 mS jV (aE (pv 11)) (aB aG))) (aB aG))))) (aB aG))))) (aD (aR (pv 11)) aU)))))))
   (Fl.aH (Fl.dX (PW.pt (Fl.o9 (Fl.cS (iS rfl e.units) fX (aB (cM (bB rfl rfl rfl (bA a (e.mono (by decide)) rfl (bD λ_ _ _ h=>h) (aD (aM aG) (aD (aR (pv 13)) (aD (aR (pv 14)) aU))))))) (aB b8) (b7 _)) (Fl.p9 (Fl.cS (iS rfl e.units) fX (aB (cM (bB rfl rfl rfl (bA a (e.mono (by decide)) rfl (bD λ_ _ _ h=>h) (aD (aM aG) (aD (aR (pv 14)) (aD (aR (pv 13)) aU))))))) (aB b8) (b7 _))))) (Fl.aQ (Fl.bH (aM kX))) Fl.dA)
   (Fl.aH (Fl.aI (L2.aI (i:=15) nd rfl (Or.inl rfl) (bB rfl rfl rfl (bA c (e.mono (by decide)) rfl (bD λ_ _ _ h=>h) (aD (aM (dM rfl (bM cK rfl T.b_len BB (aJ (aE (pv 14)) aP)))) (aD (aM (aZ (a8 rfl) aN (aE (pv 2)) (aB aG))) (aD (aR (pv 11)) aU)))))))
   (Fl.aQ (Fl.bH (aM (aS1 (kO (gH rfl e.units) eI (aB (cM (bB rfl rfl rfl (bA a (e.mono (by decide)) rfl (bD λ_ _ _ h=>h) (aD (aM aG) (aD (aR (pv 13)) (aD (aR (pv 15)) aU))))))) (aB b8) (b7 _)) (aS0 (kO (gH rfl e.units) eI (aB (cM (bB rfl rfl rfl (bA a (e.mono (by decide)) rfl (bD λ_ _ _ h=>h) (aD (aM aG) (aD (aR (pv 15)) (aD (aR (pv 13)) aU))))))) (aB b8) (b7 _)))))))))))))))))))))))))))))))))
end
def itN(nx:Nat->Nat):Nat->Nat->Nat
 | 0,r=>r
 | n+1,r=>itN nx n (nx r)
theorem vY(nx:Nat->Nat)(a:Nat):∀ b r,itN nx (a+b) r=itN nx a (itN nx b r)
 | 0,r=>rfl
 | b+1,r=>vY nx a b (nx r)
theorem aFK(nx:Nat->Nat)(n r:Nat):itN nx (n+1) r=nx (itN nx n r):=by
 rw[GB,vY];rfl
structure Kdr(rs:List Rw)(sg:Nat)(nx:Nat->Nat)(rt:Nat->Bool):Prop where
 cel:∀ i,i < rs.length->∀ k,k < sg->ck k (aO rs (i:Int))=((nx i:Int),if rt i=true then 1 else -1)
 lt:∀ i,i < rs.length->nx i < rs.length
 rr:∀ i,i < rs.length->rt (nx i)=rt i
 l0:(aO rs 0).l=.n 0
 rt0:rt 0=true
 lf:∀ i,i < rs.length->rt i=false->(∃ x,(aO rs (i:Int)).l=.w x)\/∃ r:Nat,(aO rs (i:Int)).l=.n (r:Int)/\r < rs.length/\rt r=true
section
variable{rs:List Rw}{sg i l:Nat}{nx:Nat->Nat}{rt:Nat->Bool}
theorem Kdr.it(K:Kdr rs sg nx rt):∀ n r,r < rs.length->itN nx n r < rs.length/\rt (itN nx n r)=rt r
 | 0,r,h=>⟨h,rfl⟩
 | n+1,r,h=>by
  obtain⟨a,b⟩:=K.it n (nx r) (K.lt r h)
  exact⟨a,by rw[show itN nx (n+1) r=itN nx n (nx r)from rfl,b,K.rr r h]⟩
theorem Kdr.on(K:Kdr rs sg nx rt){bk:Int->Tn}{c r:Nat}(b:r < rs.length)(a:c - 97 < sg)(h:rt r=true):onR rs bk c (.n (r:Int))=.n (nx r:Int):=by
 have:=K.cel r b _ a
 rw[h]at this
 rw[xP (by rw[this];rfl),this]
def lfB(rs:List Rw)(nx:Nat->Nat)(n r:Nat):Tn:=match (aO rs (itN nx n r:Int)).l with
 | .w x=>.w x
 | .n i=>.n (itN nx n i.toNat:Int)
theorem Kdr.front(K:Kdr rs sg nx rt)(M:Mach rs sg)(z:List Nat):bK sg z->fP rs z (0,0)=.n (itN nx z.length 0:Int):=by
 refine aE3 (P:=λz=>bK sg z->fP rs z (0,0)=.n (itN nx z.length 0:Int)) (λS=>?_) (λz c f S=>?_) z
 .rw[vO,K.l0];rfl
 .obtain ⟨Sz,d⟩:=sM S
  have e:c - 97 < sg:=by have:=BD d;omega
  have g:=M.len
  obtain⟨a,b⟩:=K.it z.length 0 (by omega)
  rw[aCB M Sz d,f Sz,K.on a e (by rw[b,K.rt0]),AS,BC,aFK]
theorem Kdr.back(K:Kdr rs sg nx rt)(M:Mach rs sg)(z:List Nat):bK sg z->∀ r,r < rs.length->rt r=false->begB rs z (r:Int)=lfB rs nx z.length r:=by
 refine aE3 (P:=λz=>bK sg z->∀ r,r < rs.length->rt r=false->begB rs z (r:Int)=lfB rs nx z.length r) (λS r a b=>?_) (λz c t S r a b=>?_) z
 .show fP rs [] (0,(r:Int))=_
  rw[vO]
  unfold lfB
  show _=match (aO rs (r:Int)).l with | .w x=>Tn.w x | .n i=>.n (i.toNat:Int)
  rcases K.lf r a b with ⟨x,e⟩|⟨i,e,_⟩
  .rw[e]
  .rw[e];rfl
 .obtain ⟨Sz,g⟩:=sM S
  have h:c - 97 < sg:=by have:=BD g;omega
  have k:dJ rs (r:Int):=⟨by omega,by omega⟩
  have h1:=K.cel r a _ h
  rw[b]at h1
  have h2:=t Sz (nx r) (K.lt r a) (by rw[K.rr r a,b])
  obtain⟨o,p⟩:=K.it (z.length) (nx r) (K.lt r a)
  rw[nL M Sz g k]
  show(bU (fF rs (begB rs z) c) (r:Int)).getD (.w eU)=_
  rw[AS,BC]
  rcases K.lf _ o (by rw[p,K.rr r a,b])with ⟨x,e⟩|⟨i,e,s,m⟩
  .have f:begB rs z (nx r:Int)=.w x:=by rw[h2];unfold lfB;rw[e]
   have st:fF rs (begB rs z) c (r:Int)=some (.inr (.w x)):=by
    rw[qT,h1,AE (show ¬ ((if false=true then(1:Int)else -1)=1)by decide)]
    simp only[f]
   rw[hR st]
   show Tn.w x=lfB rs nx (z.length+1) r
   unfold lfB
   rw[show itN nx (z.length+1) r=itN nx z.length (nx r)from rfl,e]
  .have f:begB rs z (nx r:Int)=.n (itN nx z.length i:Int):=by rw[h2];unfold lfB;rw[e];rfl
   have st:fF rs (begB rs z) c (r:Int)=some (.inl (itN nx z.length i:Int)):=by
    rw[qT,h1,AE (show ¬ ((if false=true then(1:Int)else -1)=1)by decide)]
    simp only[f]
   obtain⟨q,j⟩:=K.it z.length i s
   have d:(bU (fF rs (begB rs z) c) (itN nx z.length i:Int)).getD (.w eU)=.n (nx (itN nx z.length i):Int):=K.on q h (by rw[j,m])
   rw[aDJ st,d]
   unfold lfB
   rw[show itN nx (z.length+1) r=itN nx z.length (nx r)from rfl,e]
   show _=Tn.n (itN nx (z.length+1) i:Int)
   rw[aFK]
theorem Kdr.same(K:Kdr rs sg nx rt)(M:Mach rs sg){z a:List Nat}(S:bK sg z)(g:bK sg a)(h0:z.length=0↔a.length=0)(h:∀ r,r < rs.length->itN nx z.length r=itN nx a.length r):bF rs z=bF rs a:=by
 have s:=M.len
 refine aE2 (by rw[K.front M z S,K.front M a g,h 0 (by omega)]) λq d=>?_
 cases f:rt q with
 | false=>
  rw[K.back M z S q d f,K.back M a g q d f]
  unfold lfB
  rw[h q d]
  obtain⟨k,l⟩:=K.it a.length q d
  rcases K.lf _ k (by rw[l,f])with ⟨x,e⟩|⟨i,e,o,p⟩
  .rw[e]
  .rw[e]
   show Tn.n (itN nx z.length i:Int)=.n (itN nx a.length i:Int)
   rw[h i o]
 | true=>
  have one:∀ {z:List Nat},bK sg z->z.length≠0->begB rs z (q:Int)=.n (nx q:Int):=λ{z} S b=>by
   rcases List.eq_nil_or_concat z with rfl|⟨y,c,e⟩
   .exact absurd rfl b
   .rw[List.concat_eq_append]at e
    subst e
    obtain⟨Sy,j⟩:=sM S
    have m:c - 97 < sg:=by have:=BD j;omega
    rw[nL M Sy j ⟨by omega,by omega⟩,K.on d m f]
  by_cases b:z.length=0
  .rw[DM.mp b,DM.mp (h0.mp b)]
  .rw[one S b,one g λe=>b (h0.mpr e)]
end
end Mc
namespace Fl
open L2 PyProof.Rows
@[simp] theorem aXD(f g:Sg->R Dz)(ρ:Sg):aNY f g ρ=(f ρ).bind λx=>if isL x=true then(g ρ).bind λy=>aI6 x y else .bad:=id rfl
@[simp] theorem aXV(xs:List Dz):isL (.list xs)=true:=id rfl
@[simp] theorem sQ(f:Sg->R (List Dz))(g:Sg->R Dz)(ρ:Sg):nH f g ρ=(f ρ).bind λxs=>(g ρ).bind λy=>sO xs y:=id rfl
end Fl
namespace Mc
open L2 PyProof.Rows Fl
abbrev iO(n:Nat):O9 A:=some (.d (.int (n:Int)))
def swA(p a sg k:Nat):Rw:=⟨if k=0 then .n 0 else .w "out",List.replicate sg ((((k+1) % p:Nat):Int),1),if k=a then .n (p:Int)else .w "out"⟩
def swB(p q b sg k:Nat):Rw:=⟨.w (if k=b then "by" else "out"),List.replicate sg (((p+(k+1) % q:Nat):Int),-1),.w "out"⟩
def swM(p q a b sg:Nat):List Rw:=(List.range p).map (swA p a sg)++(List.range q).map (swB p q b sg)
theorem aJH(x y:Dz)(b:Bool):dIx (.list [x,y]) (.int (if b=true then 1 else 0))=.ok (if b=true then y else x):=by
 cases b
 · exact qR ..
 · exact aTU ..
theorem zX(x:Dz){sg:Nat}(h:sg<=3):sO [x] (.int (sg:Int))=.ok (List.replicate sg x):=by
 have h1:∀ n:Nat,(List.replicate n [x]).flatten=List.replicate n x:=λn=>by
  induction n with
  | zero=>rfl
  | succ n ih=>rw[B0,CW,ih];rfl
 unfold sO
 simp only
 rw[AD ⟨List.cons_ne_nil _ _,by omega,by omega,by rw[B2,BC];omega⟩,B2,h1]
theorem sR(sg:Nat)(c:Int×Int):(List.replicate sg c).map cL=List.replicate sg (.tuple [.int c.1,.int c.2]):=by rw[DV];rfl
theorem xX{α:Type}(f:Nat->α)(i:Nat):(List.range (i+1)).map f=(List.range i).map f++[f i]:=by rw[List.range_succ,BL];rfl
theorem aFL{n i k:Nat}(h:(List.range n)[i]? = some k):k=i/\i < n:=by
 obtain⟨h1,h2⟩:=AU.mp h
 rw[A0]at h1
 rw[FM]at h2
 exact⟨h2.symm,h1⟩
theorem aBM{p q a b sg:Nat}(A:1<=p)(p2:p<=100)(B:1<=q)(C:q<=100)(s:sg<=3):iZ [.d (.int (p:Int)),.d (.int (q:Int)),.d (.int (a:Int)),.d (.int (b:Int)),.d (.int (sg:Int))]=.ok (.d (aC (swM p q a b sg))):=by
 have t:(0:Int) < (p:Int):=by omega
 have x:(0:Int) < (q:Int):=by omega
 obtain⟨y,z,f,j,rfl⟩:=lF (fs:=stN 6) (fb:=aNZ) (d:=λk:Nat=>.int (k:Int)) (xs:=List.range p) (ρ:=[iO p,iO q,iO a,iO b,iO sg,some (.l []),none,none])
  (λi ρ=>∃ f j,ρ=[iO p,iO q,iO a,iO b,iO sg,some (.l ((List.range i).map λk=>rowD (swA p a sg k))),f,j]) ⟨none,none,rfl⟩ λi k ρ r g=>by
  obtain⟨f,j,e⟩:=g
  obtain⟨rfl,hi⟩:=aFL r
  have c:((List.range k).map λk=>rowD (swA p a sg k)).length < 16777216:=by rw[AA,A0];omega
  have m:=zX (.tuple [.int (((k:Int)+1) % (p:Int)),.int 1]) s
  have o:rowD (swA p a sg k)=.tuple [if decide ((0:Int) < (k:Int))=true then .str "out" else .int 0,.tuple (List.replicate sg (.tuple [.int (((k:Int)+1) % (p:Int)),.int 1])),if decide ((k:Int)=(a:Int))=true then .int (p:Int)else .str "out"]:=by
   unfold rowD swA
   rw[sR]
   have e1:((((k+1) % p:Nat)):Int)=((k:Int)+1) % (p:Int):=by simp
   simp only[e1]
   rw[show(if k=0 then Tn.n 0 else Tn.w "out").d=(if decide ((0:Int) < (k:Int))=true then .str "out" else .int 0)from ?_,show(if k=a then Tn.n (p:Int)else Tn.w "out").d=(if decide ((k:Int)=(a:Int))=true then .int (p:Int)else .str "out")from ?_]
   .by_cases h:k=a
    · rw [AD h, AD (AJ (by omega))]; rfl
    · rw [AE h, AE (by rw [DW]; omega)]; rfl
   .by_cases h:k=0
    · rw [AD h, AE (by rw [DW]; omega)]; rfl
    · rw [AE h, AD (AJ (by omega))]; rfl
  refine⟨[iO p,iO q,iO a,iO b,iO sg,some (.l ((List.range k).map λk=>rowD (swA p a sg k))),iO k,j],_,by rw[e];rfl,.inl ?_,iO k,some (.d (if decide ((k:Int)=(a:Int))=true then .int (p:Int)else .str "out")),rfl⟩
  rw[xX,o]
  generalize ((List.range k).map λk=>rowD (swA p a sg k))=L at *
  generalize List.replicate sg (PyData.tuple [.int (((k:Int)+1) % (p:Int)),.int 1])=RP at *
  unfold aNZ
  simp only[iO,bW,fC,f8,fR,fE,nE,iW,eX,eQ,f7,mB,eM,R.bind_ok,AN,AK,jF,yY,aJH,A2,A3,oF,iV,nF,mC,mD t,sQ,m,mE,A5,BF,Nat.reduceAdd,Nat.reduceLeDiff,BU,AD c]
 obtain⟨v,u,D,rfl⟩:=lF (fs:=stN 6) (fb:=aN0) (d:=λk:Nat=>.int (k:Int)) (xs:=List.range q) (ρ:=[iO p,iO q,iO a,iO b,iO sg,some (.l ((List.range (List.range p).length).map λk=>rowD (swA p a sg k))),f,j])
  (λi ρ=>∃ f,ρ=[iO p,iO q,iO a,iO b,iO sg,some (.l (((List.range (List.range p).length).map λk=>rowD (swA p a sg k))++(List.range i).map λk=>rowD (swB p q b sg k))),f,j]) ⟨f,by simp⟩ λi k ρ r g=>by
  obtain⟨f,e⟩:=g
  obtain⟨rfl,hi⟩:=aFL r
  have c:(((List.range (List.range p).length).map λk=>rowD (swA p a sg k))++(List.range k).map λk=>rowD (swB p q b sg k)).length < 16777216:=by rw[AS,AA,AA,A0,A0,A0];omega
  have m:=zX (.tuple [.int ((p:Int)+(((k:Int)+1) % (q:Int))),.int (-1)]) s
  have o:rowD (swB p q b sg k)=.tuple [if decide ((k:Int)=(b:Int))=true then .str "by" else .str "out",.tuple (List.replicate sg (.tuple [.int ((p:Int)+(((k:Int)+1) % (q:Int))),.int (-1)])),.str "out"]:=by
   unfold rowD swB
   rw[sR]
   have e1:(((p+(k+1) % q:Nat)):Int)=(p:Int)+((k:Int)+1) % (q:Int):=by simp
   simp only[e1]
   rw[show(Tn.w (if k=b then "by" else "out")).d=(if decide ((k:Int)=(b:Int))=true then .str "by" else .str "out")from ?_]
   .rfl
   .by_cases h:k=b
    · rw [AD h, AD (AJ (by omega))]; rfl
    · rw [AE h, AE (by rw [DW]; omega)]; rfl
  refine⟨[iO p,iO q,iO a,iO b,iO sg,some (.l (((List.range (List.range p).length).map λk=>rowD (swA p a sg k))++(List.range k).map λk=>rowD (swB p q b sg k))),iO k,j],_,by rw[e];rfl,.inl ?_,iO k,rfl⟩
  rw[xX,o,<-List.append_assoc]
  generalize (((List.range (List.range p).length).map λk=>rowD (swA p a sg k))++(List.range k).map λk=>rowD (swB p q b sg k))=L at *
  generalize List.replicate sg (PyData.tuple [.int ((p:Int)+(((k:Int)+1) % (q:Int))),.int (-1)])=RP at *
  unfold aN0
  simp only[iO,fR,fE,nE,iW,eX,eQ,f7,mB,eM,R.bind_ok,AN,AK,jF,yY,aJH,A2,A3,oF,iV,mC,aEH,mD x,sQ,m,mE,A5,BF,Nat.reduceAdd,Nat.reduceLeDiff,BU,AD c]
 have m:aC (swM p q a b sg)=.tuple (((List.range (List.range p).length).map λk=>rowD (swA p a sg k))++(List.range (List.range q).length).map λk=>rowD (swB p q b sg k)):=by
  unfold aC swM
  rw[BL,AZ,AZ,A0,A0];rfl
 have r1:=sH (n:=p) (by omega)
 have r2:=sH (n:=q) (by omega)
 unfold iZ
 rw[m,qY]
 simp only[iO,j5,bW,lE,iW,eQ,CN,BU,R.bind_ok,A4,BN,A5,BF,Nat.reduceAdd,Nat.reduceSub,List.replicate,B7,BZ,A2,A3,vL,yW,eM,AN,AK,r1,r2,z,u,oE,f8,fE,mE]
section
variable{p q a b sg m:Nat}
theorem jG:(swM p q a b sg).length=p+q:=by unfold swM;rw[AS,AA,AA,A0,A0]
theorem zY{k:Nat}(h:k < p):aO (swM p q a b sg) (k:Int)=swA p a sg k:=by
 unfold aO
 rw[B2,AI,show(swM p q a b sg)[k]? = some (swA p a sg k)from ?_]
 .rfl
 .unfold swM
  rw[CC (by rw[AA,A0];exact h),AG,BM h];rfl
theorem zZ{k:Nat}(h:k < q):aO (swM p q a b sg) ((p+k:Nat):Int)=swB p q b sg k:=by
 unfold aO
 rw[B2,AI,show(swM p q a b sg)[p+k]? = some (swB p q b sg k)from ?_]
 .rfl
 .unfold swM
  rw[B1 (by rw[AA,A0];omega),AA,A0,show p+k - p=k by omega,AG,BM h];rfl
theorem jM(h:1<=p)(p2:p<=100)(i:1<=q)(j:q<=100)(s1:1<=sg)(g:sg<=3):Mach (swM p q a b sg) sg where
 len:=by rw[jG];omega
 len2:=by rw[jG];omega
 sg1:=s1
 sg3:=g
 row:=λr d=>by
  rw[jG]
  unfold swM at d
  rcases BX.mp d with d|d
  .obtain ⟨k,f,rfl⟩:=AX.mp d
   rw[A7]at f
   refine⟨⟨?_,?_,λc e=>?_⟩,BQ⟩
   .unfold swA;dsimp only;split
    · exact⟨by omega, by omega⟩
    · exact .inr rfl
   .unfold swA;dsimp only;split
    · exact⟨by omega, by omega⟩
    · exact .inr rfl
   .rw[CV e]
    have:=CH (k+1) (show p > 0 by omega)
    exact⟨by show(0:Int)<=(((k+1) % p:Nat):Int);omega,by show(((k+1) % p:Nat):Int) < _;omega,.inl rfl⟩
  .obtain ⟨k,f,rfl⟩:=AX.mp d
   rw[A7]at f
   refine⟨⟨?_,.inr rfl,λc e=>?_⟩,BQ⟩
   .unfold swB;dsimp only;split
    · exact .inl rfl
    · exact .inr rfl
   .rw[CV e]
    have:=CH (k+1) (show q > 0 by omega)
    exact⟨by show(0:Int)<=((p+(k+1) % q:Nat):Int);omega,by show((p+(k+1) % q:Nat):Int) < _;omega,.inr rfl⟩
def swN(p q i:Nat):Nat:=if i < p then(i+1) % p else p+(i - p+1) % q
theorem uQ{r:Rw}{c:Int×Int}(h:r.c=List.replicate sg c){k:Nat}(a:k < sg):ck k r=c:=by
 unfold ck
 rw[h,AI,EL,AD a];rfl
theorem vZ(e:1<=p)(f:1<=q):Kdr (swM p q a b sg) sg (swN p q) (λi=>decide (i < p)) where
 cel:=λi hi k c=>by
  rw[jG]at hi
  unfold swN
  by_cases h:i < p
  .rw[zY h,AD h,AJ h]
   exact uQ (by rfl) c
  .rw[show i=p+(i - p)by omega,zZ (show i - p < q by omega),AE (by omega),A1 (by omega),show p+(i - p) - p=i - p by omega]
   exact uQ (by rfl) c
 lt:=λi hi=>by
  rw[jG]at hi ⊢
  unfold swN
  have:=CH (i+1) (show p > 0 by omega)
  have:=CH (i - p+1) (show q > 0 by omega)
  split<;>omega
 rr:=λi hi=>by
  unfold swN
  have:=CH (i+1) (show p > 0 by omega)
  by_cases h:i < p
  .rw[AD h,AJ h];exact AJ this
  .rw[AE h,A1 h];exact A1 (by omega)
 l0:=by rw[show(0:Int)=((0:Nat):Int)from rfl,zY (by omega)];rfl
 rt0:=AJ (by omega)
 lf:=λi hi d=>by
  rw[jG]at hi
  have:=of_decide_eq_false d
  rw[show i=p+(i - p)by omega,zZ (show i - p < q by omega)]
  exact .inl ⟨_,rfl⟩
theorem rC(a:1<=p):∀ n i,i < p->itN (swN p q) n i=(i+n) % p
 | 0,i,h=>(CY h).symm
 | n+1,i,h=>by
  have:=CH (i+1) (show p > 0 by omega)
  show itN (swN p q) n (swN p q i)=_
  rw[show swN p q i=(i+1) % p from AD h,rC a n _ this,Nat.mod_add_mod]
  congr 1;omega
theorem rD(a:1<=q):∀ n i,i < q->itN (swN p q) n (p+i)=p+(i+n) % q
 | 0,i,h=>by rw[GL,CY h];rfl
 | n+1,i,h=>by
  have:=CH (i+1) (show q > 0 by omega)
  show itN (swN p q) n (swN p q (p+i))=_
  rw[show swN p q (p+i)=p+(i+1) % q by unfold swN;rw[AE (by omega),show p+i - p=i by omega],rD a n _ this,Nat.mod_add_mod]
  congr 2;omega
theorem aRO(d:1<=p)(p2:p<=100)(f:1<=q)(k:q<=100)(s1:1<=sg)(i:sg<=3){z:List Nat}(S:bK sg z):gY (swM p q a b sg) z=if z.length % p=a/\z.length % q=b then("by":Str)else("out":Str):=by
 have M:=jM (a:=a) (b:=b) d p2 f k s1 i
 have K:=vZ (a:=a) (b:=b) (sg:=sg) d f
 have h:=xM M S
 have g:=K.front M z S
 have l:=CH z.length (show p > 0 by omega)
 have j:=CH z.length (show q > 0 by omega)
 rw[rC d _ _ (by omega),CU]at g
 have c:(aO (swM p q a b sg) ((z.length % p:Nat):Int)).r=if z.length % p=a then .n (p:Int)else .w "out":=by rw[zY l];rfl
 have m:begB (swM p q a b sg) z (p:Int)=.w (if z.length % q=b then "by" else "out"):=by
  rw[K.back M z S p (by rw[jG];omega) (A1 (by omega))]
  unfold lfB
  have:=rD (p:=p) f z.length 0 (by omega)
  rw[GL,CU]at this
  rw[this,zZ j];rfl
 unfold gY
 rw[show("ever":Str)=eU from rfl,h,g]
 show(bU (dQ (swM p q a b sg) (begB (swM p q a b sg) z)) ((z.length % p:Nat):Int)).getD eU=_
 by_cases e:z.length % p=a
 .rw[AD e]at c
  have st:dQ (swM p q a b sg) (begB (swM p q a b sg) z) ((z.length % p:Nat):Int)=some (.inr (if z.length % q=b then "by" else "out")):=by
   unfold dQ
   rw[c]
   simp only[m]
  rw[hR st]
  by_cases e2:z.length % q=b
  .rw[AD e2,AD ⟨e,e2⟩];rfl
  .rw[AE e2,AE λh=>e2 h.2];rfl
 .rw[AE e]at c
  have st:dQ (swM p q a b sg) (begB (swM p q a b sg) z) ((z.length % p:Nat):Int)=some (.inr "out"):=by
   unfold dQ
   rw[c]
  rw[hR st,AE λh=>e h.1];rfl
end
@[simp] theorem aXE(i:Nat)(tb:List (Str×Bool))(ρ:Sg):p4 i tb ρ=match ρ[i]? with
 | some (some (.x e))=>(match tb.lookup e.c with
  | some b=>.ok (.bool b)
  | none=>.bad)
 | _=>.bad:=id rfl
@[simp] theorem aXF(f g:Sg->R Dz)(ρ:Sg):aN1 f g ρ=(f ρ).bind λx=>if isL x=true then(g ρ).bind λy=>aI8 x y else .bad:=id rfl
theorem lU:dU [.x ⟨"TooMany",[]⟩]=.ok (.d (.str "many")):=by
 unfold dU iC
 with_unfolding_all exact(id rfl)
theorem wA:dU [.x ⟨"NotLike",[]⟩]=.ok (.d (.str "like")):=by
 unfold dU iC
 with_unfolding_all exact(id rfl)
section
variable{a b d:Dz}{n:Int}{e:Er}{w:Str}
theorem aO2(i j:Int):dEq (.int i) (.int j)=.ok (.bool (decide (i=j))):=by rw[qS (iB _) (iB _),aEL]
@[simp] theorem aLF(n:Nat)(G:List A->R A)(f:Sg->R (List A))(ρ:Sg):yR n G f ρ=(f ρ).bind λas=>if as.length=n then noX (G as)else .bad:=id rfl
theorem aLG(x:A):noX (.ok x)=.ok x:=rfl
theorem kZ{k:Int}(f:e.c="TooMany"\/e.c="NotLike")(g:dU [.x e]=.ok (.d (.str w)))
  (h:(k=0/\gV [.d a,.d b]=.ex e)\/(k=1/\j4 [.d a,.d b]=.ex e)\/(k=2/\eF [.d a]=.ex e)\/(k=3/\dD [.d a]=.ex e)\/(k=4/\gA [.d a,.d b]=.ex e)):bC [.d (.int k),.d a,.d b]=.ok (.d (.str w)):=by
 have j:(["TooMany","NotLike"]:List Str).contains e.c=true:=by rcases f with h|h<;>rw[h]<;>decide +kernel
 have i:decide ((1:Int)=0)=false:=rfl
 unfold bC jC
 rcases h with ⟨rfl,h⟩|⟨rfl,h⟩|⟨rfl,h⟩|⟨rfl,h⟩|⟨rfl,h⟩<;>simp[aO2,mH,A.own,h,f,g,aLG,aM3]
theorem aC2{k:Int}(c:dLen d=.ok (.int n))(h:(k=0/\gV [.d a,.d b]=.ok (.d d))\/(k=1/\j4 [.d a,.d b]=.ok (.d d))\/(k=2/\eF [.d a]=.ok (.d d))\/(k=3/\dD [.d a]=.ok (.d d))):bC [.d (.int k),.d a,.d b]=.ok (.d (.int n)):=by
 unfold bC jC
 rcases h with ⟨rfl,h⟩|⟨rfl,h⟩|⟨rfl,h⟩|⟨rfl,h⟩<;>simp[aO2,mH,A.own,h,c]
end
theorem aLY{xs:List Dz}(h:60 < xs.length)(h2:xs.length<=1000):hZ [.d (.list xs)]=.ex ⟨"TooMany",[]⟩:=by
 have h1:(60:Int) < (xs.length:Int):=by omega
 have a:few 60:=.inr (.inl rfl)
 simp[hZ,pK,kS,h1,mU,a]
theorem aHP{w:Str}{rs1 rs2:List Rw}{sg sg2:Nat}(M1:Mach rs1 sg)(M2:Mach rs2 sg2)(h:sg≠sg2):gU [.d (aC rs1),.d (aC rs2),.d (.str w)]=.ex ⟨"NotLike",[]⟩:=by
 have a:∀ {rs:List Rw} {sg:Nat},Mach rs sg->cN [.d (aC rs)]=.ok (.d (.int sg)):=λ{rs sg} M=>by
  cases rs with
  | nil=>exact absurd M.len (by simp)
  | cons r t=>rw[m6,(M.row r AV).2]
 have s1:=a M1
 have c:=a M2
 have b:dNe (.int (sg:Int)) (.int (sg2:Int))=.ok (.bool true):=by rw[o5,A1 (by omega)];rfl
 unfold gU oY
 simp[s1,c,b,qM]
theorem aHQ{w:Str}{rs1 rs2:List Rw}{sg:Nat}(hw:w="by"\/w="out")(M1:Mach rs1 sg)(M2:Mach rs2 sg)(C:60<=rs1.length+rs2.length)(B:rs1.length+rs2.length<=500):gU [.d (aC rs1),.d (aC rs2),.d (.str w)]=.ex ⟨"TooMany",[]⟩:=by
 have i:∀ {rs:List Rw},Mach rs sg->cN [.d (aC rs)]=.ok (.d (.int sg)):=λ{rs} M=>by
  cases rs with
  | nil=>exact absurd M.len (by simp)
  | cons r t=>rw[m6,(M.row r AV).2]
 have s1:=i M1
 have u:=i M2
 have m:dNe (.int (sg:Int)) (.int (sg:Int))=.ok (.bool false):=by rw[o5];simp
 have q:=y8 M2 (rs1.length:Int)
 have e:dLen (aC rs1)=.ok (.int rs1.length):=by unfold aC;rw[kT,AA]
 have c:dLen (aC rs2)=.ok (.int rs2.length):=by unfold aC;rw[kT,AA]
 have f:∃ r t,rs2=r::t:=by
  cases rs2 with
  | nil=>exact absurd M2.len (by simp)
  | cons r t=>exact⟨r,t,rfl⟩
 have o:dIx (.list (rs2.map λr=>rowD (movR rs1.length r))) (.int 0)=.ok (rowD (movR rs1.length (aO rs2 0))):=by
  obtain⟨r,t,rfl⟩:=f
  exact qR _ _
 have j:dIx (rowD (movR rs1.length (aO rs2 0))) (.int 0)=.ok (g7 rs1 rs2).d:=qQ _ _
 have l:bE (aC rs1)=.ok (rs1.map rowD):=dP (by rw[AA];omega)
 have v:=cU (fs:=stN 0) (fe:=eA (aY 4 gT (aA (vV 0) (aA (vV 1) (aA (vV 2) (aA (vV 3) aL)))))) (ρ0:=[none,some (.d (.str w)),some (.d (g7 rs1 rs2).d),some (.d (.int (fQ rs1 rs2)))]) (d:=rowD) (g:=λr=>rowD (gG w (g7 rs1 rs2) (.n (fQ rs1 rs2)) r)) (xs:=rs1) λr s=>⟨_,rfl,by
  have:=aOW (b:=g7 rs1 rs2) (h:=.n (fQ rs1 rs2)) hw (M1.row r s).1
  rw[show(Tn.n (fQ rs1 rs2)).d=.int (fQ rs1 rs2)from rfl]at this
  simp[this]⟩
 have z:=pP (x:=.tuple [.int (fQ rs1 rs2),.int (-1)]) M1.sg1 (by have:=M1.sg3;omega)
 have a:∀ xs ys:List Dz,xs.length+ys.length<=1000->i5 (.list xs) (.list ys)=.ok (xs++ys):=λxs ys h=>by
  unfold i5
  simp only
  rw[AD (by rw[eE];omega)]
 have y:=a (rs1.map λr=>rowD (gG w (g7 rs1 rs2) (.n (fQ rs1 rs2)) r)) (rs2.map λr=>rowD (movR rs1.length r)) (by rw[AA,AA];omega)
 have p:=a ((rs1.map λr=>rowD (gG w (g7 rs1 rs2) (.n (fQ rs1 rs2)) r))++(rs2.map λr=>rowD (movR rs1.length r))) [.tuple [(g7 rs1 rs2).d,.tuple (List.replicate sg (.tuple [.int (fQ rs1 rs2),.int (-1)])),.str "out"]] (by rw[AS,AA,AA,BC];omega)
 have A:=aLY (xs:=((rs1.map λr=>rowD (gG w (g7 rs1 rs2) (.n (fQ rs1 rs2)) r))++(rs2.map λr=>rowD (movR rs1.length r)))++[.tuple [(g7 rs1 rs2).d,.tuple (List.replicate sg (.tuple [.int (fQ rs1 rs2),.int (-1)])),.str "out"]]) (by rw[AS,AS,AA,AA,BC];omega) (by rw[AS,AS,AA,AA,BC];omega)
 have k:(rs1.length:Int)+(rs2.length:Int)=fQ rs1 rs2:=rfl
 unfold gU oY
 simp only[j5,bW,fC,i8,eX,eQ,kY,f8,f7,aC0,t7,AN,AK,R.bind_ok,A5,BF,Nat.reduceAdd,Nat.reduceLeDiff,BU,A2,A3,fE,fR,eM,A4,BN,B7,BZ,List.replicate,Nat.reduceSub,s1,u,kQ,m,kR,CA,D6,o0,e,c,q,o,j,mC,k]
 simp only[lE,o3,fE,eM,R.bind_ok,AN,AK,l,eJ,A4,BN,Option.bind,GH,v,A2,A3]
 simp only[fC,f8,iV,eX,eQ,mB,fR,f7,fE,aEH,eM,R.bind_ok,AN,AK,A5,BF,Nat.reduceAdd,Nat.reduceLeDiff,BU,z,A2,A3]
 simp only[oE,i8,eX,eQ,f8,nE,fR,iW,mB,eM,AN,AK,R.bind_ok,A5,BF,Nat.reduceAdd,Nat.reduceLeDiff,BU,y,p]
 rw[A];rfl
theorem aN6{rs:List Rw}{sg:Nat}(M:Mach rs sg)(n:60<=rs.length)(k:rs.length<=500):eF [.d (aC rs)]=.ex ⟨"TooMany",[]⟩:=by
 have m:=aK5 M
 have i:=y8 (aEN M) 1
 have f:cN [.d (aC rs)]=.ok (.d (.int sg)):=by
  cases rs with
  | nil=>exact absurd M.len (by simp)
  | cons r t=>rw[m6,(M.row r AV).2]
 have h:=pP (x:=.tuple [.int 0,.int 1]) M.sg1 (by have:=M.sg3;omega)
 have b:∃ r t,rs=r::t:=by
  cases rs with
  | nil=>exact absurd M.len (by simp)
  | cons r t=>exact⟨r,t,rfl⟩
 have g:((iH rs).map λr=>rowD (movR 1 r)).length=rs.length:=by simp[iH]
 have a:i5 (.list [.tuple [.int 0,.tuple (List.replicate sg (.tuple [.int 0,.int 1])),(fZ 1 (aO rs 0).l).d]]) (.list ((iH rs).map λr=>rowD (movR 1 r)))=.ok (.tuple [.int 0,.tuple (List.replicate sg (.tuple [.int 0,.int 1])),(fZ 1 (aO rs 0).l).d]::(iH rs).map λr=>rowD (movR 1 r)):=by
  unfold i5
  simp only
  rw[AD (by rw[eE,A5,BF];omega)];rfl
 have j:=aLY (xs:=.tuple [.int 0,.tuple (List.replicate sg (.tuple [.int 0,.int 1])),(fZ 1 (aO rs 0).l).d]::(iH rs).map λr=>rowD (movR 1 r)) (by rw[A5];omega) (by rw[A5];omega)
 have e:dIx (.list ((iH rs).map λr=>rowD (movR 1 r))) (.int 0)=.ok (rowD (movR 1 (t9 (aO rs 0)))):=by
  obtain⟨r,t,rfl⟩:=b
  exact qR _ _
 have c:dIx (rowD (movR 1 (t9 (aO rs 0)))) (.int 2)=.ok (fZ 1 (aO rs 0).l).d:=aK3 _ _ _ _
 unfold eF kG
 simp only[j5,bW,fC,i8,eX,eQ,kY,f8,f7,aC0,t7,AN,AK,R.bind_ok,A5,BF,Nat.reduceAdd,Nat.reduceLeDiff,BU,A2,A3,fR,eM,iV,m,i,f,h,e,c,A4,BN,B7,BZ,List.replicate,Nat.reduceSub]
 simp only[oE,i8,eX,eQ,f8,nE,fR,iW,mB,eM,AN,AK,R.bind_ok,A5,BF,Nat.reduceAdd,Nat.reduceLeDiff,BU,a]
 rw[j];rfl
section
variable{a0:List (List Nat)}{ws:List Str}{rs:List Rw}{sg N:Nat}{L:List Nat}
theorem aRP(M:Rdw a0 ws sg)(e:dC [.d (aC rs)]=.ok (.d (rdW a0 ws)))(K:Lk a0 (ws.map dL) sg L)(eL:eS [.d (rdW a0 (ws.map dL))]=.ok (.d (.list (L.map λr:Nat=>.int (r:Int)))))(T:Lst a0 (ws.map dL) L N)(t:60 < N) :
  dD [.d (aC rs)]=.ex ⟨"TooMany",[]⟩:=by
 have n2:=M.r.n2
 have wl:=M.wl
 have j:Rdw a0 (ws.map dL) sg:=⟨M.r,by rw[AA];exact M.wl,λw b=>by
  obtain⟨v,q,rfl⟩:=AX.mp b
  rcases stopW_is (M.ww v q)with h|h
  · exact .inl h
  · exact .inr (.inl h)⟩
 have o:=aO0 j K eL T
 have M2:=aUK j K T
 have a:=uJ T
 have k:dIx (rdW a0 ws) (.int 0)=.ok (.tuple (a0.map dH)):=rfl
 have s:dIx (rdW a0 ws) (.int 1)=.ok (.tuple (ws.map .str)):=rfl
 have n:bE (.tuple (ws.map PyData.str))=.ok (ws.map PyData.str):=dP (by rw[AA];omega)
 have l:=cU (fs:=stN 0) (fe:=eA (aY 1 fM (aA (vV 0) aL))) (ρ0:=[none]) (d:=PyData.str) (g:=λw=>PyData.str (dL w)) (xs:=ws) λw b=>⟨[some (.d (.str w))],rfl,by simp[aO1 (M.ww w b)]⟩
 have f:PyData.tuple [.tuple (a0.map dH),.tuple (ws.map λw=>PyData.str (dL w))]=rdW a0 (ws.map dL):=by
  unfold rdW rdD
  rw[AZ];rfl
 have m:dIx (rdW (dE a0 L N) (eR a0 (ws.map dL) L N)) (.int 0)=.ok (.tuple ((dE a0 L N).map dH)):=rfl
 have c:dLen (.tuple ((dE a0 L N).map dH))=.ok (.int (N:Int)):=by rw[kT,AA,a]
 generalize rdW (dE a0 L N) (eR a0 (ws.map dL) L N)=X at *
 generalize (dE a0 L N).map dH=Z at *
 have i:(60:Int) < (N:Int):=by omega
 have p:few 60:=.inr (.inl rfl)
 unfold dD l8
 simp only[j5,bW,fC,i8,eX,eQ,kY,A4,BN,B7,BZ,A5,BF,Nat.reduceAdd,Nat.reduceSub,List.replicate,AN,AK,R.bind_ok,BU,e,A2,A3,f8,fE,fR,nE,o3,eM,f7,s,k,n,eJ,GK,l,mE,iV,mB,Nat.reduceLeDiff,f,o,m,c]
 simp[i,mU,p]
theorem aRQ(e:dC [.d (aC rs)]=.ex ⟨"TooMany",[]⟩):dD [.d (aC rs)]=.ex ⟨"TooMany",[]⟩:=by
 unfold dD l8
 simp[e]
end
section
variable{st l sg:Nat}{f:Nat->Str}
def rhN(st l i:Nat):Nat:=if i+1 < st+l then i+1 else st
def rhR(st l sg:Nat):List (List Nat):=(List.range (st+l)).map λi=>List.replicate sg (rhN st l i)
def rhW(f:Nat->Str)(st l:Nat):List Str:=(List.range (st+l)).map f
theorem aFM(a:1<=l)(i:Nat):rhN st l i < st+l:=by unfold rhN;split<;>omega
theorem mM:(rhR st l sg).length=st+l:=by unfold rhR;rw[AA,A0]
theorem aO3{i:Nat}(h:i < st+l):(rhR st l sg).getD i []=List.replicate sg (rhN st l i):=by
 unfold rhR
 rw[AI,AG,BM h];rfl
theorem aN7{i:Nat}(h:i < st+l):(rhW f st l).getD i ""=f i:=by
 unfold rhW
 rw[AI,AG,BM h];rfl
theorem aLZ(e:1<=l)(h2:st+l<=900)(s1:1<=sg)(d:sg<=3)(g:∀ i,f i="by"\/f i="out"):Rdw (rhR st l sg) (rhW f st l) sg:=by
 refine⟨⟨by rw[mM];omega,by rw[mM];omega,s1,d,λr b=>?_⟩,by rw[mM];unfold rhW;rw[AA,A0],λw a=>?_⟩
 .unfold rhR at b
  obtain⟨i,_,rfl⟩:=AX.mp b
  refine⟨BQ ..,λj c=>?_⟩
  rw[(DA.mp c).2,mM]
  exact aFM e i
 .unfold rhW at a
  obtain⟨i,_,rfl⟩:=AX.mp a
  rcases g i with h|h<;>rw[h]
  · exact .inl rfl
  · exact .inr (.inl rfl)
theorem aVU(b:1<=l){i c:Nat}(h:i < st+l)(a:cP sg c=true):eG (rhR st l sg) i c=rhN st l i:=by
 unfold eG
 rw[aO3 h,AI,EL,AD (zG a).2];rfl
def rhI(st l:Nat):Nat->Nat->Nat
 | 0,i=>i
 | n+1,i=>rhI st l n (rhN st l i)
theorem z0(l1:1<=l):∀ n i,i < st+l->rhI st l n i < st+l
 | 0,_,h=>h
 | n+1,i,_=>z0 l1 n _ (aFM l1 i)
theorem z7(l1:1<=l):∀ (z:List Nat) (i:Nat),Sgs sg z->i < st+l->fN (rhR st l sg) i z=rhI st l z.length i
 | [],_,_,_=>rfl
 | c::t,i,hs,hi=>by
  show fN (rhR st l sg) (eG (rhR st l sg) i c) t=rhI st l t.length (rhN st l i)
  rw[aVU l1 hi (hs c AV)]
  exact z7 l1 t _ (λd a=>hs d (AL _ a)) (aFM l1 i)
theorem aUP{L:List Nat}{N:Nat}(d:1<=l)(h2:st+l<=900)(s1:1<=sg)(q:sg<=3)(u:∀ i,f i="by"\/f i="out")(t:∀ i j,i < j->j < st+l->∃ n,f (rhI st l n i)≠f (rhI st l n j))
  (K:Lk (rhR st l sg) (rhW f st l) sg L) (T:Lst (rhR st l sg) (rhW f st l) L N):N=st+l:=by
 have M:=aLZ (f:=f) d h2 s1 q u
 have m:∀ i j,i < st+l->j < st+l->EqA (rhR st l sg) (rhW f st l) sg i j->∀ n,f (rhI st l n i)=f (rhI st l n j):=λi j hi p h n=>by
  have k:Sgs sg (List.replicate n 97):=λc s=>by
   rw[(DA.mp s).2]
   unfold cP
   exact AJ (by omega)
  have:=h _ k
  rw[z7 d _ i k hi,z7 d _ j k p,aN7 (z0 d _ _ hi),aN7 (z0 d _ _ p),BQ]at this
  exact this
 have o:∀ x,x < st+l->L.getD x 0=x:=λx g=>by
  obtain⟨_,a,b,_⟩:=K.at_ x (by rw[mM];exact g)
  rcases Nat.lt_or_eq_of_le a with h|h
  .obtain ⟨n,r⟩:=t _ _ h g
   exact absurd (m x _ g (by omega) b n).symm r
  .exact h
 have all:∀ i,i < st+l->PyData.int (i:Int)∈bfQ (afL (rhR st l sg) L) (.int 0) N:=λi=>by
  induction i with
  | zero=>intro _;exact AH (bfQ_zero _ _ _)
  | succ i ih=>
   intro hi
   refine zH (E4 T.len) (ih (by omega)) ?_
   show PyData.int ((i+1:Nat):Int)∈((rhR st l sg).getD ((i:Int)).toNat []).map λj=>.int (L.getD j 0:Int)
   rw[B2,aO3 (by omega)]
   refine AX.mpr ⟨i+1,DA.mpr ⟨by omega,?_⟩,by rw[o _ hi]⟩
   unfold rhN
   rw[AD hi]
 have le:=T.le
 rw[mM]at le
 have v:=zC (afL (rhR st l sg) L) (.int 0) N
 have:((List.range (st+l)).map λi:Nat=>PyData.int (i:Int)).length<=(bfQ (afL (rhR st l sg) L) (.int 0) N).length:=by
  refine List.Nodup.length_le_of_subset ?_ λx g=>?_
  .exact List.Pairwise.map _ (λa b h e=>h (by injection e with e;omega)) List.nodup_range
  .obtain ⟨i,hi,rfl⟩:=AX.mp g
   exact all i (A7.mp hi)
 rw[AA,A0,T.len]at this
 omega
end
section
variable{r1 r2:List (List Nat)}{w1 w2:List Str}{sg:Nat}
def Pd(r1 r2:List (List Nat))(w1 w2:List Str)(a b:Nat)(z:List Nat):Prop:=w1.getD (fN r1 a z) ""≠w2.getD (fN r2 b z) ""
def uR(r1 r2:List (List Nat)):List (List Nat):=r1++r2.map λr=>r.map (· + r1.length)
theorem rE:(uR r1 r2).length=r1.length+r2.length:=by unfold uR;rw[AS,AA]
theorem aWW{q:Nat}(h:q < r1.length):(uR r1 r2).getD q []=r1.getD q []:=by
 unfold uR
 rw[AI,CC h,AI]
theorem aWX{q:Nat}(h:q < r2.length):(uR r1 r2).getD (r1.length+q) []=(r2.getD q []).map (· + r1.length):=by
 unfold uR
 rw[AI,B1 (by omega),GP,AG,AI,AW h];rfl
theorem aVV(M1:Rdr r1 sg)(M2:Rdr r2 sg)(h:r1.length+r2.length<=1000):Rdr (uR r1 r2) sg:=by
 refine⟨by rw[rE];have:=M1.n1;omega,by rw[rE];exact h,M1.s1,M1.s3,λr d=>?_⟩
 rw[rE]
 rcases BX.mp d with q|q
 .exact ⟨(M1.row r q).1,λj b=>by have:=(M1.row r q).2 j b;omega⟩
 .obtain ⟨c,a,rfl⟩:=AX.mp q
  refine⟨by rw[AA];exact(M2.row c a).1,λj b=>?_⟩
  obtain⟨k,e,rfl⟩:=AX.mp b
  have:=(M2.row c a).2 k e
  omega
theorem aL0(M1:Rdr r1 sg):∀ (z:List Nat) {q:Nat},Sgs sg z->q < r1.length->fN (uR r1 r2) q z=fN r1 q z
 | [],_,_,_=>rfl
 | c::t,q,hs,h=>by
  have hc:=hs c AV
  have e:eG (uR r1 r2) q c=eG r1 q c:=by unfold eG;rw[aWW h]
  show fN (uR r1 r2) (eG (uR r1 r2) q c) t=fN r1 (eG r1 q c) t
  rw[e]
  exact aL0 M1 t (λc hc=>hs c (AL _ hc)) (kJ M1 h hc).2
theorem aL1(M2:Rdr r2 sg):∀ (z:List Nat) {q:Nat},Sgs sg z->q < r2.length->fN (uR r1 r2) (r1.length+q) z=r1.length+fN r2 q z
 | [],_,_,_=>rfl
 | c::t,q,hs,h=>by
  have hc:=hs c AV
  have a:=(kJ M2 h hc)
  have e:eG (uR r1 r2) (r1.length+q) c=r1.length+eG r2 q c:=by
   unfold eG
   rw[aWX h,AI,AG,a.1,FC,Option.getD_some]
   show eG r2 q c+r1.length=_
   unfold eG
   rw[GB]
  show fN (uR r1 r2) (eG (uR r1 r2) (r1.length+q) c) t=r1.length+fN r2 (eG r2 q c) t
  rw[e]
  exact aL1 M2 t (λc hc=>hs c (AL _ hc)) a.2
theorem aUQ(M1:Rdw r1 w1 sg)(M2:Rdw r2 w2 sg)(h:r1.length+r2.length<=1000){a b:Nat}(i:a < r1.length)(l:b < r2.length){z:List Nat}(hz:Sgs sg z)(k:Pd r1 r2 w1 w2 a b z) :
  ∃ w,Sgs sg w/\w.length+1<=r1.length+r2.length/\Pd r1 r2 w1 w2 a b w:=by
 have f:=M1.wl
 have g:∀ y,Sgs sg y->(w1++w2).getD (fN (uR r1 r2) a y) ""=w1.getD (fN r1 a y) "":=λy c=>by
  rw[aL0 M1.r y c i,AI,CC (by rw[f];exact aHA M1.r y c i),AI]
 have j:∀ y,Sgs sg y->(w1++w2).getD (fN (uR r1 r2) (r1.length+b) y) ""=w2.getD (fN r2 b y) "":=λy c=>by
  rw[aL1 M2.r y c l,AI,B1 (by omega),f,GP,AI]
 obtain⟨w,s1,e,d⟩:=aVP (ws:=w1++w2) (aVV M1.r M2.r h) (a:=a) (b:=r1.length+b) (by rw[rE];omega) (by rw[rE];omega) hz (by rw[g z hz,j z hz];exact k)
 rw[rE]at e
 rw[g w s1,j w s1]at d
 exact⟨w,s1,e,d⟩
end
section
variable{rs:List Rw}{sg N0 st l:Nat}{f:Nat->Str}
theorem aFN(W:Wy rs sg N0)(E:EndW rs sg 200 N0)(o:1<=l)(h2:st+l<=500)(x:∀ i,f i="by"\/f i="out")(L:∀ i j,i < j->j < st+l->∃ n,f (rhI st l n i)≠f (rhI st l n j))(hw:∀ z,bK sg z->gY rs z=f (rhI st l z.length 0)) :
  (st+l<=60->∃ d,dD [.d (aC rs)]=.ok (.d d)/\dLen d=.ok (.int ((st+l:Nat):Int)))/\(60 < st+l->dD [.d (aC rs)]=.ex ⟨"TooMany",[]⟩):=by
 have F:=aUM W E
 have M1:=W.rdw
 have s1:=W.m.sg1
 have B:=W.m.sg3
 have N:=W.n
 have J:Stp (iY rs sg N0):=λw g=>by
  unfold iY at g
  obtain⟨z,H,rfl⟩:=AX.mp g
  rw[hw z ((qX W.m N0 (by omega)).ok z H).1]
  exact x _
 have e:=aRK J
 have c:Rdw (jB rs sg N0) ((iY rs sg N0).map dL) sg:=by rw[e];exact M1
 obtain⟨L1,e1,h⟩:=aLN c
 obtain⟨O,k⟩:=aLO c.r h
 have M2:=aLZ (f:=f) (st:=st) o (by omega) s1 B x
 obtain⟨I,e2,p⟩:=aLN M2
 obtain⟨M,A⟩:=aLO M2.r p
 have s:=aUP (f:=f) o (by omega) s1 B x L p A
 have q:EqX (jB rs sg N0) (rhR st l sg) ((iY rs sg N0).map dL) (rhW f st l) sg 0 0:=λw u=>Decidable.byContradiction λt=>by
  obtain⟨v,C,K,G⟩:=aUQ c M2 (by rw[W.rows_len,mM];omega) (a:=0) (b:=0) (by rw[W.rows_len];exact W.pos) (by rw[mM];omega) u t
  rw[W.rows_len,mM]at K
  have S:bK sg v:=⟨by omega,C⟩
  apply G
  rw[e,W.says S,hw v S,z7 o v 0 C (by omega),aN7 (z0 o _ _ (by omega))]
 have D:=(aI4 c M2 h p k A q).1
 rw[s]at D
 constructor
 .intro y
  refine⟨_,aUN M1 F h e1 k (by omega),?_⟩
  unfold aC aC1
  rw[kT,AA,AA,A0,uJ k,D]
 .intro y
  exact aRP M1 F h e1 k (by omega)
end
section
variable{rs:List Rw}{sg i l:Nat}{nx:Nat->Nat}{rt:Nat->Bool}
def Cyc(rs:List Rw)(nx:Nat->Nat)(i l:Nat):Prop:=∀ r,r < rs.length->itN nx (i+l) r=itN nx i r
def sS(i l n:Nat):Nat:=if n < i then n else i+(n - i) % l
theorem aO4(C:Cyc rs nx i l){r:Nat}(hr:r < rs.length):∀ k n,i<=n->itN nx (n+k * l) r=itN nx n r
 | 0,n,_=>by rw[Nat.zero_mul];rfl
 | k+1,n,h=>by
  rw[show n+(k+1) * l=(n - i)+(i+l)+k * l by rw[Nat.add_mul];omega,aO4 C hr k _ (by omega),vY,C r hr,<-vY,Nat.sub_add_cancel h]
theorem aHR(C:Cyc rs nx i l){r:Nat}(a:r < rs.length)(n:Nat):itN nx (sS i l n) r=itN nx n r:=by
 unfold sS
 by_cases h:n < i
 .rw[AD h]
 .rw[AE h]
  have:=aO4 C a ((n - i) / l) (i+(n - i) % l) (by omega)
  have e:=Nat.mod_add_div (n - i) l
  rw[GF]at e
  rw[<-this,show i+(n - i) % l+(n - i) / l * l=n by omega]
theorem aUR(a:1<=l)(n:Nat):sS i l n < i+l:=by
 unfold sS
 split
 .omega
 .have:=CH (n - i) (show l > 0 by omega)
  omega
theorem aFO(a:1<=i)(n:Nat):sS i l n=0↔n=0:=by
 unfold sS
 split
 · exact Iff.rfl
 · omega
theorem aL2(K:Kdr rs sg nx rt)(M:Mach rs sg)(C:Cyc rs nx i l)(b:1<=i)(d:1<=l)(h2:i+l<=200):aIZ rs sg:=by
 refine aLL (λz=>sS i l z.length) (λz S=>?_) (λz a S f e=>?_)
 .have:=aUR (i:=i) d z.length
  show _ < 200
  omega
 .have e:sS i l z.length=sS i l a.length:=e
  refine K.same M S f ?_ λr c=>?_
  · rw [<- aFO (l := l) b z.length, <- aFO (l := l) b a.length, e]
  · rw [<- aHR C c z.length, <- aHR C c a.length, e]
end
section
variable{p q a b sg m:Nat}
theorem aL3(c:1<=p)(d:1<=q)(n:Nat):Cyc (swM p q a b sg) (swN p q) n (p * q):=λr e=>by
 rw[jG]at e
 by_cases h:r < p
 · rw [rC c _ _ h, rC c _ _ h, <- Nat.add_assoc, EG]
 · rw [show r = p + (r - p)by omega, rD d _ _ (by omega), rD d _ _ (by omega), <- Nat.add_assoc, Nat.add_mul_mod_self_right]
def lsR(m sg k:Nat):Rw:=⟨if k=0 then .n 0 else .w "out",List.replicate sg (((min (k+1) m:Nat):Int),1),.w (if k=m then "out" else "by")⟩
def lsM(m sg:Nat):List Rw:=(List.range (m+1)).map (lsR m sg)
theorem mO:(lsM m sg).length=m+1:=by unfold lsM;rw[AA,A0]
theorem aFP{k:Nat}(h:k < m+1):aO (lsM m sg) (k:Int)=lsR m sg k:=by
 unfold aO
 rw[B2,AI]
 unfold lsM
 rw[AG,BM h];rfl
theorem aBN(g:1<=m)(f:m<=100)(s1:1<=sg)(b:sg<=3):Mach (lsM m sg) sg where
 len:=by rw[mO];omega
 len2:=by rw[mO];omega
 sg1:=s1
 sg3:=b
 row:=λr a=>by
  rw[mO]
  unfold lsM at a
  obtain⟨k,e,rfl⟩:=AX.mp a
  rw[A7]at e
  refine⟨⟨?_,?_,λc d=>?_⟩,BQ⟩
  .unfold lsR;dsimp only;split
   · exact⟨by omega, by omega⟩
   · exact .inr rfl
  .unfold lsR;dsimp only;split
   · exact .inr rfl
   · exact .inl rfl
  .rw[CV d]
   exact⟨by show(0:Int)<=((min (k+1) m:Nat):Int);omega,by show((min (k+1) m:Nat):Int) < _;omega,.inl rfl⟩
def lsN(m i:Nat):Nat:=min (i+1) m
theorem aO5:Kdr (lsM m sg) sg (lsN m) (λ_=>true) where
 cel:=λi hi k a=>by
  rw[mO]at hi
  rw[aFP hi]
  exact uQ (by rfl) a
 lt:=λi hi=>by rw[mO]at hi ⊢;unfold lsN;omega
 rr:=λi hi=>rfl
 l0:=by rw[show(0:Int)=((0:Nat):Int)from rfl,aFP (by omega)];rfl
 rt0:=rfl
 lf:=λi hi b=>nomatch b
theorem aC3:∀ n i,i<=m->itN (lsN m) n i=min (i+n) m
 | 0,i,h=>by show i=min (i+0) m;omega
 | n+1,i,h=>by
  show itN (lsN m) n (lsN m i)=_
  rw[aC3 n _ (by unfold lsN;omega)];unfold lsN;omega
theorem aUS{n l:Nat}(h:m<=n):Cyc (lsM m sg) (lsN m) n l:=λr a=>by
 rw[mO]at a
 rw[aC3 _ _ (by omega),aC3 _ _ (by omega)];omega
end
def jnM(sg:Nat)(rs1 rs2:List Rw):List Rw:=
 rs1.map (gG "out" (.n ((rs1.length+1:Nat):Int)) (.n (rs1.length:Int)))++(⟨.n ((rs1.length+1:Nat):Int),List.replicate sg ((rs1.length:Int),-1),.w "out"⟩::rs2.map (movR ((rs1.length+1:Nat):Int)))
def jnN(n1:Nat)(nx1 nx2:Nat->Nat)(i:Nat):Nat:=if i < n1 then nx1 i else if i=n1 then i else n1+1+nx2 (i - (n1+1))
def jnT(n1:Nat)(rt2:Nat->Bool)(i:Nat):Bool:=if i < n1 then true else if i=n1 then false else rt2 (i - (n1+1))
section
variable{rs1 rs2:List Rw}{sg:Nat}{nx1 nx2:Nat->Nat}{rt2:Nat->Bool}
theorem jH:(jnM sg rs1 rs2).length=rs1.length+1+rs2.length:=by unfold jnM;rw[AS,A5,AA,AA];omega
theorem xY{rs:List Rw}{i:Nat}{r:Rw}(h:rs[i]? = some r):aO rs (i:Int)=r:=by
 unfold aO
 rw[B2,AI,h];rfl
theorem aBO{rs:List Rw}{i:Nat}(h:i < rs.length):rs[i]? = some (aO rs (i:Int)):=by
 have:=dY (rs:=rs) (q:=(i:Int)) (by omega) (by omega)
 rwa [B2]at this
theorem aBP{i:Nat}(h:i < rs1.length):aO (jnM sg rs1 rs2) (i:Int)=gG "out" (.n ((rs1.length+1:Nat):Int)) (.n (rs1.length:Int)) (aO rs1 (i:Int)):=xY (by
 unfold jnM
 rw[CC (by rw[AA];exact h),AG,aBO h];rfl)
theorem aBQ:aO (jnM sg rs1 rs2) (rs1.length:Int)=⟨.n ((rs1.length+1:Nat):Int),List.replicate sg ((rs1.length:Int),-1),.w "out"⟩:=xY (by
 unfold jnM
 rw[B1 (by rw[AA];exact AQ _),AA,Nat.sub_self];rfl)
theorem wC{i:Nat}(h:i < rs2.length):aO (jnM sg rs1 rs2) ((rs1.length+1+i:Nat):Int)=movR ((rs1.length+1:Nat):Int) (aO rs2 (i:Int)):=xY (by
 unfold jnM
 rw[B1 (by rw[AA];omega),AA,show rs1.length+1+i - rs1.length=i+1 by omega,AK,AG,aBO h];rfl)
theorem aHS(M1:Mach rs1 sg)(M2:Mach rs2 sg)(y:rs1.length+rs2.length<=900):Mach (jnM sg rs1 rs2) sg where
 len:=by rw[jH];omega
 len2:=by rw[jH];omega
 sg1:=M1.sg1
 sg3:=M1.sg3
 row:=λr e=>by
  rw[jH]
  have z:=M1.len
  have v:=M2.len
  have p:(Tn.n ((rs1.length+1:Nat):Int)).good ((rs1.length+1+rs2.length:Nat):Int):=⟨by omega,by omega⟩
  have u:(Tn.n (rs1.length:Int)).good ((rs1.length+1+rs2.length:Nat):Int):=⟨by omega,by omega⟩
  have s:∀ {t b:Tn},t.good rs1.length->b.good ((rs1.length+1+rs2.length:Nat):Int)->(mF "out" b t).good ((rs1.length+1+rs2.length:Nat):Int):=λ{t b} ht hb=>by
   cases t with
   | n q=>exact⟨ht.1,by have:=ht.2;show q < _;omega⟩
   | w x=>
    show(if x="out" then b else Tn.w x).good _
    split
    · exact hb
    · exact ht
  unfold jnM at e
  rcases BX.mp e with e|e
  .obtain ⟨h,f,rfl⟩:=AX.mp e
   obtain⟨⟨i,j,l⟩,m⟩:=M1.row h f
   exact⟨⟨s i p,s j u,λc g=>by obtain⟨a,b,d⟩:=l c g;exact⟨a,by omega,d⟩⟩,m⟩
  .rcases A6.mp e with rfl|e
   .refine ⟨⟨p,.inr rfl,λc g=>?_⟩,BQ⟩
    rw[CV g]
    exact⟨by show(0:Int)<=(rs1.length:Int);omega,by show(rs1.length:Int) < _;omega,.inr rfl⟩
   .obtain ⟨h,f,rfl⟩:=AX.mp e
    obtain⟨⟨i,j,l⟩,m⟩:=M2.row h f
    refine⟨⟨y9 (by omega) i (by omega),y9 (by omega) j (by omega),λc g=>?_⟩,by show(h.c.map _).length=_;rw[AA,m]⟩
    obtain⟨o,k,rfl⟩:=AX.mp g
    obtain⟨a,b,d⟩:=l o k
    exact⟨by show 0<=o.1+_;omega,by show o.1+_ < _;omega,d⟩
theorem aO6(M1:Mach rs1 sg)(M2:Mach rs2 sg)(f:Kdr rs1 sg nx1 (λ_=>true))(a:Kdr rs2 sg nx2 rt2):Kdr (jnM sg rs1 rs2) sg (jnN rs1.length nx1 nx2) (jnT rs1.length rt2) where
 cel:=λi hi k g=>by
  rw[jH]at hi
  unfold jnN jnT
  by_cases h:i < rs1.length
  .rw[AD h,AD h,aBP h]
   exact f.cel i h k g
  .by_cases h2:i=rs1.length
   .rw[AE h,AD h2,AE h,AD h2,h2,aBQ]
    exact uQ rfl g
   .rw[AE h,AE h2,AE h,AE h2]
    have e:=a.cel (i - (rs1.length+1)) (by omega) k g
    have d:=wC (sg:=sg) (rs1:=rs1) (rs2:=rs2) (i:=i - (rs1.length+1)) (by omega)
    rw[show rs1.length+1+(i - (rs1.length+1))=i by omega]at d
    rw[d]
    have j:=(M2.row _ (AH (aBO (rs:=rs2) (i:=i - (rs1.length+1)) (by omega)))).2
    unfold ck at e ⊢
    rw[AI,AW (by omega),Option.getD_some]at e
    show((aO rs2 ((i - (rs1.length+1):Nat):Int)).c.map (uC ((rs1.length+1:Nat):Int))).getD k (0,0)=_
    rw[AI,AG,AW (by omega),e]
    show((nx2 (i - (rs1.length+1)):Int)+((rs1.length+1:Nat):Int),_)=_
    congr 1;omega
 lt:=λi hi=>by
  rw[jH]at hi ⊢
  unfold jnN
  split
  .rename_i h;have:=f.lt i h;omega
  .split
   .omega
   .have:=a.lt (i - (rs1.length+1)) (by omega);omega
 rr:=λi hi=>by
  rw[jH]at hi
  by_cases h:i < rs1.length
  .have:=f.lt i h
   unfold jnN jnT
   rw[AD h,AD this,AD h]
  .by_cases h2:i=rs1.length
   .unfold jnN
    rw[AE h,AD h2]
   .have:=a.lt (i - (rs1.length+1)) (by omega)
    have e:=a.rr (i - (rs1.length+1)) (by omega)
    unfold jnN
    rw[AE h,AE h2]
    unfold jnT
    rw[AE (by omega),AE (by omega),AE h,AE h2,show rs1.length+1+nx2 (i - (rs1.length+1)) - (rs1.length+1)=nx2 (i - (rs1.length+1))by omega,e]
 l0:=by
  have:=M1.len
  rw[show(0:Int)=((0:Nat):Int)from rfl,aBP (by omega)]
  show mF "out" _ (aO rs1 0).l=_
  rw[f.l0];rfl
 rt0:=by have:=M1.len;unfold jnT;rw[AD (by omega)]
 lf:=λi hi b=>by
  rw[jH]at hi
  have m:=M2.len
  unfold jnT at b
  by_cases h:i < rs1.length
  .rw[AD h]at b;cases b
  .rw[AE h]at b
   by_cases h2:i=rs1.length
   .refine .inr ⟨rs1.length+1,by rw[h2,aBQ],by rw[jH];omega,?_⟩
    unfold jnT
    rw[AE (by omega),AE (by omega),Nat.sub_self,a.rt0]
   .rw[AE h2]at b
    have d:=wC (sg:=sg) (rs1:=rs1) (rs2:=rs2) (i:=i - (rs1.length+1)) (by omega)
    rw[show rs1.length+1+(i - (rs1.length+1))=i by omega]at d
    rw[d]
    rcases a.lf (i - (rs1.length+1)) (by omega) b with ⟨x,e⟩|⟨r,e,r1,r2⟩
    .exact .inl ⟨x,by show fZ _ (aO rs2 _).l=_;rw[e];rfl⟩
    .refine .inr ⟨rs1.length+1+r,?_,by rw[jH];omega,?_⟩
     .show fZ _ (aO rs2 _).l=_
      rw[e]
      show Tn.n ((r:Int)+((rs1.length+1:Nat):Int))=_
      congr 1;omega
     .unfold jnT
      rw[AE (by omega),AE (by omega),show rs1.length+1+r - (rs1.length+1)=r by omega,r2]
theorem z8(K1:Kdr rs1 sg nx1 (λ_=>true)):∀ n r,r < rs1.length->itN (jnN rs1.length nx1 nx2) n r=itN nx1 n r
 | 0,r,_=>rfl
 | n+1,r,hr=>by
  show itN _ n (jnN _ _ _ r)=itN nx1 n (nx1 r)
  rw[show jnN rs1.length nx1 nx2 r=nx1 r from AD hr,z8 K1 n _ (K1.lt r hr)]
theorem z9:∀ n,itN (jnN rs1.length nx1 nx2) n rs1.length=rs1.length
 | 0=>rfl
 | n+1=>by
  show itN _ n (jnN _ _ _ rs1.length)=_
  rw[show jnN rs1.length nx1 nx2 rs1.length=rs1.length by unfold jnN;rw[AE (by omega),AD rfl],z9 n]
theorem uS(K2:Kdr rs2 sg nx2 rt2):∀ n r,r < rs2.length->itN (jnN rs1.length nx1 nx2) n (rs1.length+1+r)=rs1.length+1+itN nx2 n r
 | 0,r,_=>rfl
 | n+1,r,hr=>by
  show itN _ n (jnN _ _ _ (rs1.length+1+r))=rs1.length+1+itN nx2 n (nx2 r)
  rw[show jnN rs1.length nx1 nx2 (rs1.length+1+r)=rs1.length+1+nx2 r by unfold jnN;rw[AE (by omega),AE (by omega),show rs1.length+1+r - (rs1.length+1)=r by omega],uS K2 n _ (K2.lt r hr)]
theorem aUT{i l:Nat}(b:Kdr rs1 sg nx1 (λ_=>true))(a:Kdr rs2 sg nx2 rt2)(d:Cyc rs1 nx1 i l)(e:Cyc rs2 nx2 i l):Cyc (jnM sg rs1 rs2) (jnN rs1.length nx1 nx2) i l:=by
 intro r c
 rw[jH]at c
 by_cases h:r < rs1.length
 .rw[z8 b _ _ h,z8 b _ _ h,d r h]
 .by_cases h2:r=rs1.length
  · rw [h2, z9, z9]
  · rw [show r = rs1.length + 1 + (r - (rs1.length + 1))by omega, uS a _ _ (by omega), uS a _ _ (by omega), e _ (by omega)]
end
theorem aRR{p q a b sg m:Nat}(d:1<=p)(p2:p<=100)(j:1<=q)(E:q<=100)(y:1<=m)(D:m<=100)(s1:1<=sg)(s:sg<=3){z:List Nat}(S:bK sg z) :
  gY (jnM sg (lsM m sg) (swM p q a b sg)) z=if (z.length % p=a/\z.length % q=b)\/z.length < m then("by":Str)else("out":Str):=by
 have M1:=aBN (m:=m) y D s1 s
 have M2:=jM (a:=a) (b:=b) d p2 j E s1 s
 have l:=aO5 (m:=m) (sg:=sg)
 have f:=vZ (a:=a) (b:=b) (sg:=sg) d j
 have L1:(lsM m sg).length=m+1:=mO
 have L2:(swM p q a b sg).length=p+q:=jG
 have M:=aHS M1 M2 (by omega)
 have K:=aO6 M1 M2 l f
 have h:=xM M S
 have o:=K.front M z S
 rw[z8 l _ _ (by omega),aC3 _ _ (by omega),CU]at o
 have x:=CH z.length (show p > 0 by omega)
 have C:=CH z.length (show q > 0 by omega)
 have r1:=aBP (sg:=sg) (rs1:=lsM m sg) (rs2:=swM p q a b sg) (i:=min z.length m) (by omega)
 rw[aFP (by omega)]at r1
 unfold gY
 rw[show("ever":Str)=eU from rfl,h,o]
 show(bU (dQ (jnM sg (lsM m sg) (swM p q a b sg)) (begB (jnM sg (lsM m sg) (swM p q a b sg)) z)) ((min z.length m:Nat):Int)).getD eU=_
 have v:¬ (("by":Str)="out"):=by decide +kernel
 have k:∀ t:Tn,mF "out" t (.w "by")=.w "by":=λt=>by simp only[mF,AE v]
 by_cases g:z.length < m
 .have st:dQ (jnM sg (lsM m sg) (swM p q a b sg)) (begB (jnM sg (lsM m sg) (swM p q a b sg)) z) ((min z.length m:Nat):Int)=some (.inr "by"):=by
   have:(aO (jnM sg (lsM m sg) (swM p q a b sg)) ((min z.length m:Nat):Int)).r=.w "by":=by
    rw[r1]
    show mF "out" _ (Tn.w (if min z.length m=m then "out" else "by"))=_
    rw[AE (by omega),k]
   unfold dQ
   rw[this]
  rw[hR st,AD (.inr g)];rfl
 .have A:begB (jnM sg (lsM m sg) (swM p q a b sg)) z ((lsM m sg).length:Int)=.n (((lsM m sg).length+1+z.length % p:Nat):Int):=by
   rw[K.back M z S _ (by rw[jH];omega) (by unfold jnT;rw[AE (by omega),AD rfl])]
   unfold lfB
   rw[z9,aBQ]
   show Tn.n (itN _ z.length ((((lsM m sg).length+1:Nat):Int)).toNat:Int)=_
   have:=uS (rs1:=lsM m sg) (nx1:=lsN m) f z.length 0 (by omega)
   rw[rC d _ _ (by omega),CU]at this
   rw[B2,this]
  have st:dQ (jnM sg (lsM m sg) (swM p q a b sg)) (begB (jnM sg (lsM m sg) (swM p q a b sg)) z) ((min z.length m:Nat):Int)=some (.inl (((lsM m sg).length+1+z.length % p:Nat):Int)):=by
   have:(aO (jnM sg (lsM m sg) (swM p q a b sg)) ((min z.length m:Nat):Int)).r=.n ((lsM m sg).length:Int):=by
    rw[r1]
    show mF "out" _ (Tn.w (if min z.length m=m then "out" else "by"))=_
    rw[AD (by omega)];rfl
   unfold dQ
   rw[this]
   simp only[A]
  have r2:=wC (sg:=sg) (rs1:=lsM m sg) (rs2:=swM p q a b sg) (i:=z.length % p) (by omega)
  rw[zY x]at r2
  rw[aDJ st]
  by_cases e:z.length % p=a
  .have B:begB (jnM sg (lsM m sg) (swM p q a b sg)) z (((lsM m sg).length+1+p:Nat):Int)=.w (if z.length % q=b then "by" else "out"):=by
    rw[K.back M z S _ (by rw[jH];omega) (by unfold jnT;rw[AE (by omega),AE (by omega)];exact A1 (by omega))]
    unfold lfB
    have:=uS (rs1:=lsM m sg) (nx1:=lsN m) f z.length (p+0) (by omega)
    rw[rD j _ _ (by omega),CU,GL p]at this
    have u:=wC (sg:=sg) (rs1:=lsM m sg) (rs2:=swM p q a b sg) (i:=p+z.length % q) (by omega)
    rw[zZ C]at u
    rw[this,u];rfl
   have c:dQ (jnM sg (lsM m sg) (swM p q a b sg)) (begB (jnM sg (lsM m sg) (swM p q a b sg)) z) (((lsM m sg).length+1+z.length % p:Nat):Int)=some (.inr (if z.length % q=b then "by" else "out")):=by
    have:(aO (jnM sg (lsM m sg) (swM p q a b sg)) (((lsM m sg).length+1+z.length % p:Nat):Int)).r=.n (((lsM m sg).length+1+p:Nat):Int):=by
     rw[r2]
     show fZ _ (if z.length % p=a then .n (p:Int)else .w "out")=_
     rw[AD e]
     show Tn.n ((p:Int)+(((lsM m sg).length+1:Nat):Int))=_
     congr 1;omega
    unfold dQ
    rw[this]
    simp only[B]
   rw[hR c]
   by_cases e2:z.length % q=b
   .rw[AD e2,AD (.inl ⟨e,e2⟩)];rfl
   .rw[AE e2,AE (by rintro (h|h);exact e2 h.2;exact g h)];rfl
  .have c:dQ (jnM sg (lsM m sg) (swM p q a b sg)) (begB (jnM sg (lsM m sg) (swM p q a b sg)) z) (((lsM m sg).length+1+z.length % p:Nat):Int)=some (.inr "out"):=by
    have:(aO (jnM sg (lsM m sg) (swM p q a b sg)) (((lsM m sg).length+1+z.length % p:Nat):Int)).r=.w "out":=by
     rw[r2]
     show fZ _ (if z.length % p=a then .n (p:Int)else .w "out")=_
     rw[AE e];rfl
    unfold dQ
    rw[this]
   rw[hR c,AE (by rintro (h|h);exact e h.1;exact g h)];rfl
theorem aN8(i j:Nat):d2 jW (.int ((i:Int)+1)) (.int (j:Int))=.ok (.int ((min (i+1) j:Nat):Int)):=by
 show R.ok (PyData.int (jW ((i:Int)+1) (j:Int)))=_
 congr 2
 unfold jW
 split<;>omega
theorem aUU{m sg:Nat}(u:m<=100)(p:sg<=3):gE [.d (.int (m:Int)),.d (.int (sg:Int))]=.ok (.d (aC (lsM m sg))):=by
 obtain⟨r,t,f,c,rfl⟩:=lF (fs:=stN 3) (fb:=aI9) (d:=λk:Nat=>.int (k:Int)) (xs:=List.range (m+1)) (ρ:=[iO m,iO sg,some (.l []),none,none])
  (λi ρ=>∃ f c,ρ=[iO m,iO sg,some (.l ((List.range i).map λk=>rowD (lsR m sg k))),f,c]) ⟨none,none,rfl⟩ λi k ρ s g=>by
  obtain⟨f,c,e⟩:=g
  obtain⟨rfl,hi⟩:=aFL s
  have b:((List.range k).map λk=>rowD (lsR m sg k)).length < 16777216:=by rw[AA,A0];omega
  have j:=zX (.tuple [.int ((min (k+1) m:Nat):Int),.int 1]) p
  have a:=aN8 k m
  have q:rowD (lsR m sg k)=.tuple [if decide ((0:Int) < (k:Int))=true then .str "out" else .int 0,.tuple (List.replicate sg (.tuple [.int ((min (k+1) m:Nat):Int),.int 1])),if decide ((k:Int)=(m:Int))=true then .str "out" else .str "by"]:=by
   unfold rowD lsR
   rw[sR]
   rw[show(if k=0 then Tn.n 0 else Tn.w "out").d=(if decide ((0:Int) < (k:Int))=true then .str "out" else .int 0)from ?_,show(Tn.w (if k=m then "out" else "by")).d=(if decide ((k:Int)=(m:Int))=true then .str "out" else .str "by")from ?_]
   .by_cases h:k=m
    · rw [AD h, AD (AJ (by omega))]; rfl
    · rw [AE h, AE (by rw [DW]; omega)]; rfl
   .by_cases h:k=0
    · rw [AD h, AE (by rw [DW]; omega)]; rfl
    · rw [AE h, AD (AJ (by omega))]; rfl
  refine⟨[iO m,iO sg,some (.l ((List.range k).map λk=>rowD (lsR m sg k))),iO k,c],_,by rw[e];rfl,.inl ?_,iO k,some (.d (.tuple (List.replicate sg (.tuple [.int ((min (k+1) m:Nat):Int),.int 1])))),rfl⟩
  rw[xX,q]
  generalize ((List.range k).map λk=>rowD (lsR m sg k))=L at *
  generalize ((min (k+1) m:Nat):Int)=o at *
  generalize List.replicate sg (PyData.tuple [.int o,.int 1])=RP at *
  unfold aI9
  simp only[iO,bW,fC,f8,fR,fE,nE,iW,eX,eQ,f7,mB,eM,R.bind_ok,AN,AK,jF,yY,aJH,A2,A3,oF,iV,nF,mC,a,sQ,j,mE,A5,BF,Nat.reduceAdd,Nat.reduceLeDiff,BU,AD b]
 have j:aC (lsM m sg)=.tuple ((List.range (List.range (m+1)).length).map λk=>rowD (lsR m sg k)):=by
  unfold aC lsM
  rw[AZ,A0];rfl
 have r1:=sH (n:=m+1) (by omega)
 rw[show((m+1:Nat):Int)=(m:Int)+1 from rfl]at r1
 unfold gE
 rw[j,mJ]
 simp only[iO,j5,bW,lE,iW,eQ,CN,BU,R.bind_ok,A4,BN,A5,BF,Nat.reduceAdd,Nat.reduceSub,List.replicate,B7,BZ,A2,A3,vL,yW,fR,f7,mC,eM,AN,AK,r1,t,oE,f8,fE,mE]
theorem aUV(t:Tn)(k:Int):j6 [.d t.d,.d (.int k)]=.ok (.d (fZ k t).d):=by
 cases t with
 | n q=>simp[j6,pO,Tn.d,yZ,fZ]
 | w x=>simp[j6,pO,Tn.d,y6,fZ]
theorem aRS{rs:List Rw}{sg:Nat}(M:Mach rs sg)(k:Int):gJ [.d (aC rs),.d (.int k)]=.ok (.d (.list (rs.map λr=>rowD (movR k r)))):=by
 have w:=M.len2
 obtain⟨t,o,f,h,j,rfl⟩:=lF (fs:=stT [(stN 3),(stN 4),(stN 5)]) (fb:=raF) (d:=rowD) (xs:=rs) (ρ:=[some (.d (aC rs)),some (.d (.int k)),some (.l []),none,none,none])
  (λi ρ=>∃ f h j,ρ=[some (.d (aC rs)),some (.d (.int k)),some (.l ((rs.take i).map λr=>rowD (movR k r))),f,h,j]) ⟨none,none,none,rfl⟩ λi r ρ n m=>by
  obtain⟨f,h,j,e⟩:=m
  have hi:=(AU.mp n).1
  have b:((rs.take i).map λr=>rowD (movR k r)).length < 16777216:=by rw[AA,CL];omega
  have g:=M.row r (AH n)
  have v:=M.sg3
  have p:=cU (fs:=stT [(stN 0),(stN 1)]) (fe:=(cJ (aA (e2 dN (rV 0) (rV 2)) (aA (eV 1) aL)))) (ρ0:=[none,none,some (.d (.int k))]) (d:=cL) (g:=λc=>cL (uC k c)) (xs:=r.c) λc _=>⟨_,rfl,by simp[cL,uC]⟩
  have a:bE (.tuple (r.c.map cL))=.ok (r.c.map cL):=dP (by rw[AA];omega)
  have e2:rowD (movR k r)=.tuple [(fZ k r.l).d,.tuple (r.c.map λc=>cL (uC k c)),(fZ k r.r).d]:=by
   unfold rowD movR
   simp only[AZ];rfl
  have h1:=aUV r.l k
  have h2:=aUV r.r k
  have q:rs.take (i+1)=rs.take i++[r]:=by rw[List.take_succ,n];rfl
  refine⟨[some (.d (aC rs)),some (.d (.int k)),some (.l ((rs.take i).map λr=>rowD (movR k r))),some (.d r.l.d),some (.d (.tuple (r.c.map cL))),some (.d r.r.d)],_,by rw[e];rfl,.inl ?_,some (.d r.l.d),some (.d (.tuple (r.c.map cL))),some (.d r.r.d),rfl⟩
  rw[q,BL,A4,BN,e2]
  generalize ((rs.take i).map λr=>rowD (movR k r))=L at *
  generalize r.c.map cL=u at *
  generalize (r.c.map λc=>cL (uC k c))=x at *
  generalize aC rs=s at *
  unfold raF
  simp only[iO,oF,iV,eX,eQ,aC0,i8,kY,fE,nE,o3,eM,eJ,A4,BN,GK,ET,GH,R.bind_ok,AN,AK,A5,BF,Nat.reduceAdd,Nat.reduceLeDiff,BU,h1,h2,t7,a,p,mE,AD b,A2,A3]
 rw[GJ]at o
 have a:bE (aC rs)=.ok (rs.map rowD):=dP (by rw[AA];omega)
 unfold gJ
 rw[kM]
 generalize aC rs=s at *
 generalize rs.map rowD=L1 at *
 generalize (rs.map λr=>rowD (movR k r))=L2 at *
 simp only[iO,j5,bW,lE,iW,eQ,CN,BU,R.bind_ok,A4,BN,A5,BF,Nat.reduceAdd,Nat.reduceSub,List.replicate,B7,BZ,A2,A3,vL,fE,mB,AN,AK,a,o,aTS,aVG,oE,kY]
theorem aL4(b t:Tn):(if isW "out" t=true then b.d else t.d)=(mF "out" b t).d:=by
 cases t with
 | n q=>rfl
 | w x=>
  by_cases e:x="out"
  · simp [isW, mF, e]
  · simp [isW, mF, e]
theorem aWY{rs1 rs2:List Rw}{sg:Nat}(M1:Mach rs1 sg)(M2:Mach rs2 sg)(S:rs1.length+rs2.length<=900)(l0:(aO rs2 0).l=.n 0):gK [.d (aC rs1),.d (aC rs2),.d (.str "out")]=.ok (.d (aC (jnM sg rs1 rs2))):=by
 have H:=aRS M2 ((rs1.length:Int)+1)
 have j:dLen (aC rs1)=.ok (.int rs1.length):=by unfold aC;rw[kT,AA]
 have m:∃ r t,rs2=r::t:=by
  cases rs2 with
  | nil=>exact absurd M2.len (by simp)
  | cons r t=>exact⟨r,t,rfl⟩
 have q:dIx (.list (rs2.map λr=>rowD (movR ((rs1.length:Int)+1) r))) (.int 0)=.ok (rowD (movR ((rs1.length:Int)+1) (aO rs2 0))):=by
  obtain⟨r,t,rfl⟩:=m
  exact qR _ _
 have a:dIx (rowD (movR ((rs1.length:Int)+1) (aO rs2 0))) (.int 0)=.ok (.int ((rs1.length:Int)+1)):=by
  have:dIx (rowD (movR ((rs1.length:Int)+1) (aO rs2 0))) (.int 0)=.ok (fZ ((rs1.length:Int)+1) (aO rs2 0).l).d:=qQ _ _
  rw[this,l0]
  show R.ok (PyData.int ((0:Int)+((rs1.length:Int)+1)))=_
  rw[Int.zero_add]
 have v:bE (aC rs1)=.ok (rs1.map rowD):=dP (by rw[AA];omega)
 obtain⟨I,E,C,B,s,rfl⟩:=lF (fs:=stT [(stN 6),(stN 7),(stN 8)]) (fb:=jnF) (d:=rowD) (xs:=rs1) (ρ:=[some (.d (aC rs1)),some (.d (aC rs2)),some (.d (.str "out")),some (.d (.int (rs1.length:Int))),some (.d (.list (rs2.map λr=>rowD (movR ((rs1.length:Int)+1) r)))),some (.l []),none,none,none])
  (λi ρ=>∃ C B s,ρ=[some (.d (aC rs1)),some (.d (aC rs2)),some (.d (.str "out")),some (.d (.int (rs1.length:Int))),some (.d (.list (rs2.map λr=>rowD (movR ((rs1.length:Int)+1) r)))),some (.l ((rs1.take i).map λr=>rowD (gG "out" (.n ((rs1.length+1:Nat):Int)) (.n (rs1.length:Int)) r))),C,B,s]) ⟨none,none,none,rfl⟩ λi r ρ f u=>by
  obtain⟨C,B,s,e⟩:=u
  have hi:=(AU.mp f).1
  have p:((rs1.take i).map λr=>rowD (gG "out" (.n ((rs1.length+1:Nat):Int)) (.n (rs1.length:Int)) r)).length < 16777216:=by rw[AA,CL];omega
  have g:=(M1.row r (AH f)).1
  have e1:=zA (w:="out") (.inr rfl) g.1
  have e2:=zA (w:="out") (.inr rfl) g.2.1
  have J:=aL4 (.n ((rs1.length+1:Nat):Int)) r.l
  have M:=aL4 (.n (rs1.length:Int)) r.r
  have K:rs1.take (i+1)=rs1.take i++[r]:=by rw[List.take_succ,f];rfl
  have G:rowD (gG "out" (.n ((rs1.length+1:Nat):Int)) (.n (rs1.length:Int)) r)=.tuple [if isW "out" r.l=true then .int ((rs1.length:Int)+1)else r.l.d,.tuple (r.c.map cL),if isW "out" r.r=true then .int (rs1.length:Int)else r.r.d]:=by
   unfold rowD gG
   simp only[<-J,<-M];rfl
  refine⟨[some (.d (aC rs1)),some (.d (aC rs2)),some (.d (.str "out")),some (.d (.int (rs1.length:Int))),some (.d (.list (rs2.map λr=>rowD (movR ((rs1.length:Int)+1) r)))),some (.l ((rs1.take i).map λr=>rowD (gG "out" (.n ((rs1.length+1:Nat):Int)) (.n (rs1.length:Int)) r))),some (.d r.l.d),some (.d (.tuple (r.c.map cL))),some (.d r.r.d)],_,by rw[e];rfl,.inl ?_,some (.d r.l.d),some (.d (.tuple (r.c.map cL))),some (.d r.r.d),rfl⟩
  rw[K,BL,A4,BN,G]
  generalize ((rs1.take i).map λr=>rowD (gG "out" (.n ((rs1.length+1:Nat):Int)) (.n (rs1.length:Int)) r))=L at *
  generalize r.c.map cL=P at *
  generalize aC rs1=z at *
  generalize aC rs2=D at *
  generalize (rs2.map λr=>rowD (movR ((rs1.length:Int)+1) r))=L2 at *
  unfold jnF
  simp only[iO,fR,fE,nE,iW,eX,eQ,f7,mB,eM,R.bind_ok,AN,AK,q,a,e1,e2,yY,aJH,A2,A3,oF,iV,A5,BF,Nat.reduceAdd,Nat.reduceLeDiff,BU,AD p]
 rw[GJ]at E
 have N:=zX (.tuple [.int (rs1.length:Int),.int (-1)]) M1.sg3
 have b:∃ r t,rs1=r::t:=by
  cases rs1 with
  | nil=>exact absurd M1.len (by simp)
  | cons r t=>exact⟨r,t,rfl⟩
 have A:∃ x,dIx (aC rs1) (.int 0)=.ok x/\∃ y,dIx x (.int 1)=.ok y/\dLen y=.ok (.int (sg:Int)):=by
  obtain⟨r,t,rfl⟩:=b
  refine⟨_,qQ _ _,_,aK2 _ _ _,?_⟩
  rw[kT,AA,(M1.row r AV).2]
 obtain⟨x,x1,y,O,F⟩:=A
 have h:(rs1.map λr=>rowD (gG "out" (.n ((rs1.length+1:Nat):Int)) (.n (rs1.length:Int)) r)).length < 16777216:=by rw[AA];omega
 have o:i5 (.list ((rs1.map λr=>rowD (gG "out" (.n ((rs1.length+1:Nat):Int)) (.n (rs1.length:Int)) r))++[.tuple [.int ((rs1.length:Int)+1),.tuple (List.replicate sg (.tuple [.int (rs1.length:Int),.int (-1)])),.str "out"]])) (.list (rs2.map λr=>rowD (movR ((rs1.length:Int)+1) r)))=.ok (((rs1.map λr=>rowD (gG "out" (.n ((rs1.length+1:Nat):Int)) (.n (rs1.length:Int)) r))++[.tuple [.int ((rs1.length:Int)+1),.tuple (List.replicate sg (.tuple [.int (rs1.length:Int),.int (-1)])),.str "out"]])++(rs2.map λr=>rowD (movR ((rs1.length:Int)+1) r))):=by
  unfold i5
  simp only
  rw[AD (by rw[eE,AS,AA,AA,BC];omega)]
 have k:aC (jnM sg rs1 rs2)=.tuple (((rs1.map λr=>rowD (gG "out" (.n ((rs1.length+1:Nat):Int)) (.n (rs1.length:Int)) r))++[.tuple [.int ((rs1.length:Int)+1),.tuple (List.replicate sg (.tuple [.int (rs1.length:Int),.int (-1)])),.str "out"]])++(rs2.map λr=>rowD (movR ((rs1.length:Int)+1) r))):=by
  unfold aC jnM
  rw[BL,A4,AZ,AZ,DZ,List.singleton_append]
  unfold rowD
  rw[sR];rfl
 unfold gK
 rw[k,kN]
 generalize (rs1.map λr=>rowD (gG "out" (.n ((rs1.length+1:Nat):Int)) (.n (rs1.length:Int)) r))=L1 at *
 generalize (rs2.map λr=>rowD (movR ((rs1.length:Int)+1) r))=L2 at *
 generalize rs1.map rowD=T at *
 generalize aC rs1=z at *
 generalize aC rs2=D at *
 generalize List.replicate sg (PyData.tuple [.int (rs1.length:Int),.int (-1)])=RP at *
 generalize rowD (movR ((rs1.length:Int)+1) (aO rs2 0))=Q at *
 simp only[iO,j5,bW,fC,f8,fE,fR,eM,i8,eX,eQ,kY,lE,iW,CN,BU,R.bind_ok,A4,BN,A5,BF,Nat.reduceAdd,Nat.reduceSub,Nat.reduceLeDiff,List.replicate,B7,BZ,A2,A3,vL,mB,f7,mC,AN,AK,j,H,t7,v,E,oF,iV,nE,sQ,aEH,q,a,x1,O,F,N,mE,AD h,oE,o]
structure Crt(p q:Nat):Prop where
 p1:1<=p
 q1:1<=q
 ex:∀ a,a < p->∀ b,b < q->∃ t,t < p * q/\t % p=a/\t % q=b
 un:∀ u,u < p * q->∀ v,v < p * q->u % p=v % p->u % q=v % q->u=v
def aUW(p q:Nat):Bool:=((List.range p).all λa=>(List.range q).all λb=>(List.range (p * q)).any λt=>t % p == a && t % q == b) && (List.range (p * q)).all λu=>(List.range (p * q)).all λv=>!(u % p == v % p && u % q == v % q) || u == v
theorem rF{p q:Nat}(c:1<=p)(d:1<=q)(h:aUW p q=true):Crt p q:=by
 unfold aUW at h
 rw[BE]at h
 refine⟨c,d,λa i b k=>?_,λu g v f h1 h2=>?_⟩
 .have:=CB.mp (CB.mp h.1 a (A7.mpr i)) b (A7.mpr k)
  obtain⟨t,j,e⟩:=GG.mp this
  rw[BE,beq_iff_eq,beq_iff_eq]at e
  exact⟨t,A7.mp j,e.1,e.2⟩
 .have:=CB.mp (CB.mp h.2 u (A7.mpr g)) v (A7.mpr f)
  simpa[h1,h2] using this
theorem aFQ{l:Nat}(l1:1<=l):∀ n i,i < l->rhI 0 l n i=(i+n) % l
 | 0,i,h=>(CY h).symm
 | n+1,i,h=>by
  show rhI 0 l n (rhN 0 l i)=_
  unfold rhN
  by_cases q:i+1 < 0+l
  .rw[AD q,aFQ l1 n (i+1) (by omega)]
   congr 1;omega
  .rw[AE q,aFQ l1 n 0 (by omega),show i+(n+1)=n+l by omega,Nat.add_mod_right,CU]
def byW(p q a b n:Nat):Str:=if n % p=a/\n % q=b then "by" else "out"
theorem aL5(p q a b n:Nat):byW p q a b n="by"\/byW p q a b n="out":=by unfold byW;split<;>simp
theorem rG{p q a b:Nat}(n:Nat):byW p q a b (n % (p * q))=byW p q a b n:=by
 unfold byW
 rw[Nat.mod_mod_of_dvd n (Nat.dvd_mul_right p q),Nat.mod_mod_of_dvd n (Nat.dvd_mul_left q p)]
theorem aO7:¬ (("by":Str)="out"):=by decide +kernel
theorem Crt.part{p q:Nat}(C:Crt p q){a b:Nat}(k:a < p)(l:b < q){i j:Nat}(h:i < j)(m:j < i+p * q):∃ n,byW p q a b (i+n)≠byW p q a b (j+n):=by
 obtain⟨t,f,ta,tb⟩:=C.ex a k b l
 have e:0 < p * q:=Nat.mul_pos C.p1 C.q1
 have g:i % (p * q) < p * q:=CH _ e
 refine⟨t+(p * q - i % (p * q)),?_⟩
 have e1:(i+(t+(p * q - i % (p * q)))) % (p * q)=t:=by
  have:=Nat.div_add_mod i (p * q)
  rw[show i+(t+(p * q - i % (p * q)))=t+p * q * (i / (p * q)+1)by rw[Nat.mul_add,Nat.mul_one];omega,EG]
  exact CY f
 have e2:(j+(t+(p * q - i % (p * q)))) % (p * q)=(t+(j - i)) % (p * q):=by
  have:=Nat.div_add_mod i (p * q)
  rw[show j+(t+(p * q - i % (p * q)))=(t+(j - i))+p * q * (i / (p * q)+1)by rw[Nat.mul_add,Nat.mul_one];omega,EG]
 rw[<-rG (i+_),e1,<-rG (j+_),e2]
 have w1:byW p q a b t="by":=by unfold byW;rw[AD ⟨ta,tb⟩]
 rw[w1]
 intro h2
 by_cases c:(t+(j - i)) % (p * q) % p=a/\(t+(j - i)) % (p * q) % q=b
 .have d:=CH (t+(j - i)) e
  have:=C.un _ d t f (by rw[c.1,ta]) (by rw[c.2,tb])
  rcases Nat.lt_or_ge (t+(j - i)) (p * q)with q1|q1
  · rw [CY q1]at this; omega
  · rw [Nat.mod_eq_sub_mod q1, CY (by omega)]at this; omega
 .unfold byW at h2
  rw[AE c]at h2
  exact aO7 h2
section
variable{p q a b sg:Nat}
theorem aVW(c:1<=p)(p2:p<=100)(d:1<=q)(f:q<=100)(h:p * q<=199)(s1:1<=sg)(e:sg<=3):∃ N,Wy (swM p q a b sg) sg N/\EndW (swM p q a b sg) sg 200 N:=
 aI7 (jM c p2 d f s1 e) (aL2 (vZ c d) (jM c p2 d f s1 e) (aL3 c d 1) (AQ _) (Nat.mul_pos c d) (by omega))
theorem aUX(C:Crt p q)(p2:p<=100)(k:q<=100)(h:p * q<=199)(o:a < p)(r:b < q)(s1:1<=sg)(g:sg<=3) :
  (p * q<=60->∃ d,dD [.d (aC (swM p q a b sg))]=.ok (.d d)/\dLen d=.ok (.int ((p * q:Nat):Int)))/\(60 < p * q->dD [.d (aC (swM p q a b sg))]=.ex ⟨"TooMany",[]⟩):=by
 have c:1<=p * q:=Nat.mul_pos C.p1 C.q1
 obtain⟨N,W,E⟩:=aVW (a:=a) (b:=b) C.p1 p2 C.q1 k h s1 g
 have:=aFN (st:=0) (l:=p * q) (f:=byW p q a b) W E c (by omega) (aL5 p q a b) (λi j e s=>by
  obtain⟨n,m⟩:=C.part o r e (by omega)
  refine⟨n,?_⟩
  rw[aFQ c n i (by omega),aFQ c n j (by omega),rG,rG]
  exact m) λz S=>by
  rw[aRO C.p1 p2 C.q1 k s1 g S,aFQ c _ 0 (by omega),rG,CU];rfl
 rw[CU]at this
 exact this
theorem xZ{l:Nat}(l1:1<=l):∀ n i,1<=i->i < 1+l->rhI 1 l n i=1+(i - 1+n) % l
 | 0,i,h,h2=>by rw[GL,CY (by omega)];show i=_;omega
 | n+1,i,h,h2=>by
  show rhI 1 l n (rhN 1 l i)=_
  unfold rhN
  by_cases q:i+1 < 1+l
  .rw[AD q,xZ l1 n (i+1) (by omega) (by omega)]
   congr 2;omega
  .rw[AE q,xZ l1 n 1 (by omega) (by omega),show i - 1+(n+1)=n+l by omega,Nat.add_mod_right]
   congr 2;omega
def mP(a b n:Nat):Str:=if n=0 then "by" else byW 5 12 a b n
theorem aFR(a b m:Nat):byW 5 12 a b (1+m % 60)=byW 5 12 a b (1+m):=by
 unfold byW
 rw[show(1+m % 60) % 5=(1+m) % 5 by omega,show(1+m % 60) % 12=(1+m) % 12 by omega]
theorem aL6(C:Crt 5 12)(y:1<=a)(t:a < 5)(u:b < 12):dD [.d (aC (jnM 1 (lsM 1 1) (swM 5 12 a b 1)))]=.ex ⟨"TooMany",[]⟩:=by
 have M1:=aBN (m:=1) (sg:=1) (by omega) (by omega) (by omega) (by omega)
 have M2:=jM (p:=5) (q:=12) (a:=a) (b:=b) (sg:=1) (by omega) (by omega) (by omega) (by omega) (by omega) (by omega)
 have M:=aHS M1 M2 (by rw[mO,jG];omega)
 have k:=aO5 (m:=1) (sg:=1)
 have g:=vZ (p:=5) (q:=12) (a:=a) (b:=b) (sg:=1) (by omega) (by omega)
 have Kj:=aO6 M1 M2 k g
 have Cj:=aUT k g (aUS (l:=60) (n:=1) (AQ 1)) (aL3 (p:=5) (q:=12) (a:=a) (b:=b) (sg:=1) (by omega) (by omega) 1)
 obtain⟨N,W,E⟩:=aI7 M (aL2 Kj M Cj (AQ 1) (by omega) (by omega))
 refine(aFN (st:=1) (l:=60) (f:=mP a b) W E (by omega) (by omega) (λi=>?_) (λi j c w=>?_) λz S=>?_).2 (by omega)
 .unfold mP
  split
  .exact .inl rfl
  .exact aL5 ..
 .by_cases r:i=0
  .subst r
   by_cases o:mP a b j="by"
   .refine ⟨60,?_⟩
    rw[show rhI 1 60 60 0=rhI 1 60 59 1 from rfl,xZ (by omega) 59 1 (by omega) (by omega),xZ (by omega) 60 j (by omega) (by omega)]
    rw[show 1+(j - 1+60) % 60=j by omega,o]
    show mP a b 60≠_
    unfold mP byW
    rw[AE (by omega),AE (by omega)]
    exact λh=>aO7 h.symm
   .exact ⟨0,λh=>o h.symm⟩
  .obtain ⟨n,s⟩:=C.part t u c (by omega)
   refine⟨n,?_⟩
   rw[xZ (by omega) n i (by omega) (by omega),xZ (by omega) n j (by omega) (by omega)]
   unfold mP
   rw[AE (by omega),AE (by omega),aFR,aFR,show 1+(i - 1+n)=i+n by omega,show 1+(j - 1+n)=j+n by omega]
   exact s
 .rw[aRR (by omega) (by omega) (by omega) (by omega) (by omega) (by omega) (by omega) (by omega) S]
  cases v:z.length with
  | zero=>
   show _=mP a b 0
   unfold mP
   rw[AD (Or.inr (by decide)),AD rfl]
  | succ m=>
   have e:mP a b (1+m % 60)=byW 5 12 a b (m+1):=by
    unfold mP
    rw[AE (by omega),aFR,GB]
   show _=mP a b (rhI 1 60 m 1)
   rw[xZ (by omega) m 1 (by omega) (by omega),show 1 - 1+m=m by omega,e]
   unfold byW
   by_cases h:(m+1) % 5=a/\(m+1) % 12=b
   .rw[AD (Or.inl h),AD h]
   .rw[AE (λx=>x.elim h (by omega)),AE h]
end
theorem aRT:Crt 7 8/\Crt 5 12/\Crt 2 31/\Crt 7 9/\Crt 5 13/\Crt 6 11:=
 ⟨rF (by decide) (by decide) (by decide +kernel),rF (by decide) (by decide) (by decide +kernel),rF (by decide) (by decide) (by decide +kernel),rF (by decide) (by decide) (by decide +kernel),rF (by decide) (by decide) (by decide +kernel),rF (by decide) (by decide) (by decide +kernel)⟩
section
variable{sg:Nat}
def azN(n:Nat):List Nat:=List.replicate n 97
theorem rH(n:Nat):(azN n).length=n:=BQ
theorem lI(s1:1<=sg){n:Nat}(h:n<=1000):bK sg (azN n):=⟨by rw[rH];exact h,λc a=>by rw[CV a];exact AJ ⟨by omega,by omega⟩⟩
end
noncomputable def sbN(a b sg n:Nat):Dz:=bF (swM 13 17 a b sg) (azN n)
section
variable{a b sg:Nat}
theorem aVX(f:b < 17)(s1:1<=sg)(i:sg<=3){n m:Nat}(e:n<=900)(g:m<=900)(h:sbN a b sg n=sbN a b sg m):n % 13=m % 13/\n % 17=m % 17:=by
 have M:=jM (p:=13) (q:=17) (a:=a) (b:=b) (by omega) (by omega) (by omega) (by omega) s1 i
 have K:=vZ (p:=13) (q:=17) (a:=a) (b:=b) (sg:=sg) (by omega) (by omega)
 have L:(swM 13 17 a b sg).length=30:=jG
 have Sn:=lI s1 (n:=n) (by omega)
 have Sm:=lI s1 (n:=m) (by omega)
 have fr:∀ k,k<=900->fP (swM 13 17 a b sg) (azN k) (0,0)=.n ((k % 13:Nat):Int):=λk c=>by
  rw[K.front M _ (lI s1 (by omega)),rH,rC (by omega) _ _ (by omega),CU]
 have bk:∀ k,k<=900->∀ j,j < 17->begB (swM 13 17 a b sg) (azN k) ((13+j:Nat):Int)=.w (if (j+k) % 17=b then "by" else "out"):=λk c j o=>by
  rw[K.back M _ (lI s1 (by omega)) (13+j) (by omega) (A1 (by omega)),rH]
  unfold lfB
  rw[rD (by omega) _ _ o,zZ (CH _ (by omega))];rfl
 unfold sbN bF jA at h
 injection h with h
 injection h with h1 h2
 injection h2 with h2
 injection h2 with h2
 have r:∀ k:Nat,k < 30->begB (swM 13 17 a b sg) (azN n) (k:Int)=begB (swM 13 17 a b sg) (azN m) (k:Int):=λk c=>by
  rw[AZ,AZ]at h2
  have:=DF (λl=>l[k]?) h2
  simp only[AG,L,BM c,FC,Option.some.injEq,Function.comp]at this
  generalize begB (swM 13 17 a b sg) (azN n) (k:Int)=x at this
  generalize begB (swM 13 17 a b sg) (azN m) (k:Int)=y at this
  cases x<;>cases y<;>simp[Tn.d]at this ⊢<;>exact this
 refine⟨?_,?_⟩
 .rw[fr n e,fr m g]at h1
  have:=jL _ _ h1
  omega
 .have c:(17+b - n % 17) % 17 < 17:=CH _ (by omega)
  have:=r (13+(17+b - n % 17) % 17) (by omega)
  rw[bk n e _ c,bk m g _ c,AD (by omega)]at this
  by_cases q:((17+b - n % 17) % 17+m) % 17=b
  .omega
  .rw[AE q]at this
   injection this with this
   exact absurd this (by decide)
theorem aRU{fs:List Dz}{y:Dz}(h:y∉fs):∀ n,1<=n->adA fs (List.replicate n y)=fs++[y]:=by
 have a:∀ n,(List.replicate n y).foldl adQ (fs++[y])=fs++[y]:=λn=>by
  induction n with
  | zero=>rfl
  | succ n ih=>rw[B0,EE,mG (by simp),ih]
 intro n b
 obtain⟨k,rfl⟩:∃ k,n=k+1:=⟨n - 1,by omega⟩
 unfold adA
 rw[B0,EE,kI h,a]
theorem aN9(s1:1<=sg)(f:sg<=3){n:Nat}(g:n<=900):afW (swM 13 17 a b sg) sg (sbN a b sg n)=List.replicate sg (sbN a b sg (n+1)):=by
 have M:=jM (p:=13) (q:=17) (a:=a) (b:=b) (by omega) (by omega) (by omega) (by omega) s1 f
 have K:=vZ (p:=13) (q:=17) (a:=a) (b:=b) (sg:=sg) (by omega) (by omega)
 unfold sbN
 rw[<-aE8 M (lI s1 (by omega))]
 refine List.eq_replicate_iff.mpr ⟨by unfold vX;rw[AA,AA,A0],λx c=>?_⟩
 unfold vX at c
 rw[AZ]at c
 obtain⟨k,e,rfl⟩:=AX.mp c
 have d:(azN n++[97+k]).length=(azN (n+1)).length:=by rw[AS,rH,rH,BC]
 exact K.same M (zE (lI s1 (by omega)) (A7.mp e) (by rw[rH];omega)) (lI s1 (by omega)) (by rw[d]) λr _=>by rw[d]
theorem aHT(c:b < 17)(s1:1<=sg)(d:sg<=3):∀ n,n<=220->bfW (swM 13 17 a b sg) sg n=(List.range (n+1)).map (sbN a b sg)
 | 0,_=>rfl
 | n+1,hn=>by
  have ih:=aHT c s1 d n (by omega)
  unfold bfW at ih ⊢
  have g:(bfQ (afW (swM 13 17 a b sg) sg) (bF (swM 13 17 a b sg) []) n)[n]? = some (sbN a b sg n):=by
   rw[ih,AG,BM (by omega)];rfl
  rw[o6 g,ih,aN9 s1 d (by omega),aRU _ _ s1,List.range_succ (n:=n+1),BL]
  .rfl
  .intro f
   obtain⟨i,hi,e⟩:=AX.mp f
   rw[A7]at hi
   have:=aVX c s1 d (by omega) (by omega) e
   omega
theorem aHU(c:b < 17)(s1:1<=sg)(e:sg<=3):dC [.d (aC (swM 13 17 a b sg))]=.ex ⟨"TooMany",[]⟩:=by
 obtain⟨N,g,E⟩:=aHK (swM 13 17 a b sg) sg 200
 have h:(bfW (swM 13 17 a b sg) sg N).length=N+1:=by rw[aHT c s1 e N (by omega),AA,A0]
 have f:=aLS (jM (p:=13) (q:=17) (a:=a) (b:=b) (by omega) (by omega) (by omega) (by omega) s1 e) E g
 have:200 < (bfW (swM 13 17 a b sg) sg N).length:=by
  rcases E.off with z|z
  · omega
  · exact z
 rw[AD this]at f
 exact f
end
def rwR(m sg:Nat)(c:Int):Rw:=⟨if c % 3=0 then .w "by" else if c % 3=1 then .w "out" else .n 0,List.replicate sg (c % m,1),if c / 3 % 2=0 then .w "by" else .w "out"⟩
def rwM(m sg:Nat)(c:Int):List Rw:=List.replicate m (rwR m sg c)
section
variable{m sg sg2:Nat}{c:Int}
theorem iF:(rwM m sg c).length=m:=BQ
theorem oH(e:1<=m)(g:m<=100)(s1:1<=sg)(a:sg<=3):Mach (rwM m sg c) sg:=by
 refine⟨by rw[iF];exact e,by rw[iF];omega,s1,a,λr d=>?_⟩
 rw[(DA.mp d).2,iF]
 have f:=EF c (show(m:Int)≠0 by omega)
 have h1:=DU c (show 0 < (m:Int)by omega)
 refine⟨⟨?_,?_,λx b=>?_⟩,BQ⟩
 .show Tn.good _ (if c % 3=0 then .w "by" else if c % 3=1 then .w "out" else .n 0)
  split
  .exact .inl rfl
  .split
   · exact .inr rfl
   · exact⟨DY _, by omega⟩
 .show Tn.good _ (if c / 3 % 2=0 then .w "by" else .w "out")
  split
  .exact .inl rfl
  .exact .inr rfl
 .rw[(DA.mp b).2]
  exact⟨f,h1,.inl rfl⟩
theorem uT(n:1<=m)(k:m<=100)(s1:1<=sg)(b:sg<=3):dW [.d (.int (m:Int)),.d (.int (sg:Int)),.d (.int c)]=.ok (.d (aC (rwM m sg c))):=by
 have i:dDiv (.int c) (.int 3)=.ok (.int (c / 3)):=yX (by decide) (by decide)
 have g:dMod (.int c) (.int 3)=.ok (.int (c % 3)):=mD (by decide)
 have a:dMod (.int (c / 3)) (.int 2)=.ok (.int (c / 3 % 2)):=mD (by decide)
 have h:dMod (.int c) (.int (m:Int))=.ok (.int (c % (m:Int))):=mD (by omega)
 have e1:dIx (.list [.str "by",.str "out",.int 0]) (.int (c % 3))=.ok (rwR m sg c).l.d:=by
  have j:=EF c (show(3:Int)≠0 by decide)
  have h1:=DU c (show(0:Int) < 3 by decide)
  unfold rwR
  rcases(by omega:c % 3=0\/c % 3=1\/c % 3=2)with e|e|e<;>rw[e]<;>rfl
 have e2:dIx (.list [.str "by",.str "out"]) (.int (c / 3 % 2))=.ok (rwR m sg c).r.d:=by
  have j:=EF (c / 3) (show(2:Int)≠0 by decide)
  have h1:=DU (c / 3) (show(0:Int) < 2 by decide)
  unfold rwR
  rcases(by omega:c / 3 % 2=0\/c / 3 % 2=1)with e|e<;>rw[e]<;>rfl
 have r1:=zX (.tuple [.int (c % (m:Int)),.int 1]) (sg:=sg) b
 have r2:∀ x:Dz,sO [x] (.int (m:Int))=.ok (List.replicate m x):=λx=>by
  unfold sO
  simp only
  rw[AD (by constructor<;>simp<;>omega)]
  simp[List.flatten_replicate_singleton]
 have f:aC (rwM m sg c)=.tuple (List.replicate m (.tuple [(rwR m sg c).l.d,.tuple (List.replicate sg (.tuple [.int (c % (m:Int)),.int 1])),(rwR m sg c).r.d])):=by
  unfold aC rwM
  rw[DV]
  unfold rowD
  rw[show(rwR m sg c).c=List.replicate sg (c % (m:Int),1)from rfl,DV];rfl
 rw[f]
 generalize (rwR m sg c).l.d=o at *
 generalize (rwR m sg c).r.d=d2 at *
 unfold dW mK
 simp[i,g,a,h,e1,e2,r1,r2]
end
section
variable{a b:List Rw}{sg sg2:Nat}
theorem aAA(M:Mach a sg):cN [.d (aC a)]=.ok (.d (.int (sg:Int))):=by
 cases a with
 | nil=>exact absurd M.len (by simp)
 | cons r t=>rw[m6,(M.row r AV).2]
theorem aUY(M1:Mach a sg)(M2:Mach b sg2)(h:sg≠sg2):gA [.d (aC a),.d (aC b)]=.ex ⟨"NotLike",[]⟩:=by
 have s1:=aAA M1
 have e:=aAA M2
 have c:dNe (.int (sg:Int)) (.int (sg2:Int))=.ok (.bool true):=by rw[o5,A1 (by omega)];rfl
 unfold gA mI
 simp[s1,e,c,qM]
theorem aUZ(M1:Mach a sg)(M2:Mach b sg)(h:dC [.d (aC a)]=.ex ⟨"TooMany",[]⟩\/∃ d,dC [.d (aC a)]=.ok (.d d)/\dC [.d (aC b)]=.ex ⟨"TooMany",[]⟩):gA [.d (aC a),.d (aC b)]=.ex ⟨"TooMany",[]⟩:=by
 have s1:=aAA M1
 have e:=aAA M2
 have c:dNe (.int (sg:Int)) (.int (sg:Int))=.ok (.bool false):=by rw[o5,AJ rfl];rfl
 unfold gA mI
 rcases h with h|⟨d,h1,h2⟩
 · simp [s1, e, c, h]
 · simp [s1, e, c, h1, h2]
theorem j7(rs:List Rw):dLen (aC rs)=.ok (.int (rs.length:Int)):=by unfold aC;rw[kT,AA]
theorem aCN{w:Str}:(sJ w sg a b).length=a.length+b.length+1:=by
 unfold sJ
 simp;omega
theorem aJI:(uD sg a).length=a.length+1:=by
 unfold uD iH
 simp
def cV(s1 s2 n:Nat):Dz:=if s1=s2 then(if 60 < n then .str "many" else .int (n:Int))else .str "like"
theorem aVY(M1:Mach a sg)(M2:Mach b sg2)(h1:a.length<=200)(h2:b.length<=200) :
  bC [.d (.int 0),.d (aC a),.d (aC b)]=.ok (.d (cV sg sg2 (a.length+b.length+1)))/\bC [.d (.int 1),.d (aC b),.d (aC a)]=.ok (.d (cV sg sg2 (a.length+b.length+1))):=by
 unfold cV
 by_cases c:sg=sg2
 .subst c
  rw[AD rfl]
  by_cases e:60 < a.length+b.length+1
  .rw[AD e]
   have e1:gV [.d (aC a),.d (aC b)]=.ex ⟨"TooMany",[]⟩:=by
    have:=aHQ (.inr rfl) M1 M2 (by omega) (by omega)
    simp[gV,oZ,this]
   have e2:j4 [.d (aC b),.d (aC a)]=.ex ⟨"TooMany",[]⟩:=by
    have:=aHQ (.inl rfl) M2 M1 (by omega) (by omega)
    simp[j4,t6,this]
   exact⟨kZ (.inl rfl) lU (.inl ⟨rfl,e1⟩),kZ (.inl rfl) lU (.inr (.inl ⟨rfl,e2⟩))⟩
  .rw[AE e]
   have e1:=aLE M1 M2 (by omega)
   have e2:=aQU M2 M1 (by omega)
   refine⟨aC2 ?_ (.inl ⟨rfl,e1⟩),aC2 ?_ (.inr (.inl ⟨rfl,e2⟩))⟩
   .rw[j7,aCN]
   .rw[j7,aCN];congr 3;omega
 .rw[AE c]
  have e1:gV [.d (aC a),.d (aC b)]=.ex ⟨"NotLike",[]⟩:=by
   have:=aHP (w:="out") M1 M2 c
   simp[gV,oZ,this]
  have e2:j4 [.d (aC b),.d (aC a)]=.ex ⟨"NotLike",[]⟩:=by
   have:=aHP (w:="by") M2 M1 (BS c)
   simp[j4,t6,this]
  exact⟨kZ (.inr rfl) wA (.inl ⟨rfl,e1⟩),kZ (.inr rfl) wA (.inr (.inl ⟨rfl,e2⟩))⟩
theorem aWZ(M1:Mach a sg)(h1:a.length<=200){x:Dz}:bC [.d (.int 2),.d (aC a),.d x]=.ok (.d (cV sg sg (a.length+1))):=by
 unfold cV
 rw[AD rfl]
 by_cases b:60 < a.length+1
 .rw[AD b]
  exact kZ (.inl rfl) lU (.inr (.inr (.inl ⟨rfl,aN6 M1 (by omega) (by omega)⟩)))
 .rw[AE b]
  exact aC2 (by rw[j7,aJI]) (.inr (.inr (.inl ⟨rfl,aQT M1 (by omega)⟩)))
end
theorem aW0{p q a b sg:Nat}(C:Crt p q)(p2:p<=100)(g:q<=100)(h:p * q<=199)(e:a < p)(i:b < q)(s1:1<=sg)(f:sg<=3){x:Dz}:bC [.d (.int 3),.d (aC (swM p q a b sg)),.d x]=.ok (.d (cV 1 1 (p * q))):=by
 obtain⟨h1,h2⟩:=aUX (a:=a) (b:=b) (sg:=sg) C p2 g h e i s1 f
 unfold cV
 rw[AD rfl]
 by_cases c:60 < p * q
 .rw[AD c]
  exact kZ (.inl rfl) lU (.inr (.inr (.inr (.inl ⟨rfl,h2 c⟩))))
 .rw[AE c]
  obtain⟨d,e1,e2⟩:=h1 (by omega)
  exact aC2 e2 (.inr (.inr (.inr ⟨rfl,e1⟩)))
theorem aVZ{a b sg:Nat}(e:b < 17)(s1:1<=sg)(c:sg<=3){x:Dz}:bC [.d (.int 3),.d (aC (swM 13 17 a b sg)),.d x]=.ok (.d (.str "many")):=
 kZ (.inl rfl) lU (.inr (.inr (.inr (.inl ⟨rfl,aRQ (aHU e s1 c)⟩))))
theorem aOA:fD=iZ:=id rfl
noncomputable def lwS(ns:List Int)(u1 u2 u3 u4 u5 u6 u7 u8 u9 u10 u11 u12 u13 u14 u15:O9 A):Sg:=[some (.d (aEO ns)),u1,u2,u3,u4,u5,u6,u7,u8,u9,u10,u11,u12,u13,u14,u15]
theorem aFS(s1 a n:Nat):SeqAt.shaped (cV s1 a n)=true:=by
 unfold cV
 split
 .split
  · exact Sh.shaped (n := 0) (yH 0 (by decide +kernel)) (by decide)
  · exact iB _
 .exact Sh.shaped (n:=0) (yH 0 (by decide +kernel)) (by decide)
theorem aU0{m sg:Nat}{c:Int}(f:1<=m)(g:m<=40)(s1:1<=sg)(a:sg<=3):∃ d,dC [.d (aC (rwM m sg c))]=.ok (.d d):=by
 have M:=oH (c:=c) f (by omega) s1 a
 obtain⟨N,W,E⟩:=aI7 M (aI0 M (by rw[iF];omega) λr e k b=>by
  rw[(DA.mp e).2,uQ (sg:=sg) rfl b])
 exact⟨_,aUM W E⟩
theorem aOB:∀ ns:List Int,ns.length<=63->aJA [.d (.list (ns.map .int))]=.ok (.d (.bool true)):=by
 intro ns gi
 have O:∀ (x k:Int),0 < k->dMod (.int x) (.int k)=.ok (.int (x % k)):=λx k h=>mD (by omega)
 have dv:∀ (x k:Int),0 < k->k < 10000->dDiv (.int x) (.int k)=.ok (.int (x / k)):=λx k h h'=>yX (by omega) (by omega)
 have I:∀ (x:Int) (k:Nat),0 < k->∃ j:Nat,j < k/\x % (k:Int)=j:=λx k h=>by
  have h0:=EF x (show(k:Int)≠0 by omega)
  have h1:=DU x (show 0 < (k:Int)by omega)
  exact⟨(x % (k:Int)).toNat,by omega,(Int.toNat_of_nonneg h0).symm⟩
 have x1:∀ i j:Int,d2 wY (.int i) (.int j)=.ok (.int (wY i j)):=λ_ _=>rfl
 have x2:∀ i j:Int,d2 jW (.int i) (.int j)=.ok (.int (jW i j)):=λ_ _=>rfl
 obtain⟨v0,c0⟩:=kU ns 0
 obtain⟨v1,c1⟩:=kU ns 1
 obtain⟨v2,c2⟩:=kU ns 2
 obtain⟨v3,c3⟩:=kU ns 3
 obtain⟨y,c4⟩:=kU ns 4
 obtain⟨z,c5⟩:=kU ns 5
 obtain⟨v6,c6⟩:=kU ns 6
 obtain⟨D,c7⟩:=kU ns 7
 obtain⟨v8,c8⟩:=kU ns 8
 obtain⟨u,c9⟩:=kU ns 9
 obtain⟨t,ht,et⟩:=I v0 6 (by decide)
 obtain⟨T,hT⟩:∃ T:Nat,T=57+t:=⟨_,rfl⟩
 have eT:57+v0 % 6=(T:Int):=by have:v0 % 6=(t:Int):=et;omega
 obtain⟨j1,gg,bd⟩:=I v1 3 (by decide)
 obtain⟨j2,ge,ei⟩:=I v2 3 (by decide)
 obtain⟨s1,fq⟩:∃ s:Nat,s=1+j1:=⟨_,rfl⟩
 obtain⟨o,fk⟩:∃ s:Nat,s=1+j2:=⟨_,rfl⟩
 have bc:1+v1 % 3=(s1:Int):=by have:v1 % 3=(j1:Int):=bd;omega
 have bx:1+v2 % 3=(o:Int):=by have:v2 % 3=(j2:Int):=ei;omega
 obtain⟨ag,ay,ey⟩:∃ k:Nat,jW 59 ((T:Int) - 1)=(k:Int)/\1<=k/\k<=59/\k+1<=T:=by
  refine⟨(jW 59 ((T:Int) - 1)).toNat,?_,?_,?_,?_⟩<;>(unfold jW;split<;>omega)
 obtain⟨j3,gk,bi⟩:=I v3 ag (by omega)
 have av:dMod (.int v3) (.int (ag:Int))=.ok (.int (j3:Int)):=by rw[O _ _ (by omega),bi]
 obtain⟨e,fv⟩:∃ n:Nat,n=1+j3:=⟨_,rfl⟩
 have dm:1+(j3:Int)=(e:Int):=by omega
 obtain⟨r,cf,fg⟩:∃ n:Nat,wY 1 (jW 60 ((T:Int) - (e:Int)))=(n:Int)/\1<=n/\n<=60:=by
  refine⟨(wY 1 (jW 60 ((T:Int) - (e:Int)))).toNat,?_,?_,?_⟩<;>(unfold wY jW;split<;>split<;>omega)
 have P:dIx (.list [.int (s1:Int),.int (o:Int)]) (.int 0)=.ok (.int (s1:Int)):=rfl
 have g1:dIx (.list [.int (s1:Int),.int (o:Int)]) (.int 1)=.ok (.int (o:Int)):=rfl
 have dl:=uT (m:=e) (sg:=s1) (c:=y) (by omega) (by omega) (by omega) (by omega)
 have dh:=uT (m:=r) (sg:=o) (c:=z) (by omega) (by omega) (by omega) (by omega)
 have Mo:=oH (m:=e) (sg:=s1) (c:=y) (by omega) (by omega) (by omega) (by omega)
 have Mt:=oH (m:=r) (sg:=o) (c:=z) (by omega) (by omega) (by omega) (by omega)
 have bf:dLen (aC (rwM e s1 y))=.ok (.int (e:Int)):=by rw[j7,iF]
 have dc:dLen (aC (rwM r o z))=.ok (.int (r:Int)):=by rw[j7,iF]
 have X:=aVY Mo Mt (by rw[iF];omega) (by rw[iF];omega)
 rw[iF,iF]at X
 have ee:=uE (aFS s1 o (e+r+1))
 obtain⟨j8,gf,cy⟩:=I v6 4 (by decide)
 obtain⟨v,gj⟩:∃ n:Nat,n=57+j8:=⟨_,rfl⟩
 have dq:57+v6 % 4=(v:Int):=by have:v6 % 4=(j8:Int):=cy;omega
 have df:=uT (m:=v) (sg:=s1) (c:=D) (by omega) (by omega) (by omega) (by omega)
 have M8:=oH (m:=v) (sg:=s1) (c:=D) (by omega) (by omega) (by omega) (by omega)
 have ac:dLen (aC (rwM v s1 D))=.ok (.int (v:Int)):=by rw[j7,iF]
 have k2:=aWZ M8 (by rw[iF];omega) (x:=aC (rwM v s1 D))
 rw[iF]at k2
 have br:=uE (aFS s1 s1 (v+1))
 obtain⟨C1,C2,C3,C4,C5,C6⟩:=aRT
 obtain⟨p,q,hp,hq,bp,bu⟩:∃ p q:Nat,(1<=p/\p<=100)/\(1<=q/\q<=100)/\dIx (.list [.tuple [.int 7,.int 8],.tuple [.int 5,.int 12],.tuple [.int 2,.int 31],.tuple [.int 7,.int 9],.tuple [.int 5,.int 13],.tuple [.int 6,.int 11],.tuple [.int 13,.int 17]]) (.int (v8 % 7))=.ok (.tuple [.int (p:Int),.int (q:Int)])/\((Crt p q/\p * q<=199)\/(p=13/\q=17)):=by
  obtain⟨j,hj,ej⟩:=I v8 7 (by decide)
  have ej:v8 % 7=(j:Int):=ej
  rw[ej]
  rcases(by omega:j=0\/j=1\/j=2\/j=3\/j=4\/j=5\/j=6)with rfl|rfl|rfl|rfl|rfl|rfl|rfl
  .exact ⟨7,8,by decide,by decide,rfl,.inl ⟨C1,by decide⟩⟩
  .exact ⟨5,12,by decide,by decide,rfl,.inl ⟨C2,by decide⟩⟩
  .exact ⟨2,31,by decide,by decide,rfl,.inl ⟨C3,by decide⟩⟩
  .exact ⟨7,9,by decide,by decide,rfl,.inl ⟨C4,by decide⟩⟩
  .exact ⟨5,13,by decide,by decide,rfl,.inl ⟨C5,by decide⟩⟩
  .exact ⟨6,11,by decide,by decide,rfl,.inl ⟨C6,by decide⟩⟩
  .exact ⟨13,17,by decide,by decide,rfl,.inr ⟨rfl,rfl⟩⟩
 have Q:dMul (.int (p:Int)) (.int (q:Int))=.ok (.int ((p * q:Nat):Int)):=by rw[aEI (by omega) (by omega)];rfl
 obtain⟨ap,bn,dr⟩:=I u p (by omega)
 obtain⟨bq,ae,ba⟩:=I (u / 64) q (by omega)
 have mp:dMod (.int u) (.int (p:Int))=.ok (.int (ap:Int)):=by rw[O _ _ (by omega),dr]
 have mq:dMod (.int (u / 64)) (.int (q:Int))=.ok (.int (bq:Int)):=by rw[O _ _ (by omega),ba]
 obtain⟨jx,gc,ak⟩:=I (u / 4096) 2 (by decide)
 have ak:u / 4096 % 2=(jx:Int):=ak
 obtain⟨sx,fm⟩:∃ s:Nat,s=1+jx:=⟨_,rfl⟩
 have de:1+u / 4096 % 2=(sx:Int):=by omega
 have cj:=aBM (p:=p) (q:=q) (a:=ap) (b:=bq) (sg:=sx) hp.1 hp.2 hq.1 hq.2 (by omega)
 have k3:bC [.d (.int 3),.d (aC (swM p q ap bq sx)),.d (aC (rwM r o z))]=.ok (.d (cV 1 1 (p * q))):=by
  rcases bu with ⟨C,h⟩|⟨rfl,rfl⟩
  .exact aW0 C hp.2 hq.2 h bn ae (by omega) (by omega)
  .exact aVZ ae (by omega) (by omega)
 have cx:=uE (aFS 1 1 (p * q))
 obtain⟨a4,fj,az⟩:=I u 4 (by decide)
 obtain⟨H,fu⟩:∃ s:Nat,s=1+a4:=⟨_,rfl⟩
 have ax:1+u % 4=(H:Int):=by have:u % 4=(a4:Int):=az;omega
 obtain⟨A,au,M⟩:=I (u / 64) 12 (by decide)
 have M:u / 64 % 12=(A:Int):=M
 have cu:gE [.d (.int 1),.d (.int 1)]=.ok (.d (aC (lsM 1 1))):=aUU (m:=1) (sg:=1) (by decide) (by decide)
 have bo:iZ [.d (.int 5),.d (.int 12),.d (.int (H:Int)),.d (.int (A:Int)),.d (.int 1)]=.ok (.d (aC (swM 5 12 H A 1))):=aBM (p:=5) (q:=12) (sg:=1) (by decide) (by decide) (by decide) (by decide) (by decide)
 have cq:=aWY (aBN (m:=1) (sg:=1) (by omega) (by omega) (by omega) (by omega)) (jM (p:=5) (q:=12) (a:=H) (b:=A) (sg:=1) (by omega) (by omega) (by omega) (by omega) (by omega) (by omega)) (by rw[mO,jG];omega) (by rw[show(0:Int)=((0:Nat):Int)from rfl,zY (by omega)];rfl)
 have du:bC [.d (.int 3),.d (aC (jnM 1 (lsM 1 1) (swM 5 12 H A 1))),.d (aC (rwM r o z))]=.ok (.d (.str "many")):=kZ (.inl rfl) lU (.inr (.inr (.inr (.inl ⟨rfl,aL6 C2 (by omega) (by omega) au⟩))))
 have Z:∀ x:Str,PyData.strOk x=true->SeqAt.shaped (.str x)=true:=λx h=>Sh.shaped (n:=0) (yH 0 h) (by decide)
 have aq:dNe (.str "many") (.str "many")=.ok (.bool false):=uE (Z _ (by decide +kernel))
 have am:dNe (.str "like") (.str "like")=.ok (.bool false):=uE (Z _ (by decide +kernel))
 have al:dEq (.str "many") (.str "many")=.ok (.bool true):=aUC (Z _ (by decide +kernel))
 obtain⟨E,eu,N⟩:=I u 13 (by decide)
 obtain⟨F,ao,K⟩:=I u 17 (by decide)
 have N:u % 13=(E:Int):=N
 have K:u % 17=(F:Int):=K
 have aj:iZ [.d (.int 13),.d (.int 17),.d (.int (E:Int)),.d (.int (F:Int)),.d (.int (s1:Int))]=.ok (.d (aC (swM 13 17 E F s1))):=aBM (p:=13) (q:=17) (by decide) (by decide) (by decide) (by decide) (by omega)
 have Mg:=jM (p:=13) (q:=17) (a:=E) (b:=F) (sg:=s1) (by omega) (by omega) (by omega) (by omega) (by omega) (by omega)
 obtain⟨ad,ek,S⟩:=I (u / 8192) 4 (by decide)
 have S:u / 8192 % 4=(ad:Int):=S
 obtain⟨B,ez⟩:∃ s:Nat,s=1+ad:=⟨_,rfl⟩
 have af:1+u / 8192 % 4=(B:Int):=by omega
 obtain⟨G,fc⟩:∃ s:Nat,s=1+(s1+jx) % 3:=⟨_,rfl⟩
 have bg:1+((s1:Int)+u / 4096 % 2) % 3=(G:Int):=by omega
 have aa:=uT (m:=B) (sg:=G) (c:=u) (by omega) (by omega) (by omega) (by omega)
 have ai:=uT (m:=B) (sg:=s1) (c:=u) (by omega) (by omega) (by omega) (by omega)
 have Ms:=oH (m:=B) (sg:=G) (c:=u) (by omega) (by omega) (by omega) (by omega)
 have Ma:=oH (m:=B) (sg:=s1) (c:=u) (by omega) (by omega) (by omega) (by omega)
 have ah:dLen (aC (rwM B G u))=.ok (.int (B:Int)):=by rw[j7,iF]
 have big:=aHU (a:=E) (b:=F) (sg:=s1) ao (by omega) (by omega)
 obtain⟨dw,ew⟩:=aU0 (m:=B) (sg:=s1) (c:=u) (by omega) (by omega) (by omega) (by omega)
 have bw:=kZ (.inr rfl) wA (.inr (.inr (.inr (.inr ⟨rfl,aUY Mg Ms (by omega)⟩))))
 have aw:=kZ (.inr rfl) wA (.inr (.inr (.inr (.inr ⟨rfl,aUY Ms Mg (by omega)⟩))))
 have dn:=kZ (.inl rfl) lU (.inr (.inr (.inr (.inr ⟨rfl,aUZ Mg Ma (.inl big)⟩))))
 have cb:=kZ (.inl rfl) lU (.inr (.inr (.inr (.inr ⟨rfl,aUZ Ma Mg (.inr ⟨dw,ew,big⟩)⟩))))
 have r1:w1 (lwS ns none none none none none none none none none none none none none none none)=.ok (.nx (lwS ns (some (.d (.int (T:Int)))) none none none none none none none none none none none none none none)):=by
  unfold w1 lwS
  simp[c0,O,eT]
 have r2:w2 (lwS ns (some (.d (.int (T:Int)))) none none none none none none none none none none none none none none)=.ok (.nx (lwS ns (some (.d (.int (T:Int)))) (some (.l [.int (s1:Int),.int (o:Int)])) none none none none none none none none none none none none none)):=by
  unfold w2 lwS
  simp[c1,c2,O,bc,bx]
 have r3:w3 (lwS ns (some (.d (.int (T:Int)))) (some (.l [.int (s1:Int),.int (o:Int)])) none none none none none none none none none none none none none)=.ok (.nx (lwS ns (some (.d (.int (T:Int)))) (some (.l [.int (s1:Int),.int (o:Int)])) (some (.d (.int (e:Int)))) none none none none none none none none none none none none)):=by
  unfold w3 lwS
  simp[c3,x2,ay,av,dm]
 have r4:w4 (lwS ns (some (.d (.int (T:Int)))) (some (.l [.int (s1:Int),.int (o:Int)])) (some (.d (.int (e:Int)))) none none none none none none none none none none none none)=.ok (.nx (lwS ns (some (.d (.int (T:Int)))) (some (.l [.int (s1:Int),.int (o:Int)])) (some (.d (.int (e:Int)))) (some (.d (aC (rwM e s1 y)))) none none none none none none none none none none none)):=by
  unfold w4 lwS
  simp[c4,P,dl]
 have r5:w5 (lwS ns (some (.d (.int (T:Int)))) (some (.l [.int (s1:Int),.int (o:Int)])) (some (.d (.int (e:Int)))) (some (.d (aC (rwM e s1 y)))) none none none none none none none none none none none)=.ok (.nx (lwS ns (some (.d (.int (T:Int)))) (some (.l [.int (s1:Int),.int (o:Int)])) (some (.d (.int (e:Int)))) (some (.d (aC (rwM e s1 y)))) (some (.d (aC (rwM r o z)))) none none none none none none none none none none)):=by
  unfold w5 lwS
  simp[c5,g1,x1,x2,cf,dh]
 have r6:w6 (lwS ns (some (.d (.int (T:Int)))) (some (.l [.int (s1:Int),.int (o:Int)])) (some (.d (.int (e:Int)))) (some (.d (aC (rwM e s1 y)))) (some (.d (aC (rwM r o z)))) none none none none none none none none none none)=.ok (.nx (lwS ns (some (.d (.int (T:Int)))) (some (.l [.int (s1:Int),.int (o:Int)])) (some (.d (.int (e:Int)))) (some (.d (aC (rwM e s1 y)))) (some (.d (aC (rwM r o z)))) (some (.d (.int ((e+r+1:Nat):Int)))) none none none none none none none none none)):=by
  unfold w6 lwS
  simp[bf,dc]
 have cz:∀ g:Sg->R Fw,aV w7 (aV w8 (aV w9 g)) (lwS ns (some (.d (.int (T:Int)))) (some (.l [.int (s1:Int),.int (o:Int)])) (some (.d (.int (e:Int)))) (some (.d (aC (rwM e s1 y)))) (some (.d (aC (rwM r o z)))) (some (.d (.int ((e+r+1:Nat):Int)))) none none none none none none none none none)=g (lwS ns (some (.d (.int (T:Int)))) (some (.l [.int (s1:Int),.int (o:Int)])) (some (.d (.int (e:Int)))) (some (.d (aC (rwM e s1 y)))) (some (.d (aC (rwM r o z)))) (some (.d (.int ((e+r+1:Nat):Int)))) (some (.d (cV s1 o (e+r+1)))) none none none none none none none none):=λg=>by
  unfold w7 w8 w9 lwS cV
  by_cases hs:s1=o
  .have L:dNe (.int (s1:Int)) (.int (o:Int))=.ok (.bool false):=by rw[o5,AJ (by omega)];rfl
   by_cases J:60 < e+r+1
   .have:(60:Int) < ((e+r+1:Nat):Int):=by omega
    simp only[bW,fC,kY,kQ,fE,fR,eM,f7,AN,AK,R.bind_ok,A2,A3,nF,AJ this,kR,BU,f8,P,g1,L,CA,D6,o0,AD hs,AD J]
   .have:¬ (60:Int) < ((e+r+1:Nat):Int):=by omega
    simp only[bW,fC,kY,kQ,fE,fR,eM,f7,AN,AK,R.bind_ok,A2,A3,nF,A1 this,kR,BU,f8,P,g1,L,CA,D6,o0,AD hs,AE J]
  .have L:dNe (.int (s1:Int)) (.int (o:Int))=.ok (.bool true):=by rw[o5,A1 (by omega)];rfl
   by_cases J:(60:Int) < ((e+r+1:Nat):Int)
   .simp only[bW,fC,kY,kQ,fE,fR,eM,f7,AN,AK,R.bind_ok,A2,A3,nF,AJ J,kR,BU,f8,P,g1,L,AE hs]
   .simp only[bW,fC,kY,kQ,fE,fR,eM,f7,AN,AK,R.bind_ok,A2,A3,nF,A1 J,kR,CA,D6,o0,BU,f8,P,g1,L,AE hs]
 have cp:w10 (lwS ns (some (.d (.int (T:Int)))) (some (.l [.int (s1:Int),.int (o:Int)])) (some (.d (.int (e:Int)))) (some (.d (aC (rwM e s1 y)))) (some (.d (aC (rwM r o z)))) (some (.d (.int ((e+r+1:Nat):Int)))) (some (.d (cV s1 o (e+r+1)))) none none none none none none none none)=.ok (.nx (lwS ns (some (.d (.int (T:Int)))) (some (.l [.int (s1:Int),.int (o:Int)])) (some (.d (.int (e:Int)))) (some (.d (aC (rwM e s1 y)))) (some (.d (aC (rwM r o z)))) (some (.d (.int ((e+r+1:Nat):Int)))) (some (.d (cV s1 o (e+r+1)))) none none none none none none none none)):=by
  unfold w10 lwS
  generalize cV s1 o (e+r+1)=dd at *
  simp[X.1,X.2,ee]
 have be:w11 (lwS ns (some (.d (.int (T:Int)))) (some (.l [.int (s1:Int),.int (o:Int)])) (some (.d (.int (e:Int)))) (some (.d (aC (rwM e s1 y)))) (some (.d (aC (rwM r o z)))) (some (.d (.int ((e+r+1:Nat):Int)))) (some (.d (cV s1 o (e+r+1)))) none none none none none none none none)=.ok (.nx (lwS ns (some (.d (.int (T:Int)))) (some (.l [.int (s1:Int),.int (o:Int)])) (some (.d (.int (e:Int)))) (some (.d (aC (rwM e s1 y)))) (some (.d (aC (rwM r o z)))) (some (.d (.int ((e+r+1:Nat):Int)))) (some (.d (cV s1 o (e+r+1)))) (some (.d (aC (rwM v s1 D)))) none none none none none none none)):=by
  unfold w11 lwS
  simp[c6,c7,O,dq,P,df]
 have V:∀ g:Sg->R Fw,aV w12 (aV w13 g) (lwS ns (some (.d (.int (T:Int)))) (some (.l [.int (s1:Int),.int (o:Int)])) (some (.d (.int (e:Int)))) (some (.d (aC (rwM e s1 y)))) (some (.d (aC (rwM r o z)))) (some (.d (.int ((e+r+1:Nat):Int)))) (some (.d (cV s1 o (e+r+1)))) (some (.d (aC (rwM v s1 D)))) none none none none none none none)=g (lwS ns (some (.d (.int (T:Int)))) (some (.l [.int (s1:Int),.int (o:Int)])) (some (.d (.int (e:Int)))) (some (.d (aC (rwM e s1 y)))) (some (.d (aC (rwM r o z)))) (some (.d (.int ((e+r+1:Nat):Int)))) (some (.d (cV s1 s1 (v+1)))) (some (.d (aC (rwM v s1 D)))) none none none none none none none):=λg=>by
  unfold w12 w13 lwS cV
  have eN:(v:Int)+1=((v+1:Nat):Int):=rfl
  by_cases J:60 < v+1
  .have:(60:Int) < ((v+1:Nat):Int):=by omega
   simp only[bW,fC,kQ,fE,fR,eM,f7,AN,AK,R.bind_ok,A2,A3,ac,mC,eN,nF,AJ this,kR,BU,f8,AD J]
  .have:¬ (60:Int) < ((v+1:Nat):Int):=by omega
   simp only[bW,fC,kQ,fE,fR,eM,f7,AN,AK,R.bind_ok,A2,A3,ac,mC,eN,nF,A1 this,kR,CA,D6,o0,f8,BU,AE J]
 have bv:w14 (lwS ns (some (.d (.int (T:Int)))) (some (.l [.int (s1:Int),.int (o:Int)])) (some (.d (.int (e:Int)))) (some (.d (aC (rwM e s1 y)))) (some (.d (aC (rwM r o z)))) (some (.d (.int ((e+r+1:Nat):Int)))) (some (.d (cV s1 s1 (v+1)))) (some (.d (aC (rwM v s1 D)))) none none none none none none none)=.ok (.nx (lwS ns (some (.d (.int (T:Int)))) (some (.l [.int (s1:Int),.int (o:Int)])) (some (.d (.int (e:Int)))) (some (.d (aC (rwM e s1 y)))) (some (.d (aC (rwM r o z)))) (some (.d (.int ((e+r+1:Nat):Int)))) (some (.d (cV s1 s1 (v+1)))) (some (.d (aC (rwM v s1 D)))) none none none none none none none)):=by
  unfold w14 lwS
  generalize cV s1 s1 (v+1)=dd at *
  simp[k2,br]
 have di:w15 (lwS ns (some (.d (.int (T:Int)))) (some (.l [.int (s1:Int),.int (o:Int)])) (some (.d (.int (e:Int)))) (some (.d (aC (rwM e s1 y)))) (some (.d (aC (rwM r o z)))) (some (.d (.int ((e+r+1:Nat):Int)))) (some (.d (cV s1 s1 (v+1)))) (some (.d (aC (rwM v s1 D)))) none none none none none none none)=.ok (.nx (lwS ns (some (.d (.int (T:Int)))) (some (.l [.int (s1:Int),.int (o:Int)])) (some (.d (.int (e:Int)))) (some (.d (aC (rwM e s1 y)))) (some (.d (aC (rwM r o z)))) (some (.d (.int ((e+r+1:Nat):Int)))) (some (.d (cV s1 s1 (v+1)))) (some (.d (aC (rwM v s1 D)))) (some (.d (.int (p:Int)))) (some (.d (.int (q:Int)))) none none none none none)):=by
  unfold w15 lwS
  simp[c8,O,bp]
 have Y:∀ g:Sg->R Fw,aV w16 (aV w17 g) (lwS ns (some (.d (.int (T:Int)))) (some (.l [.int (s1:Int),.int (o:Int)])) (some (.d (.int (e:Int)))) (some (.d (aC (rwM e s1 y)))) (some (.d (aC (rwM r o z)))) (some (.d (.int ((e+r+1:Nat):Int)))) (some (.d (cV s1 s1 (v+1)))) (some (.d (aC (rwM v s1 D)))) (some (.d (.int (p:Int)))) (some (.d (.int (q:Int)))) none none none none none)=g (lwS ns (some (.d (.int (T:Int)))) (some (.l [.int (s1:Int),.int (o:Int)])) (some (.d (.int (e:Int)))) (some (.d (aC (rwM e s1 y)))) (some (.d (aC (rwM r o z)))) (some (.d (.int ((e+r+1:Nat):Int)))) (some (.d (cV 1 1 (p * q)))) (some (.d (aC (rwM v s1 D)))) (some (.d (.int (p:Int)))) (some (.d (.int (q:Int)))) none none none none none):=λg=>by
  unfold w16 w17 lwS cV
  by_cases J:60 < p * q
  .have:(60:Int) < ((p * q:Nat):Int):=by omega
   simp only[bW,fC,kQ,fE,fR,eM,f7,AN,AK,R.bind_ok,A2,A3,Q,nF,AJ this,kR,BU,f8,AD J]
  .have:¬ (60:Int) < ((p * q:Nat):Int):=by omega
   simp only[bW,fC,kQ,fE,fR,eM,f7,AN,AK,R.bind_ok,A2,A3,Q,nF,A1 this,kR,CA,D6,o0,f8,BU,AE J]
 have ci:w18 (lwS ns (some (.d (.int (T:Int)))) (some (.l [.int (s1:Int),.int (o:Int)])) (some (.d (.int (e:Int)))) (some (.d (aC (rwM e s1 y)))) (some (.d (aC (rwM r o z)))) (some (.d (.int ((e+r+1:Nat):Int)))) (some (.d (cV 1 1 (p * q)))) (some (.d (aC (rwM v s1 D)))) (some (.d (.int (p:Int)))) (some (.d (.int (q:Int)))) none none none none none)=.ok (.nx (lwS ns (some (.d (.int (T:Int)))) (some (.l [.int (s1:Int),.int (o:Int)])) (some (.d (.int (e:Int)))) (some (.d (aC (rwM e s1 y)))) (some (.d (aC (rwM r o z)))) (some (.d (.int ((e+r+1:Nat):Int)))) (some (.d (cV 1 1 (p * q)))) (some (.d (aC (rwM v s1 D)))) (some (.d (.int (p:Int)))) (some (.d (.int (q:Int)))) (some (.d (.int u))) none none none none)):=by
  unfold w18 lwS
  simp[c9]
 have dg:w19 (lwS ns (some (.d (.int (T:Int)))) (some (.l [.int (s1:Int),.int (o:Int)])) (some (.d (.int (e:Int)))) (some (.d (aC (rwM e s1 y)))) (some (.d (aC (rwM r o z)))) (some (.d (.int ((e+r+1:Nat):Int)))) (some (.d (cV 1 1 (p * q)))) (some (.d (aC (rwM v s1 D)))) (some (.d (.int (p:Int)))) (some (.d (.int (q:Int)))) (some (.d (.int u))) none none none none)=.ok (.nx (lwS ns (some (.d (.int (T:Int)))) (some (.l [.int (s1:Int),.int (o:Int)])) (some (.d (.int (e:Int)))) (some (.d (aC (rwM e s1 y)))) (some (.d (aC (rwM r o z)))) (some (.d (.int ((e+r+1:Nat):Int)))) (some (.d (cV 1 1 (p * q)))) (some (.d (aC (rwM v s1 D)))) (some (.d (.int (p:Int)))) (some (.d (.int (q:Int)))) (some (.d (.int u))) none none none none)):=by
  unfold w19 lwS
  generalize cV 1 1 (p * q)=dd at *
  simp[dv,O,mp,mq,de,aOA,cj,k3,cx]
 have bj:w20 (lwS ns (some (.d (.int (T:Int)))) (some (.l [.int (s1:Int),.int (o:Int)])) (some (.d (.int (e:Int)))) (some (.d (aC (rwM e s1 y)))) (some (.d (aC (rwM r o z)))) (some (.d (.int ((e+r+1:Nat):Int)))) (some (.d (cV 1 1 (p * q)))) (some (.d (aC (rwM v s1 D)))) (some (.d (.int (p:Int)))) (some (.d (.int (q:Int)))) (some (.d (.int u))) none none none none)=.ok (.nx (lwS ns (some (.d (.int (T:Int)))) (some (.l [.int (s1:Int),.int (o:Int)])) (some (.d (.int (e:Int)))) (some (.d (aC (rwM e s1 y)))) (some (.d (aC (rwM r o z)))) (some (.d (.int ((e+r+1:Nat):Int)))) (some (.d (cV 1 1 (p * q)))) (some (.d (aC (rwM v s1 D)))) (some (.d (.int (p:Int)))) (some (.d (.int (q:Int)))) (some (.d (.int u))) (some (.d (aC (jnM 1 (lsM 1 1) (swM 5 12 H A 1))))) none none none)):=by
  unfold w20 lwS
  simp[dv,O,ax,M,aOA,cu,bo,cq]
 have eh:w21 (lwS ns (some (.d (.int (T:Int)))) (some (.l [.int (s1:Int),.int (o:Int)])) (some (.d (.int (e:Int)))) (some (.d (aC (rwM e s1 y)))) (some (.d (aC (rwM r o z)))) (some (.d (.int ((e+r+1:Nat):Int)))) (some (.d (cV 1 1 (p * q)))) (some (.d (aC (rwM v s1 D)))) (some (.d (.int (p:Int)))) (some (.d (.int (q:Int)))) (some (.d (.int u))) (some (.d (aC (jnM 1 (lsM 1 1) (swM 5 12 H A 1))))) none none none)=.ok (.nx (lwS ns (some (.d (.int (T:Int)))) (some (.l [.int (s1:Int),.int (o:Int)])) (some (.d (.int (e:Int)))) (some (.d (aC (rwM e s1 y)))) (some (.d (aC (rwM r o z)))) (some (.d (.int ((e+r+1:Nat):Int)))) (some (.d (cV 1 1 (p * q)))) (some (.d (aC (rwM v s1 D)))) (some (.d (.int (p:Int)))) (some (.d (.int (q:Int)))) (some (.d (.int u))) (some (.d (aC (jnM 1 (lsM 1 1) (swM 5 12 H A 1))))) none none none)):=by
  unfold w21 lwS
  simp[du,aq]
 have dj:w22 (lwS ns (some (.d (.int (T:Int)))) (some (.l [.int (s1:Int),.int (o:Int)])) (some (.d (.int (e:Int)))) (some (.d (aC (rwM e s1 y)))) (some (.d (aC (rwM r o z)))) (some (.d (.int ((e+r+1:Nat):Int)))) (some (.d (cV 1 1 (p * q)))) (some (.d (aC (rwM v s1 D)))) (some (.d (.int (p:Int)))) (some (.d (.int (q:Int)))) (some (.d (.int u))) (some (.d (aC (jnM 1 (lsM 1 1) (swM 5 12 H A 1))))) none none none)=.ok (.nx (lwS ns (some (.d (.int (T:Int)))) (some (.l [.int (s1:Int),.int (o:Int)])) (some (.d (.int (e:Int)))) (some (.d (aC (rwM e s1 y)))) (some (.d (aC (rwM r o z)))) (some (.d (.int ((e+r+1:Nat):Int)))) (some (.d (cV 1 1 (p * q)))) (some (.d (aC (rwM v s1 D)))) (some (.d (.int (p:Int)))) (some (.d (.int (q:Int)))) (some (.d (.int u))) (some (.d (aC (jnM 1 (lsM 1 1) (swM 5 12 H A 1))))) (some (.d (aC (swM 13 17 E F s1)))) none none)):=by
  unfold w22 lwS
  simp[O,N,K,P,aOA,aj]
 have cr:w23 (lwS ns (some (.d (.int (T:Int)))) (some (.l [.int (s1:Int),.int (o:Int)])) (some (.d (.int (e:Int)))) (some (.d (aC (rwM e s1 y)))) (some (.d (aC (rwM r o z)))) (some (.d (.int ((e+r+1:Nat):Int)))) (some (.d (cV 1 1 (p * q)))) (some (.d (aC (rwM v s1 D)))) (some (.d (.int (p:Int)))) (some (.d (.int (q:Int)))) (some (.d (.int u))) (some (.d (aC (jnM 1 (lsM 1 1) (swM 5 12 H A 1))))) (some (.d (aC (swM 13 17 E F s1)))) none none)=.ok (.nx (lwS ns (some (.d (.int (T:Int)))) (some (.l [.int (s1:Int),.int (o:Int)])) (some (.d (.int (e:Int)))) (some (.d (aC (rwM e s1 y)))) (some (.d (aC (rwM r o z)))) (some (.d (.int ((e+r+1:Nat):Int)))) (some (.d (cV 1 1 (p * q)))) (some (.d (aC (rwM v s1 D)))) (some (.d (.int (p:Int)))) (some (.d (.int (q:Int)))) (some (.d (.int u))) (some (.d (aC (jnM 1 (lsM 1 1) (swM 5 12 H A 1))))) (some (.d (aC (swM 13 17 E F s1)))) (some (.d (aC (rwM B G u)))) none)):=by
  unfold w23 lwS
  simp[dv,O,af,P,bg,aa]
 have cw:w24 (lwS ns (some (.d (.int (T:Int)))) (some (.l [.int (s1:Int),.int (o:Int)])) (some (.d (.int (e:Int)))) (some (.d (aC (rwM e s1 y)))) (some (.d (aC (rwM r o z)))) (some (.d (.int ((e+r+1:Nat):Int)))) (some (.d (cV 1 1 (p * q)))) (some (.d (aC (rwM v s1 D)))) (some (.d (.int (p:Int)))) (some (.d (.int (q:Int)))) (some (.d (.int u))) (some (.d (aC (jnM 1 (lsM 1 1) (swM 5 12 H A 1))))) (some (.d (aC (swM 13 17 E F s1)))) (some (.d (aC (rwM B G u)))) none)=.ok (.nx (lwS ns (some (.d (.int (T:Int)))) (some (.l [.int (s1:Int),.int (o:Int)])) (some (.d (.int (e:Int)))) (some (.d (aC (rwM e s1 y)))) (some (.d (aC (rwM r o z)))) (some (.d (.int ((e+r+1:Nat):Int)))) (some (.d (cV 1 1 (p * q)))) (some (.d (aC (rwM v s1 D)))) (some (.d (.int (p:Int)))) (some (.d (.int (q:Int)))) (some (.d (.int u))) (some (.d (aC (jnM 1 (lsM 1 1) (swM 5 12 H A 1))))) (some (.d (aC (swM 13 17 E F s1)))) (some (.d (aC (rwM B G u)))) none)):=by
  unfold w24 lwS
  simp[bw,aw,am]
 have dz:w25 (lwS ns (some (.d (.int (T:Int)))) (some (.l [.int (s1:Int),.int (o:Int)])) (some (.d (.int (e:Int)))) (some (.d (aC (rwM e s1 y)))) (some (.d (aC (rwM r o z)))) (some (.d (.int ((e+r+1:Nat):Int)))) (some (.d (cV 1 1 (p * q)))) (some (.d (aC (rwM v s1 D)))) (some (.d (.int (p:Int)))) (some (.d (.int (q:Int)))) (some (.d (.int u))) (some (.d (aC (jnM 1 (lsM 1 1) (swM 5 12 H A 1))))) (some (.d (aC (swM 13 17 E F s1)))) (some (.d (aC (rwM B G u)))) none)=.ok (.nx (lwS ns (some (.d (.int (T:Int)))) (some (.l [.int (s1:Int),.int (o:Int)])) (some (.d (.int (e:Int)))) (some (.d (aC (rwM e s1 y)))) (some (.d (aC (rwM r o z)))) (some (.d (.int ((e+r+1:Nat):Int)))) (some (.d (cV 1 1 (p * q)))) (some (.d (aC (rwM v s1 D)))) (some (.d (.int (p:Int)))) (some (.d (.int (q:Int)))) (some (.d (.int u))) (some (.d (aC (jnM 1 (lsM 1 1) (swM 5 12 H A 1))))) (some (.d (aC (swM 13 17 E F s1)))) (some (.d (aC (rwM B G u)))) (some (.d (aC (rwM B s1 u)))))):=by
  unfold w25 lwS
  simp[ah,P,ai]
 have bz:w26 (lwS ns (some (.d (.int (T:Int)))) (some (.l [.int (s1:Int),.int (o:Int)])) (some (.d (.int (e:Int)))) (some (.d (aC (rwM e s1 y)))) (some (.d (aC (rwM r o z)))) (some (.d (.int ((e+r+1:Nat):Int)))) (some (.d (cV 1 1 (p * q)))) (some (.d (aC (rwM v s1 D)))) (some (.d (.int (p:Int)))) (some (.d (.int (q:Int)))) (some (.d (.int u))) (some (.d (aC (jnM 1 (lsM 1 1) (swM 5 12 H A 1))))) (some (.d (aC (swM 13 17 E F s1)))) (some (.d (aC (rwM B G u)))) (some (.d (aC (rwM B s1 u)))))=.ok (.rt (.d (.bool true))):=by
  unfold w26 lwS
  simp[dn,cb,al]
 have sq:∀ (w f:Sg->R Fw) (ρ W:Sg),w ρ=.ok (.nx W)->aV w f ρ=f W:=λw f ρ W h=>by rw[bW,h,R.bind_ok]
 have U:zJ (lwS ns none none none none none none none none none none none none none none none)=.ok (.rt (.d (.bool true))):=by
  rw[zJ,sq _ _ _ _ r1,sq _ _ _ _ r2,sq _ _ _ _ r3,sq _ _ _ _ r4,sq _ _ _ _ r5,sq _ _ _ _ r6,cz,sq _ _ _ _ cp,sq _ _ _ _ be,V,sq _ _ _ _ bv,sq _ _ _ _ di,Y,sq _ _ _ _ ci,sq _ _ _ _ dg,sq _ _ _ _ bj,sq _ _ _ _ eh,sq _ _ _ _ dj,sq _ _ _ _ cr,sq _ _ _ _ cw,sq _ _ _ _ dz,bz]
 have U:zJ [some (.d (.list (ns.map .int))),none,none,none,none,none,none,none,none,none,none,none,none,none,none,none]=.ok (.rt (.d (.bool true))):=U
 unfold aJA
 simp[U]
section
variable{P:P9}{w:W9}{K:Frag}{mg:Str->O9 V9}{base:H9}{TH:Hp}
theorem aRV(T:Txt w K mg)(Erp_TooMany:∃ W C,ErrP K mg "TooMany" W C)(Erp_NotLike:∃ W C,ErrP K mg "NotLike" W C)(I_TooMany_TooMany:Is1 K mg "TooMany" "TooMany" true)(I_NotLike_TooMany:Is1 K mg "NotLike" "TooMany" false)(I_TooMany_NotLike:Is1 K mg "TooMany" "NotLike" false)(I_NotLike_NotLike:Is1 K mg "NotLike" "NotLike" true)(I_TooMany_NoStrip:Is1 K mg "TooMany" "NoStrip" false)(I_NotLike_NoStrip:Is1 K mg "NotLike" "NoStrip" false)(I_TooMany_NoWord:Is1 K mg "TooMany" "NoWord" false)(I_NotLike_NoWord:Is1 K mg "NotLike" "NoWord" false)(J_TooMany_ValueError:pY K mg "TooMany" "ValueError" true)(J_NotLike_ValueError:pY K mg "NotLike" "ValueError" true)(U_TooMany_NotLike:UpK K mg ["TooMany","NotLike"])(bz:DefAt K mg "signs_of" (top 10) ["machine"])(ad:DefAt K mg "cells_of" (top 11) ["machine","number"])(be:DefAt K mg "mirrored_row" (top 13) ["row"])(bn:DefAt K mg "mirrored" (top 14) ["machine"])(al:DefAt K mg "moved_turn" (top 16) ["turn","rooms"])(br:DefAt K mg "moved_row" (top 17) ["row","rooms"])(av:DefAt K mg "moved" (top 18) ["machine","rooms"])(af:DefAt K mg "bounded" (top 19) ["rows"])(ac:DefAt K mg "handing_on" (top 20) ["row","word","begin","home"])(bw:DefAt K mg "joined" (top 21) ["one","two","word"])(bf:DefAt K mg "either" (top 22) ["one","two"])(aa:DefAt K mg "both" (top 23) ["one","two"])(aj:DefAt K mg "turned_about" (top 24) ["machine"])(bj:DefAt K mg "reached" (top 26) ["begin","after","done"])(ay:DefAt K mg "never" (top 27) ["found","at"])(ai:DefAt K mg "is_word" (top 32) ["part"])(ae:DefAt K mg "without_signs" (top 33) ["machine"])(ao:DefAt K mg "gone_on" (top 34) ["backs","cells","room"])(au:DefAt K mg "longer" (top 35) ["begun","cells"])(bo:DefAt K mg "word_behind" (top 36) ["machine","begun"])(Z:DefAtT K mg base TH qsT "one_way" (top 37) ["machine"])(ag:DefAt K mg "held" (top 44) ["one","other"])(ba:DefAt K mg "compared" (top 45) ["one","other"])(am:DefAt K mg "firsts" (top 47) ["keys"])(bx:DefAt K mg "behind_signs" (top 48) ["likes","row"])(aw:DefAt K mg "finer" (top 49) ["rows","likes"])(bd:DefAt K mg "alike_rooms" (top 50) ["reader"])(ax:DefAtT K mg base TH qsT "least" (top 51) ["reader"])(cb:DefAt K mg "stopping_word" (top 53) ["word"])(bp:DefAt K mg "stopping_row" (top 54) ["reader","room"])(bu:DefAt K mg "stopping" (top 55) ["machine"])(az:DefAt K mg "_law_cell" (top 57) ["_law_script","_law_k"])(ah:DefAt K mg "_law_sweeper" (top 58) ["_law_p","_law_q","_law_a","_law_b","_law_signs"])(aq:DefAt K mg "_law_less" (top 59) ["_law_many","_law_signs"])(bg:DefAt K mg "_law_up" (top 60) ["_law_end","_law_by"])(bc:DefAt K mg "_law_raised" (top 61) ["_law_machine","_law_by"])(bv:DefAt K mg "_law_joined" (top 62) ["_law_one","_law_two","_law_word"])(X:DefAt K mg "_law_kind" (top 63) ["_law_e"])(bi:DefAt K mg "_law_asked" (top 64) ["_law_which","_law_one","_law_two"])(ak:DefAt K mg "_law_rows" (top 65) ["_law_many","_law_signs","_law_cell_here"]){fL:Az}{Y:FuncData}(FL:Fun K "law" "law" (top 66) fL Y):FnOk P w K mg base (CXe P w) 17 fL Y ["_law_script"] (aIL K TH):=by
 obtain⟨Wp_TooMany,Cp_TooMany,a⟩:=Erp_TooMany
 obtain⟨Wp_NotLike,Cp_NotLike,b⟩:=Erp_NotLike
 have c:=@aF2 P w K mg base TH T bz
 have F:=@aF3 P w K mg base TH T ad
 have j:=@zK P w K mg base TH T be
 have H:=@aF4 P w K mg base TH T bn j
 have v:=@aCP P w K mg base TH T al
 have D:=@aFB P w K mg base TH T br v
 have G:=@aN2 P w K mg base TH T av D
 have m:=aJB (P:=P) (w:=w) (base:=base) (TH:=TH) T af a
 have u:=@aCQ P w K mg base TH T ac
 have y:=aLT (P:=P) (w:=w) (base:=base) (TH:=TH) T bw c G u m b
 have N:=@aLU P w K mg base TH T bf y
 have V:=@aRM P w K mg base TH T aa y
 have g:=@zM P w K mg base TH T aj G H c m
 have o:=@aJC P w K mg base TH T bj
 have O:=@aN3 P w K mg base TH T ay
 have p:=@aJD P w K mg base TH T ai
 have f:=@xR P w K mg base TH T ae
 have L:=@aJE P w K mg base TH T ao p
 have M:=@aLV P w K mg base TH T au L
 have k:=@aBI P w K mg base TH T bo p
 have n:=aJF (P:=P) (w:=w) (base:=base) (TH:=TH) T Z c F M o f k a
 have U:=@aRN P w K mg base TH T ag
 have E:=aF5 (P:=P) (w:=w) (base:=base) (TH:=TH) T ba c U n b
 have x:=@aLW P w K mg base TH T am
 have d:=@zR P w K mg base TH T bx
 have Q:=@aN4 P w K mg base TH T aw x d
 have l:=@aBJ P w K mg base TH T bd x Q
 have R:=@aN5 P w K mg base TH T ax l d o O
 have e:=@xW P w K mg base TH T cb
 have h:=@zU P w K mg base TH T bp
 have I:=aF6 (P:=P) (w:=w) (base:=base) (TH:=TH) T bu n e R h a
 have z:=@aFG P w K mg base TH T az
 have i:=@zV P w K mg base TH T ah
 have B:=@aFH P w K mg base TH T aq
 have J:=@aJG P w K mg base TH T bg
 have q:=@aBK P w K mg base TH T bc J
 have r:=@aBL P w K mg base TH T bv q
 have S:=aFI (P:=P) (w:=w) (base:=base) (TH:=TH) T X b a I_TooMany_TooMany I_NotLike_TooMany I_TooMany_NotLike I_NotLike_NotLike I_TooMany_NoStrip I_NotLike_NoStrip I_TooMany_NoWord I_NotLike_NoWord J_TooMany_ValueError J_NotLike_ValueError
 have s:=aCR (P:=P) (w:=w) (base:=base) (TH:=TH) T X b a I_TooMany_TooMany I_NotLike_TooMany I_TooMany_NotLike I_NotLike_NotLike I_TooMany_NoStrip I_NotLike_NoStrip I_TooMany_NoWord I_NotLike_NoWord J_TooMany_ValueError J_NotLike_ValueError
 have t:=@aCS P w K mg base TH T bi N V g I E U_TooMany_NotLike s
 have A:=@aFJ P w K mg base TH T ak
 exact aS4 (aUO (P:=P) (w:=w) (base:=base) (TH:=TH) T FL z A t i r B) aOB
end
section
variable{w:W9}{K:Frag}{h:H9}{mg:Str->O9 V9}
theorem aU1(X:K.In h)(G:h.Ns mainGlobals mg){a:Nat}{b:Nat}{c:Az}(z_ValueError:PySem.W.nsIn K mainGlobals "ValueError"=some none)(z_enumerate:PySem.W.nsIn K mainGlobals "enumerate"=some none)(z_int:PySem.W.nsIn K mainGlobals "int"=some none)(z_isinstance:PySem.W.nsIn K mainGlobals "isinstance"=some none)(z_len:PySem.W.nsIn K mainGlobals "len"=some none)(z_max:PySem.W.nsIn K mainGlobals "max"=some none)(z_min:PySem.W.nsIn K mainGlobals "min"=some none)(z_range:PySem.W.nsIn K mainGlobals "range"=some none)(z_str:PySem.W.nsIn K mainGlobals "str"=some none)(z_tuple:PySem.W.nsIn K mainGlobals "tuple"=some none)(z_zip:PySem.W.nsIn K mainGlobals "zip"=some none)(s_MOST_BEGINNINGS:PySem.W.nsIn K mainGlobals "MOST_BEGINNINGS"=some (some (.int 200 a)))(s_MOST_ROOMS:PySem.W.nsIn K mainGlobals "MOST_ROOMS"=some (some (.int 60 b)))(s_STOPS:PySem.W.nsIn K mainGlobals "STOPS"=some (some (.ref c)))(m_STOPS:aAF K c [.str "by",.str "out"]):Txt w K mg:=⟨B3 X G z_ValueError,B3 X G z_enumerate,B3 X G z_int,B3 X G z_isinstance,B3 X G z_len,B3 X G z_max,B3 X G z_min,B3 X G z_range,B3 X G z_str,B3 X G z_tuple,B3 X G z_zip,⟨a,CO X G s_MOST_BEGINNINGS⟩,⟨b,CO X G s_MOST_ROOMS⟩,⟨c,CO X G s_STOPS,m_STOPS⟩⟩
theorem aL7{x:Str}(X:K.In h)(G:h.Ns mainGlobals mg){W C c:Az}{g a:List V9}{i l:Str}{d:Bool}{e:List Str}{b:O9 Bool}{j:O9 Az}{c0 n o r k:O9 V9}{p:V9}{q:O9 Az}{cd:ClassData}{f:Array (O9 V9)}
  (m:PySem.W.nsIn K mainGlobals x=some (some (.ref C)))
  (e1:K.lookup C=some (excClassObj i l C c g (.ref W::SX.k6) true e a d b j c0 n o r k "ValueError.__new__"))
  (e2:PySem.W.findIn K (.ref C) "__setattr__"=some (some (.builtin "object.__setattr__"))) (e3:PySem.W.findIn K (.ref C) "__getattribute__"=some (some (.builtin "BaseException.__getattribute__"))) (e4:PySem.W.findIn K (.ref C) "__getattr__"=some none) (e5:PySem.W.findIn K (.ref C) "__class__"=some (some (.builtin "object.__class__")))
  (e6:PySem.W.specialIn K (.builtin "object.__class__") "__get__"=some (some (.builtin "getset_descriptor.__get__"))) (e7:PySem.W.takesIn K (.builtin "object.__class__")=some true) (e8:PySem.W.keepIn K (.ref C)=true)
  (n1:PySem.W.nsOkIn K c=true) (n2:PySem.W.nsIn K c "__init__"=some none) (w1:K.lookup W=some ⟨p,q,.cls cd,f⟩) (w2:PySem.W.nsOkIn K cd.ns=true) (w3:PySem.W.nsIn K cd.ns "__init__"=some none):∃ W C,ErrP K mg x W C:=
 ⟨W,C,aPI e1 e2 e3 e4 e5 e6 e7 e8,CO X G m,⟨_,_,c,_,_,_,_,_,_,_,_,_,_,_,e1,n1,n2⟩,⟨_,_,cd,_,w1,w2,w3⟩⟩
theorem nN{nm q:Str}{b:Bool}(X:K.In h)(G:h.Ns mainGlobals mg){C D:Az}(a:PySem.W.nsIn K mainGlobals q=some (some (.ref D)))(m:PySem.W.nsIn K mainGlobals nm=some (some (.ref C)))(k:PySem.W.kitOne K (.ref C) (.ref D)=some b):Is1 K mg nm q b:=⟨D,C,CO X G a,CO X G m,k⟩
theorem aHV{nm:Str}{q:String}{b:Bool}(X:K.In h)(G:h.Ns mainGlobals mg){C:Az}(m:PySem.W.nsIn K mainGlobals nm=some (some (.ref C)))(k:PySem.W.kitOne K (.ref C) (.type q)=some b):pY K mg nm q b:=⟨C,CO X G m,k⟩
theorem aO8{nm:Str}(X:K.In h)(G:h.Ns mainGlobals mg){W C H x:Az}{r d v f c:List V9}{s z o F:Str}{k t j:Bool}{p w:List Str}{g e:O9 Bool}{u q:O9 Az}{c0 A D I y B w1 w2 w3 w5:O9 V9}{i:String}
  (a:PySem.W.nsIn K mainGlobals "WayError"=some (some (.ref W))) (l:K.lookup W=some (excClassObj o F W x v c j w f t e q B w1 w2 w3 w5 i)) (b:c.contains (.type "BaseException")=true)
  (m:PySem.W.nsIn K mainGlobals nm=some (some (.ref C)))
  (e1:K.lookup C=some (excClassObj s z C H r (.ref W::SX.k6) true p d k g u c0 A D I y "ValueError.__new__")):UpK K mg [nm]:=
 ⟨W,c,CO X G a,aJ0 l b,λn E=>by
  rw[A8.mp E]
  exact⟨C,_,CO X G m,aJ0 e1 (SX.aMG W).hasBase,by simp⟩⟩
theorem rec_in{q:P9}{x:Str}(h:((recsOf q).any λd=>d.name == x)=true):∃ d∈recsOf q,d.name=x:=by
 obtain⟨d,a,e⟩:=GG.mp h
 exact⟨d,a,eq_of_beq e⟩
theorem aU2{i f:Az}{j:V9}{od m:O9 Az}{d:Array (O9 V9)}{kV doc pm b ct:V9}(X:K.In h)(G:h.Ns mainGlobals mg)(g:mg "law"=some (.ref i))(a:PySem.W.nsIn K mainGlobals "law"=some (some (.ref f)))(l:K.lookup f=some ⟨j,od,.func (PySem.W.fnOf "law" "law" (iM (top 66)) (cX (top 66)) (aK (top 66)) .none kV doc pm m b ct),d⟩)
  (c:PySem.W.codeIn K b "law"=true) (k:PySem.W.keepIn K (.ref f)=true):∃ fd,Fun K "law" "law" (top 66) i fd/\∀ (s:S9) (u:V9),BindsTo s fd ⟨[u],[]⟩ [("_law_script",u)]:=by
 have e:=g.symm.trans (CO X G a)
 cases e
 exact⟨_,aJV (st:=top 66) l c k,λs u=>.of_eq rfl⟩
end
end Mc
open PySem.W PyProof.Rows
set_option hygiene false
local macro_rules|`(tactic|trivial)=>`(tactic|(dsimp only[L2.KOf];refine' Mc.bN d G ?a ?l ?c ?k ?b;(case a=>k_is);(case l=>k_is);(case c=>k_is);(case k=>k_is);first|(case b=>exact λ_ _ _ _ _ _=>Mc.bn1 λ_=>rfl)|(case b=>exact λ_ _ _ _ _ _=>Mc.bn2 λ_ _=>rfl)|(case b=>exact λ_ _ _ _ _ _=>Mc.bn3 λ_ _ _=>rfl)|(case b=>exact λ_ _ _ _ _ _=>Mc.bn4 λ_ _ _ _=>rfl)|(case b=>exact λ_ _ _ _ _ _=>Mc.bn5 λ_ _ _ _ _=>rfl)))
set_option hygiene true
set_option maxRecDepth 100000 in
set_option maxHeartbeats 0 in
theorem PySem.Challenge.cw_striproam_k34_joined_refused_holds : PySem.Challenge.rw_striproam_k34_joined_refused.Holds := by
 w_on;o_law;k_head;(case hw=>w_witness2)
 k_fill
 refine Fl.aPU (l:=PySem.Challenge.rw_striproam_k34_joined_refused) (k:=17) (x:="_law_script") (qs:=Mc.qsT) (xs:=["one_way","least"]) ?hx ?hNT rfl rfl ⟨rfl,by decide,by decide⟩ (λw h Y=>PySem.W.km_in_of Y) ?F
 case hx=>
  intro x hx
  simp only[A6,CP,EW]at hx
  rcases hx with rfl|rfl<;>exact Mc.rec_in (by decide +kernel)
 case hNT=>
  intro w
  kernel_rfl
 case F=>
  intro w mg fa h d G ag
  have af:L2.DefAt (L2.KOf d) mg "signs_of" (Mc.top 10) ["machine"]:=by trivial
  have i:L2.DefAt (L2.KOf d) mg "cells_of" (Mc.top 11) ["machine","number"]:=by trivial
  have P:L2.DefAt (L2.KOf d) mg "mirrored_row" (Mc.top 13) ["row"]:=by trivial
  have V:L2.DefAt (L2.KOf d) mg "mirrored" (Mc.top 14) ["machine"]:=by trivial
  have v:L2.DefAt (L2.KOf d) mg "moved_turn" (Mc.top 16) ["turn","rooms"]:=by trivial
  have aa:L2.DefAt (L2.KOf d) mg "moved_row" (Mc.top 17) ["row","rooms"]:=by trivial
  have H:L2.DefAt (L2.KOf d) mg "moved" (Mc.top 18) ["machine","rooms"]:=by trivial
  have n:L2.DefAt (L2.KOf d) mg "bounded" (Mc.top 19) ["rows"]:=by trivial
  have g:L2.DefAt (L2.KOf d) mg "handing_on" (Mc.top 20) ["row","word","begin","home"]:=by trivial
  have ad:L2.DefAt (L2.KOf d) mg "joined" (Mc.top 21) ["one","two","word"]:=by trivial
  have Q:L2.DefAt (L2.KOf d) mg "either" (Mc.top 22) ["one","two"]:=by trivial
  have f:L2.DefAt (L2.KOf d) mg "both" (Mc.top 23) ["one","two"]:=by trivial
  have r:L2.DefAt (L2.KOf d) mg "turned_about" (Mc.top 24) ["machine"]:=by trivial
  have U:L2.DefAt (L2.KOf d) mg "reached" (Mc.top 26) ["begin","after","done"]:=by trivial
  have K:L2.DefAt (L2.KOf d) mg "never" (Mc.top 27) ["found","at"]:=by trivial
  have q:L2.DefAt (L2.KOf d) mg "is_word" (Mc.top 32) ["part"]:=by trivial
  have j:L2.DefAt (L2.KOf d) mg "without_signs" (Mc.top 33) ["machine"]:=by trivial
  have z:L2.DefAt (L2.KOf d) mg "gone_on" (Mc.top 34) ["backs","cells","room"]:=by trivial
  have D:L2.DefAt (L2.KOf d) mg "longer" (Mc.top 35) ["begun","cells"]:=by trivial
  have X:L2.DefAt (L2.KOf d) mg "word_behind" (Mc.top 36) ["machine","begun"]:=by trivial
  have e:L2.DefAt (L2.KOf d) mg "one_way" (Mc.top 37) ["machine"]:=by trivial
  have o:L2.DefAt (L2.KOf d) mg "held" (Mc.top 44) ["one","other"]:=by trivial
  have M:L2.DefAt (L2.KOf d) mg "compared" (Mc.top 45) ["one","other"]:=by trivial
  have y:L2.DefAt (L2.KOf d) mg "firsts" (Mc.top 47) ["keys"]:=by trivial
  have ae:L2.DefAt (L2.KOf d) mg "behind_signs" (Mc.top 48) ["likes","row"]:=by trivial
  have I:L2.DefAt (L2.KOf d) mg "finer" (Mc.top 49) ["rows","likes"]:=by trivial
  have O:L2.DefAt (L2.KOf d) mg "alike_rooms" (Mc.top 50) ["reader"]:=by trivial
  have J:L2.DefAt (L2.KOf d) mg "least" (Mc.top 51) ["reader"]:=by trivial
  have E:L2.DefAt (L2.KOf d) mg "stopping_word" (Mc.top 53) ["word"]:=by trivial
  have Z:L2.DefAt (L2.KOf d) mg "stopping_row" (Mc.top 54) ["reader","room"]:=by trivial
  have ac:L2.DefAt (L2.KOf d) mg "stopping" (Mc.top 55) ["machine"]:=by trivial
  have L:L2.DefAt (L2.KOf d) mg "_law_cell" (Mc.top 57) ["_law_script","_law_k"]:=by trivial
  have p:L2.DefAt (L2.KOf d) mg "_law_sweeper" (Mc.top 58) ["_law_p","_law_q","_law_a","_law_b","_law_signs"]:=by trivial
  have B:L2.DefAt (L2.KOf d) mg "_law_less" (Mc.top 59) ["_law_many","_law_signs"]:=by trivial
  have R:L2.DefAt (L2.KOf d) mg "_law_up" (Mc.top 60) ["_law_end","_law_by"]:=by trivial
  have N:L2.DefAt (L2.KOf d) mg "_law_raised" (Mc.top 61) ["_law_machine","_law_by"]:=by trivial
  have ah:L2.DefAt (L2.KOf d) mg "_law_joined" (Mc.top 62) ["_law_one","_law_two","_law_word"]:=by trivial
  have A:L2.DefAt (L2.KOf d) mg "_law_kind" (Mc.top 63) ["_law_e"]:=by trivial
  have S:L2.DefAt (L2.KOf d) mg "_law_asked" (Mc.top 64) ["_law_which","_law_one","_law_two"]:=by trivial
  have t:L2.DefAt (L2.KOf d) mg "_law_rows" (Mc.top 65) ["_law_many","_law_signs","_law_cell_here"]:=by trivial
  have T:Mc.Txt w (L2.KOf d) mg:=by
   dsimp only[L2.KOf]
   refine' Mc.aU1 d G ?z_ValueError ?z_enumerate ?z_int ?z_isinstance ?z_len ?z_max ?z_min ?z_range ?z_str ?z_tuple ?z_zip ?s_MOST_BEGINNINGS ?s_MOST_ROOMS ?s_STOPS (Mc.aSR ?m_STOPS)
   (case z_ValueError=>k_is);(case z_enumerate=>k_is);(case z_int=>k_is);(case z_isinstance=>k_is);(case z_len=>k_is);(case z_max=>k_is);(case z_min=>k_is);(case z_range=>k_is);(case z_str=>k_is);(case z_tuple=>k_is);(case z_zip=>k_is);(case s_MOST_BEGINNINGS=>k_is);(case s_MOST_ROOMS=>k_is);(case s_STOPS=>k_is);(case m_STOPS=>k_is)
  have Ep_TooMany:∃ W C,L2.ErrP (L2.KOf d) mg "TooMany" W C:=by
   dsimp only[L2.KOf]
   refine' Mc.aL7 d G ?m ?e1 ?e2 ?e3 ?e4 ?e5 ?e6 ?e7 ?e8 ?n1 ?n2 ?w1 ?w2 ?w3
   (case m=>k_is)
   (case e1=>k_is)
   (case e2=>k_is);(case e3=>k_is);(case e4=>k_is);(case e5=>k_is);(case e6=>k_is);(case e7=>k_is);(case e8=>k_is)
   (case n2=>k_is);(case w1=>k_is);(case w3=>k_is)
   (case n1=>refine' L2.vG ?l ?h;(case l=>k_is);(case h=>rfl))
   (case w2=>refine' L2.vG ?l ?h;(case l=>k_is);(case h=>rfl))
  have Ep_NotLike:∃ W C,L2.ErrP (L2.KOf d) mg "NotLike" W C:=by
   dsimp only[L2.KOf]
   refine' Mc.aL7 d G ?m ?e1 ?e2 ?e3 ?e4 ?e5 ?e6 ?e7 ?e8 ?n1 ?n2 ?w1 ?w2 ?w3
   (case m=>k_is)
   (case e1=>k_is)
   (case e2=>k_is);(case e3=>k_is);(case e4=>k_is);(case e5=>k_is);(case e6=>k_is);(case e7=>k_is);(case e8=>k_is)
   (case n2=>k_is);(case w1=>k_is);(case w3=>k_is)
   (case n1=>refine' L2.vG ?l ?h;(case l=>k_is);(case h=>rfl))
   (case w2=>refine' L2.vG ?l ?h;(case l=>k_is);(case h=>rfl))
  have I_TooMany_TooMany:Fl.Is1 (L2.KOf d) mg "TooMany" "TooMany" true:=by
   dsimp only[L2.KOf]
   refine' Mc.nN d G ?a ?m ?k
   (case a=>k_is);(case m=>k_is)
   (case k=>exact Mc.aDG)
  have I_NotLike_TooMany:Fl.Is1 (L2.KOf d) mg "NotLike" "TooMany" false:=by
   dsimp only[L2.KOf]
   refine' Mc.nN d G ?a ?m ?k
   (case a=>k_is);(case m=>k_is)
   (case k=>refine' Mc.nZ (by decide) ?a ?b ?c;(case a=>k_is);(case b=>k_is);(case c=>k_is))
  have I_TooMany_NotLike:Fl.Is1 (L2.KOf d) mg "TooMany" "NotLike" false:=by
   dsimp only[L2.KOf]
   refine' Mc.nN d G ?a ?m ?k
   (case a=>k_is);(case m=>k_is)
   (case k=>refine' Mc.nZ (by decide) ?a ?b ?c;(case a=>k_is);(case b=>k_is);(case c=>k_is))
  have I_NotLike_NotLike:Fl.Is1 (L2.KOf d) mg "NotLike" "NotLike" true:=by
   dsimp only[L2.KOf]
   refine' Mc.nN d G ?a ?m ?k
   (case a=>k_is);(case m=>k_is)
   (case k=>exact Mc.aDG)
  have I_TooMany_NoStrip:Fl.Is1 (L2.KOf d) mg "TooMany" "NoStrip" false:=by
   dsimp only[L2.KOf]
   refine' Mc.nN d G ?a ?m ?k
   (case a=>k_is);(case m=>k_is)
   (case k=>refine' Mc.nZ (by decide) ?a ?b ?c;(case a=>k_is);(case b=>k_is);(case c=>k_is))
  have I_NotLike_NoStrip:Fl.Is1 (L2.KOf d) mg "NotLike" "NoStrip" false:=by
   dsimp only[L2.KOf]
   refine' Mc.nN d G ?a ?m ?k
   (case a=>k_is);(case m=>k_is)
   (case k=>refine' Mc.nZ (by decide) ?a ?b ?c;(case a=>k_is);(case b=>k_is);(case c=>k_is))
  have I_TooMany_NoWord:Fl.Is1 (L2.KOf d) mg "TooMany" "NoWord" false:=by
   dsimp only[L2.KOf]
   refine' Mc.nN d G ?a ?m ?k
   (case a=>k_is);(case m=>k_is)
   (case k=>refine' Mc.nZ (by decide) ?a ?b ?c;(case a=>k_is);(case b=>k_is);(case c=>k_is))
  have I_NotLike_NoWord:Fl.Is1 (L2.KOf d) mg "NotLike" "NoWord" false:=by
   dsimp only[L2.KOf]
   refine' Mc.nN d G ?a ?m ?k
   (case a=>k_is);(case m=>k_is)
   (case k=>refine' Mc.nZ (by decide) ?a ?b ?c;(case a=>k_is);(case b=>k_is);(case c=>k_is))
  have J_TooMany_ValueError:Fl.pY (L2.KOf d) mg "TooMany" "ValueError" true:=by
   dsimp only[L2.KOf]
   refine' Mc.aHV d G ?m ?k
   (case m=>k_is)
   (case k=>refine' Mc.aJ1 (by decide) (by decide) ?c;(case c=>k_is))
  have J_NotLike_ValueError:Fl.pY (L2.KOf d) mg "NotLike" "ValueError" true:=by
   dsimp only[L2.KOf]
   refine' Mc.aHV d G ?m ?k
   (case m=>k_is)
   (case k=>refine' Mc.aJ1 (by decide) (by decide) ?c;(case c=>k_is))
  have Up_TooMany:Fl.UpK (L2.KOf d) mg ["TooMany"]:=by
   dsimp only[L2.KOf]
   refine' Mc.aO8 d G ?a ?l ?b ?m ?e1
   (case a=>k_is);(case m=>k_is);(case l=>k_is);(case e1=>k_is);(case b=>rfl)
  have Up_NotLike:Fl.UpK (L2.KOf d) mg ["NotLike"]:=by
   dsimp only[L2.KOf]
   refine' Mc.aO8 d G ?a ?l ?b ?m ?e1
   (case a=>k_is);(case m=>k_is);(case l=>k_is);(case e1=>k_is);(case b=>rfl)
  have U_TooMany_NotLike:=(Fl.aTR Up_TooMany Up_NotLike)
  have LL:∃ fd,L2.Fun (L2.KOf d) "law" "law" (Mc.top 66) fa fd/\∀ (s:S9) (u:V9),BindsTo s fd ⟨[u],[]⟩ [("_law_script",u)]:=by
   dsimp only[L2.KOf]
   refine' Mc.aU2 d G ag ?a4 ?l4 ?c4 ?k4
   (case a4=>k_is);(case l4=>k_is);(case c4=>k_is);(case k4=>k_is)
  obtain⟨fd,FL,hb⟩:=LL
  exact⟨fd,hb,λbase TH _ _ TL=>Mc.aRV T Ep_TooMany Ep_NotLike I_TooMany_TooMany I_NotLike_TooMany I_TooMany_NotLike I_NotLike_NotLike I_TooMany_NoStrip I_NotLike_NoStrip I_TooMany_NoWord I_NotLike_NoWord J_TooMany_ValueError J_NotLike_ValueError U_TooMany_NotLike af i P V v aa H n g ad Q f r U K q j z D X (Fl.aTJ e d TL (by decide)) o M y ae I O (Fl.aTJ J d TL (by decide)) E Z ac L p B R N ah A S t FL⟩
end
