import PyProof.Rows.All
import Wide.All
import OpenK.AllK
import Wide.FinOn
import Lean
import PyProof.EqAt
import PyProof.EqKinds
import PyProof.TupleCall
import PyProof.ExcInit
import PyProof.InstStoreFacts
import PyProof.StrLawsFirst
import PyProof.StrLawsIn
import KE.KLam
import PyProof.ListMulRoad
import PyProof.Rows.ListMul
import PyProof.ZipIter
import PyProof.Draws
import PyProof.ListStr
import PyProof.DictWalks
import PyProof.DictTruth
import PyProof.ListRange
import PyProof.StrLaws
import PyProof.StrLawsIdx
import PySem.Challenge.RW_striproam_k31_machines_that_always_stop
set_option linter.all false
set_option maxRecDepth 100000
set_option maxHeartbeats 4000000
set_option Elab.async false
set_option genSizeOf false
abbrev Dz:=PySem.PyData
abbrev V9:=PySem.Value
abbrev S9:=PySem.Shared
abbrev Az:=PySem.Addr
abbrev P9:=PySem.Program
abbrev W9:=PySem.World
abbrev H9:=PySem.Heap
abbrev E3:=PySem.Expr
abbrev U9:=PySem.Around
abbrev O9(α:Type):=Option α
def PySem.W.Fast.tw14447953609445296889:=()
def PySem.W.Fast.tw11927305341811366858:=()
def PySem.W.Fast.tw3681472355351501236:=()
def PySem.W.Fast.tw7582956513725862287:=()
def PySem.W.Fast.tw6348270005866910986:=()
def PySem.W.Fast.tw10684027678535889411:=()
def PySem.W.Fast.tw14465542625219376867:=()
def AA:=@PySem.wpAny_bind
def AB:=@List.length_map
def AC:=@List.getElem?_map
def AD:=@List.getElem?_eq_getElem
def AE:=@PySem.Heap.get?_push_of_some
def AG:=@List.getD_eq_getElem?_getD
def AH:=@PySem.wpAny_pure
def AI:=@List.getElem?_eq_some_iff
def AJ:=@List.mem_cons_of_mem
def AK:=@if_neg
def AL:=@if_pos
def AM:=@List.mem_of_getElem?
def AN:=@List.mem_map
def AQ:=@List.mem_singleton
def AS:=@List.mem_cons_self
def AT:=@List.mem_cons
def AU:=@Nat.le_refl
def AV:=@PySem.Heap.lt_size
def AW:=@List.length_range
def AX:=@decide_eq_true
def AY:=@List.map_cons
def AZ:=@List.mem_range
def A0:=@List.getElem?_cons_zero
def A1:=@List.getElem?_cons_succ
def A2:=@PyProof.Rows.boot_tuple
def A3:=@Bool.and_eq_true
def A4:=@PySem.Heap.get?_push_size
def A5:=@List.length_append
def A6:=@List.map_map
def A7:=@PySem.boot_len
def A8:=@Nat.lt_of_lt_of_le
def A9:=@List.getElem?_range
def BA:=@decide_eq_false
def BB:=@List.length_cons
def BC:=@List.set_cons_zero
def BD:=@List.length_nil
def BE:=@List.getElem?_eq_none
def BF:=@of_decide_eq_true
def BG:=@List.set_cons_succ
def BH:=@List.size_toArray
def BI:=@List.map_congr_left
def BJ:=@List.map_append
def BK:=@List.mem_append
def BL:=@Option.some.inj
def BM:=@PyProof.Rows.boot_isinstance
def BN:=@PySem.mem_of_lookup
def BO:=@List.length_take
def BP:=@Nat.ne_of_lt
def BQ:=@List.lookup_cons
def BR:=@Nat.le_trans
def BS:=@List.map_nil
def BT:=@PySem.F.slot_list_append
def BU:=@PySem.F.type_list_append
def BV:=@PySem.F.plainAttrs_list
def BW:=@Nat.lt_irrefl
def BX:=@Ne.symm
def BY:=@List.all_eq_true
def BZ:=@List.cons_append
def B0:=@PySem.wpAny_mono
def B1:=@List.getElem?_append_left
def B2:=@PySem.wpAny_field
def B3:=@PySem.W.mg_none_of
def B4:=@List.mem_append_right
def B5:=@List.length_singleton
def B6:=@PySem.Heap.size_push
def B7:=@List.nil_append
def B8:=@List.getElem?_set_ne
def B9:=@Bool.false_ne_true
def CA:=@PySem.wpAny_holding
def CB:=@PySem.W.kia_one
def CC:=@List.not_mem_nil
def CD:=@if_true
def CF:=@List.getElem?_append_right
def CG:=@List.mem_append_left
def CH:=@Bool.false_eq_true
def CI:=@PySem.Heap.SameBut.update
def CJ:=@PyProof.Rows.boot_int
def CK:=@Int.emod_lt_of_pos
def CL:=@congrArg
def CM:=@Nat.zero_le
def CN:=@List.ext_getElem?
def CO:=@PySem.Heap.get?_update_self
def CP:=@PySem.wpAny_Call_Name_kw
def CQ:=@List.getElem_mem
def CS:=@List.map_singleton
def CT:=@List.nodup_nil
def CU:=@PySem.wpAny_callSpecial?_slot
def CV:=@PySem.wpAny_newObj_type
def CW:=@List.nodup_append
def CY:=@List.take_add_one
def CZ:=@PyProof.Rows.callWith_type1
def C0:=@List.nodup_cons
def C3:=@List.forIn_cons
def C4:=@Int.emod_nonneg
def C5:=@List.getElem?_set_self
def C6:=@List.take_of_length_le
def C7:=@PySem.wpAny_seqItems
def C8:=@PyProof.Rows.boot_str
def C9:=@Classical.byContradiction
def DA:=@Nat.le_of_lt
def DB:=@Nat.ne_of_gt
def DC:=@beq_false_of_ne
def DD:=@List.find?_cons
def DE:=@PySem.wpAny_truthy_bool
def DF:=@Nat.lt_trichotomy
def DG:=@Array.length_toList
def DH:=@Option.bind_some
def DI:=@PySem.F.slot_dict_setdefault
def DJ:=@Int.le_refl
def DK:=@List.mem_filterMap
def DL:=@PySem.wpAny_setField_rec
def DM:=@Nat.lt_of_le_of_lt
def DN:=@PyProof.Rows.F.plain_set_update_loop
def DO:=@PySem.wpAny_passesOwn
def DP:=@List.append_nil
def DQ:=@List.length_set
def DR:=@Bool.or_eq_true
def DS:=@Option.map_some
def DT:=@PySem.wpAny_standAt
def DU:=@if_false
def DV:=@Array.getElem?_eq_some_iff
def DW:=@PySem.F.slot_tuple_iterator_next
def DX:=@PySem.eqIsQuiet_byValue
def DY:=@List.mem_of_getLast?
def DZ:=@beq_self_eq_true
def D0:=@or_false
def D3:=@List.prefix_refl
def D4:=@PySem.F.called_set
def D7:=@beq_eq_false_iff_ne
def EA:=@List.filterMap_cons
def EB:=@List.mem_map_of_mem
def EC:=@PyProof.Rows.slot_tuple_getitem
def ED:=@PySem.Obj.data_mapFields
def EE:=@List.length_zipIdx
def EF:=@PySem.Heap.get?_update_other
def EG:=@Option.some.injEq
def EH:=@PySem.codeAny_mono
def EI:=@List.length_replicate
def EJ:=@PySem.wpAny_call_entry
def EK:=@List.mem_iff_getElem
def EL:=@PySem.wpAny_isInstance
def EM:=@PySem.Obj.data_mapDictKeys
def EN:=@List.pairwise_iff_getElem
def EO:=@PySem.W.callWith_K
def EQ:=@List.getElem?_take_of_lt
def ER:=@PyProof.Rows.F.entry_set_update_loop
def ES:=@PySem.wpAny_call
def ET:=@PySem.wpAny_setField
def EU:=@List.getElem?_replicate
def EV:=@PySem.wpAny_pyIter_list
def EW:=@Option.isSome_map
def EX:=@List.foldl_append
def EY:=@PySem.W.mg_of
def EZ:=@Nat.le_add_right
def E1:=@LawfulBEq.eq_of_beq
def E2:=@PySem.Obj.isFreed_of_fields
def E4:=@Array.getElem?_toList
def E5:=@PySem.wpAny_execs_nil
def E6:=@List.of_mem_zip
def E7:=@PyProof.Rows.callWith_builtin1
def E8:=@Nat.le_of_eq
def E9:=@List.cons.injEq
def FA:=@PySem.wpAny_rule
def FB:=@PySem.wpAny_updateSeq_pair
def FC:=@PySem.F.slot_zip_next
def FD:=@List.length_zip
def FE:=@PySem.F.args_dict_setdefault_3
def FF:=@List.getElem?_zipIdx
def FG:=@List.getElem?_of_mem
def FH:=@PySem.wpAny_ite_false
def FI:=@PySem.F.entry_dict_setdefault
def FJ:=@List.take_append_of_le_length
def FK:=@Array.toList_append
def FM:=@List.toList_toArray
def FN:=@List.forIn_nil
def FP:=@PySem.F.args_tuple_iterator_next_1
def FQ:=@PySem.F.type_dict_setdefault
def FR:=@PySem.wpAny_of_eq
def FS:=@PySem.F.entry_tuple_iterator_next
def FT:=@decide_eq_true_iff
def FU:=@PySem.Calls.Name_function_global
def FV:=@PySem.wpAny_attempt
def FW:=@PySem.F.excAttr_ValueError
def FX:=@Bool.true_and
def FY:=@List.any_cons
def FZ:=@PySem.wpAny_onRaise
def F6:=@PySem.W.kitx_list
def F7:=@List.reverse_cons
def F8:=@Nat.lt_succ_of_lt
def F9:=@not_false_eq_true
def GA:=@List.drop_eq_getElem_cons
def GB:=@List.getLast?_eq_none_iff
def GC:=@List.getLast?_eq_some_iff
def GD:=@Option.isSome_iff_exists
def GE:=@PySem.F.args_tuple_add_2
def GF:=@Option.getD_none
def GG:=@Nat.lt_succ_self
def GH:=@PySem.wpAny_comprehension_free
def GI:=@List.Pairwise.imp_of_mem
def GJ:=@Nat.mul_comm
def GK:=@List.any_eq_true
def GL:=@decide_false
def GM:=@List.take_length
def GN:=@Option.bind_none
def GO:=@PySem.F.entry_tuple_add
def GP:=@PySem.F.plainAttrs_dict
def GQ:=@List.mem_filter
def GR:=@PySem.wpAny_specialOf
def GS:=@List.foldl_cons
def GT:=@List.range_succ
def GU:=@PySem.codeAny_builtin
def GV:=@PySem.sizeLine_eq
def GW:=@PySem.W.cellsFrom_some
def GX:=@PySem.F.slot_tuple_add
def GY:=@PySem.wpAny_Call_method_late
def GZ:=@PySem.Calls.callWith_builtin
def G0:=@PySem.wpAny_letGo
def G1:=@PySem.F.plainAttrs_str
def G2:=@not_or
def G3:=@List.take_append_drop
def G4:=@beq_iff_eq
def G5:=@PySem.Paired.length
def G6:=@Bool.not_true
def G7:=@Nat.lt_trans
def G8:=@Nat.zero_add
theorem Mc.bn1{α:Type}{P:List α->Prop}(h:∀ a,P [a]):∀ us:List α,us.length=1->P us
 | [a],_=>h a
theorem Mc.bn2{α:Type}{P:List α->Prop}(h:∀ a b,P [a,b]):∀ us:List α,us.length=2->P us
 | [a,b],_=>h a b
theorem Mc.bn3{α:Type}{P:List α->Prop}(h:∀ a b c,P [a,b,c]):∀ us:List α,us.length=3->P us
 | [a,b,c],_=>h a b c
theorem Mc.bn4{α:Type}{P:List α->Prop}(h:∀ a b c d,P [a,b,c,d]):∀ us:List α,us.length=4->P us
 | [a,b,c,d],_=>h a b c d
open PySem.W (Frag)
open PySem
noncomputable section
namespace L2
open PySem.Spec PyProof.Rows
abbrev Key:=Sum Int Str
def lF:Key->V9->Bool
 | .inl k,v=>Value.isInt k v
 | .inr x,v=>Value.isStrOf x v
def aVB(w:W9):Key->Int
 | .inl k=>hashInt k
 | .inr x=>hashStr w x
theorem keyIs_shape:∀ {k:Key} {v:V9},lF k v=true->(∃ i t,k=Sum.inl i/\v=Value.int i t)\/(∃ x t,k=Sum.inr x/\v=Value.str x t)
 | .inl i,v,h=>by
  obtain ⟨t,e⟩:=Value.isInt_shape (k:=i) (v:=v) h
  exact .inl ⟨i,t,rfl,e⟩
 | .inr x,v,h=>by
  obtain ⟨t,e⟩:=Value.isStrOf_shape (x:=x) (v:=v) h
  exact .inr ⟨x,t,rfl,e⟩
def aH8(i:Int)(t:Tok):lF (.inl i) (.int i t)=true:=by simp[lF,Value.isInt]
def aH9(x:Str)(t:Tok):lF (.inr x) (.str x t)=true:=by simp[lF,Value.isStrOf]
def aQZ(a b:Int):decide ((Sum.inl a:Key)=Sum.inl b)=(a == b):=by
 by_cases e:a=b
 .subst e;simp
 .have h:¬ (Sum.inl a:Key)=Sum.inl b:=fun q=>e (Sum.inl.inj q)
  rw[BA h]
  exact (D7.mpr e).symm
def aQ0(a b:Str):decide ((Sum.inr a:Key)=Sum.inr b)=decide (a=b):=by
 by_cases e:a=b
 .subst e;simp
 .have h:¬ (Sum.inr a:Key)=Sum.inr b:=fun q=>e (Sum.inr.inj q)
  rw[BA h,BA e]
def aQ1(a:Int)(b:Str):decide ((Sum.inl a:Key)=Sum.inr b)=false:=BA (fun q=>nomatch q)
def aQ2(a:Str)(b:Int):decide ((Sum.inr a:Key)=Sum.inl b)=false:=BA (fun q=>nomatch q)
def dA(prog:P9)(w:W9):PySem.KeyKind prog w Key where
 is:=lF
 hash:=aVB w
 inj:=fun v a b ha hb=>by
  rcases keyIs_shape ha with ⟨i,t,rfl,rfl⟩|⟨x,t,rfl,rfl⟩
  .rcases keyIs_shape hb with ⟨j,u,rfl,e⟩|⟨y,u,rfl,e⟩
   · injection e with e1 _; rw [e1]
   · exact nomatch e
  .rcases keyIs_shape hb with ⟨j,u,rfl,e⟩|⟨y,u,rfl,e⟩
   · exact nomatch e
   · injection e with e1 _; rw [e1]
 byValue:=fun k v h=>by
  rcases keyIs_shape h with ⟨i,t,rfl,rfl⟩|⟨x,t,rfl,rfl⟩<;>rfl
 pyHash:=fun hv h=>by
  rcases keyIs_shape hv with ⟨i,t,rfl,rfl⟩|⟨x,t,rfl,rfl⟩
  .exact wpAny_pyHash_int h
  .exact wpAny_pyHash_str h
 eqBool:=fun hu hv h=>by
  rcases keyIs_shape hu with ⟨i,t,rfl,rfl⟩|⟨x,t,rfl,rfl⟩
  .rcases keyIs_shape hv with ⟨j,u,rfl,rfl⟩|⟨y,u,rfl,rfl⟩
   · rw [aQZ] at h; exact wpAny_eqBool_int h
   · rw [aQ1] at h; exact SeqAt.EqAt.int_str i t y u _ _ _ _ h
  .rcases keyIs_shape hv with ⟨j,u,rfl,rfl⟩|⟨y,u,rfl,rfl⟩
   · rw [aQ2] at h; exact SeqAt.EqAt.str_int x t j u _ _ _ _ h
   · rw [aQ0] at h; exact wpAny_eqBool_str h
 «strs»:=fun k x t v h=>by
  rcases keyIs_shape h with ⟨i,u,rfl,e⟩|⟨y,u,rfl,e⟩
  .exact nomatch e
  .injection e with e1 _
   subst e1
   cases v<;>rfl
def aEU(prog:P9)(w:W9)(i:Int)(t:Tok):(dA prog w).is (.inl i) (.int i t)=true:=aH8 i t
def aEV(prog:P9)(w:W9)(x:Str)(t:Tok):(dA prog w).is (.inr x) (.str x t)=true:=aH9 x t
inductive V where
 | non|bl (b:Bool)|int (i:Int)|str (x:Str)|byt (b:Array UInt8)|flt (b:UInt64)|ref (a:Az)|ty (n:String)
 deriving DecidableEq
def bL:V->V9->Prop
 | .non,u=>u=Value.none
 | .bl b,u=>u=Value.bool b
 | .int i,u=>∃ t,u=Value.int i t
 | .str x,u=>∃ t,u=Value.str x t
 | .byt b,u=>∃ t,u=Value.bytes b t
 | .flt b,u=>∃ t,u=Value.float b t
 | .ref a,u=>u=Value.ref a
 | .ty n,u=>u=Value.type n
abbrev bY:List V->List V9->Prop:=Paired bL
def bY.length{xs:List V}{us:List V9}(r:bY xs us):xs.length=us.length:=G5 r
theorem bY.get:∀ {xs:List V} {us:List V9} {i:Nat} {x:V},bY xs us->xs[i]? = some x->∃ u,us[i]? = some u/\bL x u
 | _,_,_,_,.nil,e=>by simp at e
 | _,_,0,_,.cons r _,e=>by simp at e;subst e;exact ⟨_,rfl,r⟩
 | _,_,i+1,x,.cons _ t,e=>by
  obtain ⟨u,h1,h2⟩:=bY.get (i:=i) (x:=x) t (by simpa using e)
  exact ⟨u,by simpa using h1,h2⟩
theorem bY.set{x:V}{u:V9}(r:bL x u):∀ {xs:List V} {us:List V9} (i:Nat),bY xs us->bY (xs.set i x) (us.set i u)
 | _,_,_,.nil=>.nil
 | _,_,0,.cons _ t=>.cons r t
 | _,_,i+1,.cons q t=>.cons q (bY.set r i t)
theorem bY.append:∀ {xs ys:List V} {us ws:List V9},bY xs us->bY ys ws->bY (xs++ys) (us++ws)
 | _,_,_,_,.nil,s=>s
 | _,_,_,_,.cons r t,s=>.cons r (bY.append t s)
theorem bY.take:∀ {xs:List V} {us:List V9} (n:Nat),bY xs us->bY (xs.take n) (us.take n)
 | _,_,0,_=>.nil
 | _,_,_+1,.nil=>.nil
 | _,_,n+1,.cons r t=>.cons r (bY.take n t)
theorem bY.drop:∀ {xs:List V} {us:List V9} (n:Nat),bY xs us->bY (xs.drop n) (us.drop n)
 | _,_,0,r=>r
 | _,_,_+1,.nil=>.nil
 | _,_,n+1,.cons _ t=>bY.drop n t
def nY:O9 V->O9 V9->Prop
 | some v,some u=>bL v u
 | none,none=>True
 | _,_=>False
def KV{κ:Type}:List (κ×V)->List (κ×V9)->Prop:=Paired fun (p:κ×V) (q:κ×V9)=>p.1=q.1/\bL p.2 q.2
def kV:Key->V
 | .inl i=>.int i
 | .inr x=>.str x
inductive HO where
 | lst (xs:List V)
 | tup (xs:List V)
 | dK (a6:List (Key×V))|dT (a6:List (List Key×V))
 | set (S:Int->Bool) (n:Nat)
 | ins (C dx:Az) (fs:List (Str×V))
 | own (x:Az)
 | xd (fs:List (Str×V))
 | met (f x:Az)
 | rng (lo hi:Int)
 | frz (o:Obj) (u:HO)
 | tbl (qs:List (Pos×Str))
 | cod (q:Str)
 | ext (φ:Heap->Prop)
abbrev Hp:=Az->O9 HO
def upd(H:Hp)(a:Az)(o:HO):Hp:=fun b=>if b=a then some o else H b
def bN{H:Hp}{a:Az}{o:HO}:upd H a o a=some o:=by unfold upd;rw[AL rfl]
def aU{H:Hp}{a b:Az}{o:HO}(h:b≠a):upd H a o b=H b:=by unfold upd;rw[AK h]
def aE7{H:Hp}{a:Az}{o u:HO}:upd (upd H a o) a u=upd H a u:=by
 funext b;unfold upd;split<;>rfl
def bT{H:Hp}{a b:Az}{o:HO}(h:H a=some o)(h':H b=none):a≠b:=by
 intro e;subst e;rw[h] at h';cases h'
section
variable(P:P9)(w:W9)
def cX(H:Hp)(h:H9)(a:Az):HO->Prop
 | .lst xs=>xs.length<=sizeLine/\∃ (its:List V9) (n:Nat),bY xs its/\h.get? a=some {cls:=.type "list",data:=.seq its.toArray n}
 | .tup xs=>xs.length<=sizeLine/\∃ its:List V9,bY xs its/\IsTup h a its.toArray
 | .dK a6=>a6.length<=sizeLine/\(a == sysModules)=false/\∃ vs,KV a6 vs/\h.DictOf (dA P w) a vs
 | .dT a6=>a6.length<=sizeLine/\(a == sysModules)=false/\∃ xs:List (List Key×Az×V9),
  Paired (fun (p:List Key×V) (q:List Key×Az×V9)=>p.1=q.1/\H q.2.1=some (.tup (p.1.map kV))/\bL p.2 q.2.2) a6 xs /\
  ∃ o es ep,h.get? a=some o/\o.ExactDict/\o.data=.dict es ep/\es.toList=xs.map (entryOfKey (tupleKind (dA P w)))/\(xs.map (·.1)).Nodup
 | .set S n=>h.SetOf (intKind P w) a S n
 | .ins C dx fs=>H dx=some (.own a)/\fs.length<=1000/\dx≠a/\h.get? a=some (PySem.W.instObj C dx) /\
  ∃ mA,h.Ns1 dx mA/\(∀ f,nY (fs.lookup f) (mA f))/\PySem.Within mA (fs.map (·.1))
 | .own _=>∃ o,h.get? a=some o
 | .xd fs=>∃ mA,h.Ns1 a mA/\∀ f,nY (fs.lookup f) (mA f)
 | .rng lo hi=>∃ t u v,h.get? a=some {cls:=.type "range",data:=.fields #[.int lo t,.int hi u,.int 1 v]}
 | .frz o u=>h.get? a=some o/\cX H h a u
 | .tbl qs=>∃ ps:Array V9,h.get? a=some {cls:=.none,data:=.fields ps}/\TriplesOk ps.toList/\∀ p∈qs,codeAmong p.1 ps.toList=none\/∃ c,codeAmong p.1 ps.toList=some (.ref c)/\H c=some (.cod p.2)
 | .cod q=>h.CodeRec (.ref a) q
 | .met f x=>h.get? a=some (PySem.W.methodObj (.ref f) (.ref x))
 | .ext φ=>φ h/\(∃ o,h.get? a=some o)/\∀ h1 h2:H9,φ h1->(∀ o,h1.get? a=some o->h2.get? a=some o)->φ h2
def HOk(H:Hp)(h:H9):Prop:=∀ a o,H a=some o->cX P w H h a o
end
section
variable{P:P9}{w:W9}{H H':Hp}{h h':H9}{a:Az}{o:HO}
def cX.lt(x:cX P w H h a o):a < h.objs.size:=by
 cases o with
 | lst xs=>obtain ⟨_,_,_,_,e⟩:=x;exact AV e
 | tup xs=>obtain ⟨_,_,_,p⟩:=x;exact p.lt
 | dK a6=>obtain ⟨_,_,_,_,o,_,_,e,_⟩:=x;exact AV e
 | dT a6=>obtain ⟨_,_,_,_,o,_,_,e,_⟩:=x;exact AV e
 | set S n=>obtain ⟨o,_,_,_,e,_⟩:=x;exact AV e
 | ins C dx fs=>obtain ⟨_,_,_,e,_⟩:=x;exact AV e
 | own y=>obtain ⟨_,e⟩:=x;exact AV e
 | xd fs=>obtain ⟨_,⟨_,_,_,e,_⟩,_⟩:=x;exact AV e
 | rng lo hi=>obtain ⟨_,_,_,e⟩:=x;exact AV e
 | frz ob u=>obtain ⟨e,_⟩:=x;exact AV e
 | tbl qs=>obtain ⟨ps,e,_⟩:=x;exact AV e
 | cod q=>obtain ⟨c,o,vs,t,e,b,_⟩:=x;cases e;exact AV b
 | met f y=>exact AV (show h.get? a=some _ from x)
 | ext φ=>obtain ⟨_,⟨_,e⟩,_⟩:=x;exact AV e
theorem Paired.mapP{α β:Type}{F G:α->β->Prop}:∀ {l₁:List α} {l₂:List β},Paired F l₁ l₂->(∀ a b,F a b->G a b)->Paired G l₁ l₂
 | _,_,.nil,_=>.nil
 | _,_,.cons r t,f=>.cons (f _ _ r) (Paired.mapP t f)
def cX.stay(x:cX P w H h a o)(k:∀ b u,(b=a\/H b=some (.own a))->h.get? b=some u->h'.get? b=some u)
  (j:∀ b,H b=some (.own a)->H' b=some (.own a)) (B:∀ b q,H b=some (.cod q)->H' b=some (.cod q)) (l:∀ b xs,H b=some (.tup xs)->H' b=some (.tup xs)):cX P w H' h' a o:=by
 induction o with
 | lst xs=>obtain ⟨z,i,n,r,e⟩:=x;exact ⟨z,i,n,r,k _ _ (.inl rfl) e⟩
 | tup xs=>obtain ⟨z,i,r,g,e,c⟩:=x;exact ⟨z,i,r,g,k _ _ (.inl rfl) e,c⟩
 | dK a6=>obtain ⟨z,y,vs,r,g,es,ep,e,c⟩:=x;exact ⟨z,y,vs,r,g,es,ep,k _ _ (.inl rfl) e,c⟩
 | dT a6=>
  obtain ⟨z,y,xs,r,g,es,ep,e,c⟩:=x
  exact ⟨z,y,xs,Paired.mapP r fun p q z=>⟨z.1,l _ _ z.2.1,z.2.2⟩,g,es,ep,k _ _ (.inl rfl) e,c⟩
 | set S n=>obtain ⟨g,es,ep,t,e,c⟩:=x;exact ⟨g,es,ep,t,k _ _ (.inl rfl) e,c⟩
 | ins C dx fs=>
  obtain ⟨d,z,m,e,mA,⟨od,es,ep,e2,c⟩,r⟩:=x
  exact ⟨j _ d,z,m,k _ _ (.inl rfl) e,mA,⟨od,es,ep,k _ _ (.inr d) e2,c⟩,r⟩
 | own y=>obtain ⟨g,e⟩:=x;exact ⟨g,k _ _ (.inl rfl) e⟩
 | xd fs=>obtain ⟨mA,⟨od,es,ep,e,c⟩,r⟩:=x;exact ⟨mA,⟨od,es,ep,k _ _ (.inl rfl) e,c⟩,r⟩
 | rng lo hi=>obtain ⟨t,u,v,e⟩:=x;exact ⟨t,u,v,k _ _ (.inl rfl) e⟩
 | frz g u ih=>obtain ⟨e,q⟩:=x;exact ⟨k _ _ (.inl rfl) e,ih q⟩
 | tbl qs=>
  obtain ⟨ps,e,t,r⟩:=x
  refine ⟨ps,k _ _ (.inl rfl) e,t,fun p A=>?_⟩
  rcases r p A with z|⟨c,z,s⟩
  · exact .inl z
  · exact .inr ⟨c, z, B _ _ s⟩
 | cod q=>
  obtain ⟨c,o,vs,t,e,j,r⟩:=x
  cases e
  exact ⟨_,o,vs,t,rfl,k _ _ (.inl rfl) j,r⟩
 | met f y=>
  have e:h.get? a=some (PySem.W.methodObj (.ref f) (.ref y)):=x
  show h'.get? a=some (PySem.W.methodObj (.ref f) (.ref y))
  exact k a _ (.inl rfl) e
 | ext φ=>obtain ⟨p,⟨o,e⟩,st⟩:=x;exact ⟨st _ _ p fun o q=>k _ _ (.inl rfl) q,⟨o,k _ _ (.inl rfl) e⟩,st⟩
def HOk.lt(x:HOk P w H h)(e:H a=some o):a < h.objs.size:=(x a o e).lt
def HOk.fresh(x:HOk P w H h)(e:h.objs.size<=a):H a=none:=by
 cases q:H a with
 | none=>rfl
 | some u=>exact absurd (A8 (x.lt q) e) (BW _)
def HOk.kept(x:HOk P w H h)(k:∀ b u,h.get? b=some u->h'.get? b=some u):HOk P w H h':=fun a o e=>
 (x a o e).stay (fun b u _ q=>k b u q) (fun _ q=>q) (fun _ _ q=>q) fun _ _ q=>q
def HOk.laid(x:HOk P w H h)(k:∀ b u,h.get? b=some u->h'.get? b=some u)(g:h.objs.size<=a)(new:cX P w (upd H a o) h' a o):HOk P w (upd H a o) h':=fun b u e=>by
 have d:=x.fresh g
 by_cases f:b=a
 .subst f;rw[bN] at e;cases e;exact new
 .rw[aU f] at e
  exact (x b u e).stay (fun c v _ q=>k c v q) (fun c q=>by rw[aU (bT q d)];exact q) (fun c xs q=>by rw[aU (bT q d)];exact q) fun c xs q=>by rw[aU (bT q d)];exact q
end
def Rd(H:Hp)(a:Az)(u:HO):Prop:=H a=some u\/∃ o,H a=some (.frz o u)
def Rd.ok{P:P9}{w:W9}{H:Hp}{h:H9}{a:Az}{u:HO}(r:Rd H a u)(x:HOk P w H h):cX P w H h a u:=by
 rcases r with r|⟨o,r⟩
 .exact x a u r
 .obtain ⟨_,q⟩:=x a _ r
  exact q
def Mut:O9 HO->Prop
 | some (.lst _)=>True
 | some (.dK _)=>True
 | some (.dT _)=>True
 | some (.set _ _)=>True
 | some (.ins _ _ _)=>True
 | some (.ext _)=>True
 | _=>False
section
variable{P:P9}{w:W9}{H:Hp}{h h':H9}{x e:Az}{o':HO}
def HOk.write(ok:HOk P w H h)(f:Mut (H x))(o:e=x\/H e=some (.own x))(k:∀ b u,b≠e->h.get? b=some u->h'.get? b=some u)(m:∃ u,h'.get? e=some u)
  (new:cX P w (upd H x o') h' x o'):HOk P w (upd H x o') h':=fun b u q=>by
 have d:∀ c y,H c=some (.own y)->c≠x:=fun c y r z=>by subst z;rw[r] at f;exact f
 have g:∀ c xs,H c=some (.tup xs)->c≠x:=fun c xs r z=>by subst z;rw[r] at f;exact f
 have i:∀ c xs,H c=some (.cod xs)->c≠x:=fun c xs r z=>by subst z;rw[r] at f;exact f
 by_cases l:b=x
 .subst l;rw[bN] at q;cases q;exact new
 .rw[aU l] at q
  by_cases a:b=e
  .have n:H b=some (.own x):=by
    rcases o with z|z
    · exact absurd (a.trans z) l
    · rw [a]; exact z
   rw[q] at n;cases n
   obtain ⟨v,p⟩:=m
   exact ⟨v,by rw[a];exact p⟩
  .refine (ok b u q).stay (fun c v j r=>k c v ?_ r) (fun c r=>by rw[aU (d c b r)];exact r) (fun c xs r=>by rw[aU (i c xs r)];exact r) fun c xs r=>by rw[aU (g c xs r)];exact r
   rcases j with rfl|j
   .exact a
   .rintro rfl
    rcases o with z|z
    · exact d c b j z
    · rw [j] at z; cases z; exact l rfl
end
structure Un(fs ex:List Az)(H H':Hp)(h h':Heap):Prop where
 keep:∀ b o,h.get? b=some o->H b=none->b∉fs->b∉ex->h'.get? b=some o
 slot:∀ b o,h.get? b=some o->H b=none->b∈fs->b∉ex->∃ sl,h'.get? b=some {o with slots:=sl}
 free:∀ b o,h.get? b=some o->H b=none->b∉ex->H' b=none
 there:∀ b o,h.get? b=some o->b∉ex->∃ o',h'.get? b=some o'
 tups:∀ b xs,H b=some (.tup xs)->H' b=some (.tup xs)
 frzs:∀ b o u,H b=some (.frz o u)->H' b=some (.frz o u)
 tbls:∀ b ps,H b=some (.tbl ps)->H' b=some (.tbl ps)
section
variable{fs fs' ex ex':List Az}{H H1 H2:Hp}{h h1 h2 h':H9}{a x e:Az}{o:HO}
def Un.any(u:Un fs ex H H1 h h1){b:Az}{a:Obj}(q:h.get? b=some a)(n:H b=none)(hx:b∉ex):∃ sl,h1.get? b=some {a with slots:=sl}:=by
 by_cases c:b∈fs
 · exact u.slot b a q n c hx
 · exact ⟨a.slots, u.keep b a q n c hx⟩
def Un.trans(a:Un fs ex H H1 h h1)(b:Un fs ex H1 H2 h1 h2):Un fs ex H H2 h h2 where
 keep:=fun c d q n f e=>b.keep c d (a.keep c d q n f e) (a.free c d q n e) f e
 slot:=fun c d q n f e=>by
  obtain ⟨sl,e1⟩:=a.slot c d q n f e
  obtain ⟨g,e2⟩:=b.slot c _ e1 (a.free c d q n e) f e
  exact ⟨g,e2⟩
 free:=fun c d q n e=>by
  obtain ⟨o',e1⟩:=a.there c d q e
  exact b.free c o' e1 (a.free c d q n e) e
 there:=fun c d q e=>by
  obtain ⟨o',e1⟩:=a.there c d q e
  exact b.there c o' e1 e
 tups:=fun c xs q=>b.tups c xs (a.tups c xs q)
 frzs:=fun c d xs q=>b.frzs c d xs (a.frzs c d xs q)
 tbls:=fun c ps q=>b.tbls c ps (a.tbls c ps q)
def Un.kept(k:∀ b u,h.get? b=some u->h'.get? b=some u):Un fs ex H H h h':=
 ⟨fun b a q _ _ _=>k b a q,fun b a q _ _ _=>⟨a.slots,k b a q⟩,fun _ _ _ n _=>n,fun b a q _=>⟨a,k b a q⟩,fun _ _ q=>q,fun _ _ _ q=>q,fun _ _ q=>q⟩
def Un.refl:Un fs ex H H h h:=Un.kept fun _ _ q=>q
def Un.laid(k:∀ b u,h.get? b=some u->h'.get? b=some u)(d:h.objs.size<=a)(c:H a=none):Un fs ex H (upd H a o) h h' where
 keep:=fun b u q _ _ _=>k b u q
 slot:=fun b u q _ _ _=>⟨u.slots,k b u q⟩
 free:=fun b u q n _=>by rw[aU (BP (A8 (AV q) d))];exact n
 there:=fun b u q _=>⟨u,k b u q⟩
 tups:=fun b xs q=>by rw[aU (bT q c)];exact q
 frzs:=fun b u xs q=>by rw[aU (bT q c)];exact q
 tbls:=fun b ps q=>by rw[aU (bT q c)];exact q
def Un.write(c:Mut (H x))(j:e=x\/H e=some (.own x))(k:∀ b u,b≠e->h.get? b=some u->h'.get? b=some u)(d:∃ u,h'.get? e=some u):Un fs ex H (upd H x o) h h':=by
 have g:∀ b,H b=none->b≠x:=fun b n z=>by subst z;rw[n] at c;exact c
 have i:∀ b,H b=none->b≠e:=fun b n z=>by
  subst z
  rcases j with r|r
  · exact g b n r
  · rw [n] at r; cases r
 have f:∀ b u,H b=some u->¬ Mut (some u)->b≠x:=fun b u q nm z=>by subst z;rw[q] at c;exact nm c
 refine ⟨fun b u q n _ _=>k b u (i b n) q,fun b u q n _ _=>⟨u.slots,k b u (i b n) q⟩,fun b u q n _=>by rw[aU (g b n)];exact n,fun b u q _=>?_,
  fun b xs q=>by rw[aU (f b _ q fun z=>z)];exact q,fun b u xs q=>by rw[aU (f b _ q fun z=>z)];exact q,fun b ps q=>by rw[aU (f b _ q fun z=>z)];exact q⟩
 by_cases a:b=e
 .subst a;exact d
 .exact ⟨u,k b u a q⟩
end
def trk(h:H9)(H:Hp):List Az:=(List.range h.objs.size).filter fun a=>(H a).isSome
def qL(h:H9)(H:Hp):H9:=PySem.W.hideAll h (trk h H)
def aIA(h:H9)(H:Hp):(qL h H).objs.size=h.objs.size:=PySem.W.hideAll_size _ _
def aK0{h:H9}{H:Hp}{b:Az}{o:Obj}(e:h.get? b=some o)(n:H b=none):(qL h H).get? b=some o:=
 PySem.W.hideAll_get _ e fun a=>by
  have q:(H b).isSome=true:=(GQ.mp a).2
  rw[n] at q;simp at q
def aN1{h:H9}{H:Hp}{b:Az}{o:Obj}(e:(qL h H).get? b=some o):h.get? b=some o/\H b=none:=by
 have a:h.get? b=some o:=PySem.W.of_hideAll (trk h H) e
 refine ⟨a,?_⟩
 cases q:H b with
 | none=>rfl
 | some x=>
  have c:b∈trk h H:=GQ.mpr ⟨AZ.mpr (AV a),by simp[q]⟩
  have z:(qL h H).get? b=none:=PySem.W.hideAll_none (trk h H) c
  rw[z] at e;cases e
def aN2(g h:H9)(L:Az):List (Az×Obj):=(List.range h.objs.size).filterMap fun a=>if a=L\/(g.get? a).isSome=true then none else (h.get? a).map fun o=>(a,o)
def rest(g h:H9)(L d:Az):List (Az×Obj):=(aN2 g h L).filter fun p=>decide (p.1≠d)
structure Mod(K:Frag)(mg:Str->Option V9)(base:Heap):Prop where
 kin:K.In base
 glob:base.Ns mainGlobals mg
 blt:∃ mb,base.Ns builtinsNs mb/\∀ x:Str,x≠"__name__"->mb x=bootBuiltins x
 nolimit:base.NoLimit
structure Cx where
 prog:Program
 w:World
 K:Frag
 mg:Str->Option V9
 base:Heap
 A:Around
 N:List Str
 s₀:S9
 H₀:Hp
 env:Env
 outer:List Env
 stack:List Env
 ex:List Az
 fn:Str->Bool
 calm:Bool
 pn:List (Az×Obj)
 xe:V9->S9->Prop
def frs(l:List Env):List Az:=l.filterMap (·.frame)
abbrev Cx.fs(X:Cx):List Az:=frs X.outer
def Vis(sc:Scope)(x:Str):Prop:=sc.names.lookup x=some .local\/sc.names.lookup x=some .cell\/sc.names.lookup x=some .free
def Loc(sc:Scope)(x:Str):Prop:=sc.names.lookup x=some .local\/sc.names.lookup x=some .cell
def aVC(env:Env)(h:H9)(m:Str->O9 V9)(x:Str)(u:V9):Prop:=
 (env.kindOf x=some .local/\m x=some u)\/((env.kindOf x=some .cell\/env.kindOf x=some .free)/\∃ c,env.cells.lookup x=some c/\h.IsCell c (some u))
structure Cx.Ok(X:Cx):Prop where
 mod:Mod X.K X.mg X.base
 kind:X.env.scope.kind=.function
 glob:X.env.globals=mainGlobals
 blt:X.env.builtins=builtinsNs
 above:X.s₀.heap.objs.size<=X.env.locals
 inj:∀ x y c,X.env.cells.lookup x=some c->X.env.cells.lookup y=some c->x=y
 has:∀ x,(X.env.kindOf x=some .cell\/X.env.kindOf x=some .free)->∃ c,X.env.cells.lookup x=some c
 cab:∀ x c,X.fn x=true->X.env.cells.lookup x=some c->X.s₀.heap.objs.size<=c
 hd:X.calm=true->X.A.handled=none
 frames:X.A.frames=some X.stack
 stk:X.stack=X.outer\/(X.stack=X.env::X.outer/\X.env.frame=some X.env.locals)
 exf:∀ b∈X.ex,b≠X.env.locals/\∀ x c,X.env.cells.lookup x=some c->c≠b
 bs:∀ b o,X.base.get? b=some o->X.s₀.heap.get? b=some o/\X.H₀ b=none
 bsz:X.base.objs.size<=X.s₀.heap.objs.size
 noex:∀ b o,X.base.get? b=some o->b∉X.ex
 exfs:∀ b∈X.ex,b∉X.fs
 funs:X.s₀.heap.FunFrames X.base X.outer
 frf:∀ b∈X.fs,X.H₀ b=none
structure Inv(X:Cx)(a5:List (Az×Obj))(σ:List (Option V))(H:Hp)(s:S9):Prop where
 ok:X.Ok
 os:s.os=X.s₀.os
 bare:AllBare s.gens
 base:Un X.fs X.ex X.H₀ H X.s₀.heap s.heap
 loc:∃ m,s.heap.Ns X.env.locals m/\∀ (i:Nat) (x:Str) (v:V),X.N[i]? = some x->σ[i]? = some (some v)->Vis X.env.scope x->∃ u,bL v u/\aVC X.env s.heap m x u
 cell:∀ x c,X.env.cells.lookup x=some c->∃ v,s.heap.IsCell c v
 free:H X.env.locals=none
 freeC:∀ x c,X.env.cells.lookup x=some c->H c=none
 pin:∀ p∈X.pn++a5,s.heap.get? p.1=some p.2/\H p.1=none/\p.1≠X.env.locals/\p.1∉X.fs/\∀ v,p.2.data≠.cell v
 hok:HOk X.prog X.w H s.heap
 len:σ.length=X.N.length
section
variable{X:Cx}{a5:List (Az×Obj)}{σ:List (O9 V)}{H H':Hp}{s:S9}{h':H9}
def Cx.Ok.nofr(ok:X.Ok){b:Az}{o:Obj}(e:X.base.get? b=some o):b∉X.fs:=fun a=>by
 have:=(ok.funs.mem a).1
 rw[e] at this;cases this
def Inv.bs(I:Inv X a5 σ H s):∀ b o,X.base.get? b=some o->s.heap.get? b=some o/\H b=none:=fun b o e=>
 ⟨I.base.keep b o (I.ok.bs b o e).1 (I.ok.bs b o e).2 (I.ok.nofr e) (I.ok.noex b o e),I.base.free b o (I.ok.bs b o e).1 (I.ok.bs b o e).2 (I.ok.noex b o e)⟩
def Inv.bk(I:Inv X a5 σ H s):∀ b o,X.base.get? b=some o->s.heap.get? b=some o:=fun b o e=>(I.bs b o e).1
def Inv.mod(I:Inv X a5 σ H s):Mod X.K X.mg X.base:=I.ok.mod
def Inv.kIn(I:Inv X a5 σ H s):X.K.In s.heap:=I.ok.mod.kin.keeps I.bk
def Inv.lt(I:Inv X a5 σ H s):X.env.locals < s.heap.objs.size:=let ⟨_,hn,_⟩:=I.loc;hn.lt
def Inv.sz(I:Inv X a5 σ H s):X.s₀.heap.objs.size<=s.heap.objs.size:=BR I.ok.above (DA I.lt)
def Inv.nofs(I:Inv X a5 σ H s){a:Az}(h:s.heap.objs.size<=a):a∉X.fs:=fun c=>by
 obtain ⟨_,o,b,_⟩:=I.ok.funs.mem c
 exact absurd (A8 (AV b) (BR I.sz h)) (BW _)
def Inv.cne(I:Inv X a5 σ H s):∀ x c,X.env.cells.lookup x=some c->c≠X.env.locals:=fun x c e z=>by
 obtain ⟨v,o,f,d⟩:=I.cell x c e
 obtain ⟨m,⟨o',es,ep,a,b,_⟩,_⟩:=I.loc
 rw[z,a] at f;cases f;rw[b] at d;cases d
def Inv.funs(I:Inv X a5 σ H s):s.heap.FunFrames X.base X.outer:=by
 have all:∀ (l:List Env),(∀ b∈frs l,b∈X.fs)->X.s₀.heap.FunFrames X.base l->s.heap.FunFrames X.base l:=by
  intro l
  induction l with
  | nil=>intro _ _;trivial
  | cons env r ih=>
   intro f i
   obtain ⟨m,⟨L,o,c,h,j,g⟩,k⟩:=i
   have a:L∈X.fs:=f L (by unfold frs;rw[EA,c];exact AS)
   obtain ⟨sl,e⟩:=I.base.slot L o j (I.ok.frf L a) a fun z=>I.ok.exfs L z a
   exact ⟨m,⟨L,_,c,h,e,g⟩,ih (fun b d=>f b (by unfold frs;rw[EA,c];exact AJ _ d)) k⟩
 exact all X.outer (fun _ d=>d) I.ok.funs
def Inv.stack(I:Inv X a5 σ H s):s.heap.FunFrames X.base X.stack:=by
 rcases I.ok.stk with e|⟨e,b⟩
 .rw[e];exact I.funs
 .rw[e]
  obtain ⟨m,a,_⟩:=I.loc
  refine .cons (by rw[I.ok.kind];decide) b a ?_ I.funs
  exact Heap.get?_none_of_le (BR I.ok.bsz I.ok.above)
def Inv.stkSub(I:Inv X a5 σ H s):∀ b∈frs X.stack,b∈X.env.locals::X.fs:=fun b a=>by
 rcases I.ok.stk with e|⟨e,c⟩
 .rw[e] at a;exact AJ _ a
 .rw[e] at a
  unfold frs at a
  rw[EA,c] at a
  exact a
def Inv.stkFree(I:Inv X a5 σ H s):∀ b∈frs X.stack,H b=none:=fun b a=>by
 rcases AT.mp (I.stkSub b a) with e|a
 .rw[e];exact I.free
 .obtain ⟨_,o,c,_⟩:=I.ok.funs.mem a
  exact I.base.free b o c (I.ok.frf b a) fun z=>I.ok.exfs b z a
def Inv.step{g':Array GenState}{t':Nat}{d':Drawn}{ch:List Az}(I:Inv X a5 σ H s)
  (f:∀ b∈ch,(b∈X.ex\/X.s₀.heap.objs.size<=b)/\b≠X.env.locals/\(∀ x c,X.env.cells.lookup x=some c->c≠b)/\∀ p∈X.pn++a5,p.1≠b)
  (keep:∀ b o,b≠X.env.locals->b∉X.fs->b∉ch->s.heap.get? b=some o->H b=none->h'.get? b=some o)
  (slot:∀ b o,b≠X.env.locals->b∈X.fs->b∉ch->s.heap.get? b=some o->H b=none->∃ sl,h'.get? b=some {o with slots:=sl}) (free:∀ b o,b∉ch->s.heap.get? b=some o->H b=none->H' b=none)
  (there:∀ b o,b∉ch->s.heap.get? b=some o->∃ o',h'.get? b=some o')
  (tups:∀ b xs,H b=some (.tup xs)->H' b=some (.tup xs)) (frzs:∀ b o u,H b=some (.frz o u)->H' b=some (.frz o u)) (tbls:∀ b ps,H b=some (.tbl ps)->H' b=some (.tbl ps))
  (ns:∀ m,s.heap.Ns X.env.locals m->h'.Ns X.env.locals m) (hok:HOk X.prog X.w H' h') (hg:AllBare g') :
  Inv X a5 σ H' {s with heap:=h',gens:=g',drawn:=d',toks:=t'}:=by
 have A:∀ b o,X.s₀.heap.get? b=some o->b≠X.env.locals:=fun b o e=>BP (A8 (AV e) I.ok.above)
 have j:∀ b o,X.s₀.heap.get? b=some o->b∉X.ex->b∉ch:=fun b o e a t=>by
  rcases (f b t).1 with z|z
  .exact a z
  .exact absurd (A8 (AV e) z) (BW _)
 have h:∀ x c,X.env.cells.lookup x=some c->∀ v,s.heap.IsCell c v->h'.IsCell c v:=fun x c e v D=>by
  obtain ⟨o,y,B⟩:=D
  have g:c∉ch:=fun z=>(f c z).2.2.1 x c e rfl
  by_cases E:c∈X.fs
  .obtain ⟨sl,q⟩:=slot c o (I.cne x c e) E g y (I.freeC x c e)
   exact ⟨_,q,B⟩
  .exact ⟨o,keep c o (I.cne x c e) E g y (I.freeC x c e),B⟩
 refine ⟨I.ok,I.os,hg,⟨fun b o e n t a=>?_,fun b o e n t a=>?_,fun b o e n a=>?_,fun b o e a=>?_,fun b xs e=>tups b xs (I.base.tups b xs e),fun b o xs e=>frzs b o xs (I.base.frzs b o xs e),fun b ps e=>?_⟩,?_,fun x c e=>?_,?_,fun x c e=>?_,fun p F=>?_,hok,I.len⟩
 .exact keep b o (A b o e) t (j b o e a) (I.base.keep b o e n t a) (I.base.free b o e n a)
 .obtain ⟨sl,e1⟩:=I.base.slot b o e n t a
  obtain ⟨C,e2⟩:=slot b _ (A b o e) t (j b o e a) e1 (I.base.free b o e n a)
  exact ⟨C,e2⟩
 .obtain ⟨o',e1⟩:=I.base.there b o e a
  exact free b o' (j b o e a) e1 (I.base.free b o e n a)
 .obtain ⟨o',e1⟩:=I.base.there b o e a
  exact there b o' (j b o e a) e1
 .exact tbls b ps (I.base.tbls b ps e)
 .obtain ⟨m,K,L⟩:=I.loc
  refine ⟨m,ns m K,fun i x v e1 e2 M=>?_⟩
  obtain ⟨u,r,l⟩:=L i x v e1 e2 M
  refine ⟨u,r,?_⟩
  rcases l with l|⟨k,c,e,z⟩
  .exact .inl l
  .exact .inr ⟨k,c,e,h x c e _ z⟩
 .obtain ⟨v,z⟩:=I.cell x c e
  exact ⟨v,h x c e v z⟩
 .obtain ⟨m,⟨o,_,_,y,_⟩,_⟩:=I.loc
  exact free _ o (fun z=>(f _ z).2.1 rfl) y I.free
 .obtain ⟨v,o,y,B⟩:=I.cell x c e
  exact free c o (fun z=>(f c z).2.2.1 x c e rfl) y (I.freeC x c e)
 .obtain ⟨e,n,J,G,d⟩:=I.pin p F
  have g:p.1∉ch:=fun z=>(f p.1 z).2.2.2 p F rfl
  exact ⟨keep p.1 p.2 J G g e n,free p.1 p.2 g e n,J,G,d⟩
def Inv.un{t':Nat}(I:Inv X a5 σ H s)(u:Un X.fs [] H H' s.heap h')(hok:HOk X.prog X.w H' h'):Inv X a5 σ H' {s with heap:=h',toks:=t'}:=by
 obtain ⟨m,⟨o,es,ep,g,r⟩,_⟩:=id I.loc
 obtain ⟨sl,i⟩:=u.any g I.free (by simp)
 exact I.step (g':=s.gens) (d':=s.drawn) (ch:=[]) (fun _ z=>nomatch z) (fun b o _ d _ e n=>u.keep b o e n d (by simp)) (fun b o _ d _ e n=>u.slot b o e n d (by simp)) (fun b o _ e n=>u.free b o e n (by simp)) (fun b o _ e=>u.there b o e (by simp)) u.tups u.frzs u.tbls (fun k j=>by
  obtain ⟨o',c,f,a,h⟩:=j
  rw[g] at a;cases a
  exact ⟨_,c,f,i,h⟩) hok I.bare
def Inv.call{g':Array GenState}{t':Nat}{d':Drawn}{ch:List Az}(I:Inv X a5 σ H s)(u:Un (frs X.stack) ch H H' s.heap h')(hok:HOk X.prog X.w H' h')(q:AllBare g')
  (f:∀ b∈ch,(b∈X.ex\/X.s₀.heap.objs.size<=b)/\b≠X.env.locals/\(∀ x c,X.env.cells.lookup x=some c->c≠b)/\∀ p∈X.pn++a5,p.1≠b) :
  Inv X a5 σ H' {s with heap:=h',gens:=g',drawn:=d',toks:=t'}:=by
 obtain ⟨m,⟨o,es,ep,j,r⟩,_⟩:=id I.loc
 obtain ⟨sl,g⟩:=u.any j I.free fun z=>(f _ z).2.1 rfl
 exact I.step (ch:=ch) f (fun b o g t a e n=>u.keep b o e n (fun z=>(AT.mp (I.stkSub b z)).elim g t) a) (fun b o _ _ a e n=>u.any e n a) (fun b o a e n=>u.free b o e n a) (fun b o a e=>u.there b o e a) u.tups u.frzs u.tbls (fun v l=>by
  obtain ⟨o',h,i,d,k⟩:=l
  rw[j] at d;cases d
  exact ⟨_,h,i,g,k⟩) hok q
def Inv.turned{t':Nat}{it:Az}(I:Inv X a5 σ H s)(k:∀ b o,b≠it->s.heap.get? b=some o->h'.get? b=some o)(g:H it=none)(f:it≠X.env.locals)
  (h1:it∈X.ex\/X.s₀.heap.objs.size<=it) (h2:∀ x c,X.env.cells.lookup x=some c->c≠it) (h:∀ p∈X.pn++a5,p.1≠it):Inv X a5 σ H {s with heap:=h',toks:=t'}:=by
 have d:∀ b u,H b=some u->b≠it:=fun b u e z=>by rw[z,g] at e;cases e
 refine I.step (g':=s.gens) (d':=s.drawn) (ch:=[it]) (fun b j=>?_) (fun b o _ _ a e _=>k b o (fun z=>a (by simp[z])) e) (fun b o _ _ a e _=>⟨o.slots,k b o (fun z=>a (by simp[z])) e⟩) (fun _ _ _ _ n=>n)
  (fun b o a e=>⟨o,k b o (fun z=>a (by simp[z])) e⟩) (fun _ _ e=>e) (fun _ _ _ e=>e) (fun _ _ e=>e) (fun m i=>?_) (fun b u e=>?_) I.bare
 .have e:b=it:=by simpa using j
  subst e
  exact ⟨h1,f,h2,h⟩
 .obtain ⟨o,es,ep,l,r⟩:=i
  exact ⟨o,es,ep,k _ o (BX f) l,r⟩
 .refine (I.hok b u e).stay (fun c v a q=>k c v ?_ q) (fun _ q=>q) (fun _ _ q=>q) fun _ _ q=>q
  rcases a with z|z
  · rw [z]; exact d b u e
  · exact d c _ z
def Inv.tok(I:Inv X a5 σ H s)(t:Nat):Inv X a5 σ H {s with toks:=t}:=I.un (h':=s.heap) (t':=t) Un.refl I.hok
def Inv.kept{t':Nat}(I:Inv X a5 σ H s)(k:∀ b u,s.heap.get? b=some u->h'.get? b=some u):Inv X a5 σ H {s with heap:=h',toks:=t'}:=I.un (Un.kept k) (I.hok.kept k)
def Inv.laid{a:Az}{o:HO}{t':Nat}(I:Inv X a5 σ H s)(k:∀ b u,s.heap.get? b=some u->h'.get? b=some u)(c:s.heap.objs.size<=a)(new:cX X.prog X.w (upd H a o) h' a o) :
 Inv X a5 σ (upd H a o) {s with heap:=h',toks:=t'}:=I.un (Un.laid k c (I.hok.fresh c)) (I.hok.laid k c new)
def Inv.write{x e:Az}{o:HO}{t':Nat}(I:Inv X a5 σ H s)(d:Mut (H x))(c:e=x\/H e=some (.own x))(k:∀ b u,b≠e->s.heap.get? b=some u->h'.get? b=some u)(a:∃ u,h'.get? e=some u)
 (new:cX X.prog X.w (upd H x o) h' x o):Inv X a5 σ (upd H x o) {s with heap:=h',toks:=t'}:=I.un (Un.write d c k a) (I.hok.write d c k a new)
def Inv.pins_of{pins':List (Az×Obj)}(I:Inv X a5 σ H s)(h:∀ p∈pins',s.heap.get? p.1=some p.2/\H p.1=none/\p.1≠X.env.locals/\p.1∉X.fs/\∀ v,p.2.data≠.cell v):Inv X pins' σ H s:=
 ⟨I.ok,I.os,I.bare,I.base,I.loc,I.cell,I.free,I.freeC,fun p a=>(BK.mp a).elim (fun z=>I.pin p (CG _ z)) (h p),I.hok,I.len⟩
def aB6{N:List Str}(c:N.Nodup){i j:Nat}{x:Str}(a:N[i]? = some x)(b:N[j]? = some x):i=j:=by
 obtain ⟨h1,e1⟩:=AI.mp a
 obtain ⟨h2,e2⟩:=AI.mp b
 exact (List.getElem_inj c).mp (e1.trans e2.symm)
def aAZ{M:Model}{A:U9}{E:V9->S9->Prop}{i:Nat}{x:Str}{v:V}{u:V9}{Q:Unit->S9->Prop}(I:Inv X a5 σ H s)(hN:X.N.Nodup)(hi:X.N[i]? = some x)(hx:Loc X.env.scope x)(r:bL v u)
  (h:∀ s',Inv X a5 (σ.set i (some v)) H s'->(∃ a,Heap.SameBut a s.heap s'.heap/\(a=X.env.locals\/X.env.cells.lookup x=some a))->Q () s') (hf:X.fn x=true\/X.env.scope.names.lookup x=some .local):wpAny M A (storeName X.env x u) Q E s:=by
 obtain ⟨m,U,hl⟩:=id I.loc
 have P:(X.env.scope.kind == .class || (X.env.scope.kind == .module && X.env.locals != X.env.globals))=false:=by rw[I.ok.kind];rfl
 have B:i < σ.length:=by rw[I.len];exact (AI.mp hi).1
 have cne:=I.cne
 have g:∀ {a:Az} {h':H9},(∃ o,s.heap.get? a=some o/\H a=none)->Heap.SameBut a s.heap h'->HOk X.prog X.w H h':=fun {a h'} ha f b ob e=>by
  obtain ⟨_,_,t⟩:=ha
  refine (I.hok b ob e).stay (fun c R l q=>(f.2 c ?_).trans q) (fun _ q=>q) (fun _ _ q=>q) fun _ _ q=>q
  rintro rfl
  rcases l with rfl|l
  .rw[t] at e;cases e
  .rw[t] at l;cases l
 rcases hx with C|C
 .refine wpAny_storeName_local C U (fun h' aa f=>?_) P
  obtain ⟨oL,_,_,W,_⟩:=id U
  refine h _ ⟨I.ok,I.os,I.bare,⟨fun b o e n F hx=>?_,fun b o e n F hx=>?_,I.base.free,fun b o e hx=>?_,I.base.tups,I.base.frzs,I.base.tbls⟩,⟨_,aa,fun j y Z e1 e2 e3=>?_⟩,fun y c e=>?_,I.free,I.freeC,fun p hp=>?_,g ⟨oL,W,I.free⟩ f,by simpa using I.len⟩ ⟨_,f,.inl rfl⟩
  .exact (f.2 b (BP (A8 (AV e) I.ok.above))).trans (I.base.keep b o e n F hx)
  .obtain ⟨sl,e1⟩:=I.base.slot b o e n F hx
   exact ⟨sl,(f.2 b (BP (A8 (AV e) I.ok.above))).trans e1⟩
  .obtain ⟨o',e1⟩:=I.base.there b o e hx
   exact ⟨o',(f.2 b (BP (A8 (AV e) I.ok.above))).trans e1⟩
  .by_cases D:j=i
   .subst D
    rw[hi] at e1;cases e1
    rw[C5 B] at e2
    cases e2
    exact ⟨u,r,.inl ⟨C,by simp⟩⟩
   .rw[B8 (BX D)] at e2
    obtain ⟨Y,r',q⟩:=hl j y Z e1 e2 e3
    refine ⟨Y,r',?_⟩
    rcases q with ⟨k,e⟩|⟨k,c,e,z⟩
    .refine .inl ⟨k,?_⟩
     have:y≠x:=fun e=>D (aB6 hN e1 (e▸hi))
     simp[this,e]
    .exact .inr ⟨k,c,e,z.sameBut f (cne y c e)⟩
  .obtain ⟨R,z⟩:=I.cell y c e
   exact ⟨R,z.sameBut f (cne y c e)⟩
  .obtain ⟨e,n,T,nf,d⟩:=I.pin p hp
   exact ⟨(f.2 p.1 T).trans e,n,T,nf,d⟩
 .have G:X.fn x=true:=by
   rcases hf with z|z
   .exact z
   .rw[z] at C;cases C
  obtain ⟨c,l⟩:=I.ok.has x (.inl C)
  obtain ⟨R,z⟩:=I.cell x c l
  refine wpAny_storeName_cell I.ok.kind C l z (fun h' J f=>?_)
  obtain ⟨oc,K,O⟩:=id z
  refine h {s with heap:=h'} ⟨I.ok,I.os,I.bare,⟨fun b o e n F hx=>?_,fun b o e n F hx=>?_,I.base.free,fun b o e hx=>?_,I.base.tups,I.base.frzs,I.base.tbls⟩,⟨m,U.sameBut f (BX (cne x c l)),fun j y Z e1 e2 e3=>?_⟩,fun y S e=>?_,I.free,I.freeC,fun p hp=>?_,g ⟨oc,K,I.freeC x c l⟩ f,by simpa using I.len⟩ ⟨c,f,.inr l⟩
  .exact (f.2 b (BP (A8 (AV e) (I.ok.cab x c G l)))).trans (I.base.keep b o e n F hx)
  .obtain ⟨sl,e1⟩:=I.base.slot b o e n F hx
   exact ⟨sl,(f.2 b (BP (A8 (AV e) (I.ok.cab x c G l)))).trans e1⟩
  .obtain ⟨o',e1⟩:=I.base.there b o e hx
   exact ⟨o',(f.2 b (BP (A8 (AV e) (I.ok.cab x c G l)))).trans e1⟩
  .by_cases D:j=i
   .subst D
    rw[hi] at e1;cases e1
    rw[C5 B] at e2
    cases e2
    exact ⟨u,r,.inr ⟨.inl C,c,l,J⟩⟩
   .rw[B8 (BX D)] at e2
    obtain ⟨Y,r',q⟩:=hl j y Z e1 e2 e3
    refine ⟨Y,r',?_⟩
    rcases q with q|⟨k,S,e,z'⟩
    .exact .inl q
    .refine .inr ⟨k,S,e,z'.sameBut f ?_⟩
     rintro rfl
     exact D (aB6 hN e1 (I.ok.inj _ _ _ e l▸hi))
  .by_cases L:S=c
   .subst L;exact ⟨_,J⟩
   .obtain ⟨w2,z2⟩:=I.cell y S e
    exact ⟨w2,z2.sameBut f L⟩
  .obtain ⟨e,n,T,nf,d⟩:=I.pin p hp
   refine ⟨(f.2 p.1 ?_).trans e,n,T,nf,d⟩
   intro q
   rw[q,K] at e
   have q':oc=p.2:=BL e
   exact d R (by rw[<-q'];exact O)
def wK{M:Model}{A:U9}{E:V9->S9->Prop}{i:Nat}{x:Str}{v:V}{u:V9}{Q:Unit->S9->Prop}(I:Inv X a5 σ H s)(b:X.N.Nodup)(hi:X.N[i]? = some x)(hx:Loc X.env.scope x)(r:bL v u)
  (h:∀ s',Inv X a5 (σ.set i (some v)) H s'->Q () s') (c:X.fn x=true\/X.env.scope.names.lookup x=some .local):wpAny M A (storeName X.env x u) Q E s:=
 aAZ I b hi hx r (fun s' a _=>h s' a) c
def Inv.call'{s':S9}{ch:List Az}(I:Inv X a5 σ H s)(d:s'.os=s.os)(u:Un (frs X.stack) ch H H' s.heap s'.heap)(hok:HOk X.prog X.w H' s'.heap)(f:AllBare s'.gens)
  (a:∀ b∈ch,(b∈X.ex\/X.s₀.heap.objs.size<=b)/\b≠X.env.locals/\(∀ x c,X.env.cells.lookup x=some c->c≠b)/\∀ p∈X.pn++a5,p.1≠b):Inv X a5 σ H' s':=by
 obtain ⟨h',g',d',t',o'⟩:=s'
 have e:o'=s.os:=d
 subst e
 exact I.call (g':=g') (t':=t') (d':=d') u hok f a
end
abbrev XK:=V9->O9 Az->Hp->Prop
abbrev St:=List (O9 V)
abbrev VK:=V->Hp->Prop
abbrev TE:=St->Hp->VK->Prop
abbrev TT:=St->Hp->(Bool->Hp->Prop)->Prop
abbrev TA:=St->Hp->(List V->Hp->Prop)->Prop
structure oF where
 nx:St->Hp->Prop
 rt:VK
 bk:St->Hp->Prop:=fun _ _=>False
 ct:St->Hp->Prop:=fun _ _=>False
abbrev TS:=oF->St->Hp->Prop
def EP(X:Cx)(a5:List (Az×Obj))(σ:St)(Q:VK)(u:V9)(s':S9):Prop:=∃ v H',Inv X a5 σ H' s'/\bL v u/\Q v H'
def TP(X:Cx)(a5:List (Az×Obj))(σ:St)(Q:Bool->Hp->Prop)(b:Bool)(s':S9):Prop:=∃ H',Inv X a5 σ H' s'/\Q b H'
def AP(X:Cx)(a5:List (Az×Obj))(σ:St)(Q:List V->Hp->Prop)(us:List V9)(s':S9):Prop:=∃ vs H',Inv X a5 σ H' s'/\bY vs us/\Q vs H'
def SP(X:Cx)(a5:List (Az×Obj))(D:oF)(f:Flow)(s':S9):Prop:=
 match f with
 | .next=>∃ σ' H',Inv X a5 σ' H' s'/\D.nx σ' H'
 | .brk=>∃ σ' H',Inv X a5 σ' H' s'/\D.bk σ' H'
 | .cont=>∃ σ' H',Inv X a5 σ' H' s'/\D.ct σ' H'
 | .ret u=>∃ v σ' H',Inv X a5 σ' H' s'/\bL v u/\D.rt v H'
def PE(X:Cx)(e:E3)(t:TE):Prop:=
 ∀ (a5:List (Az×Obj)) (s:S9) (σ:St) (H:Hp) (Q:VK),Inv X a5 σ H s->t σ H Q->wpAny (model X.prog X.w) X.A (eval e X.env) (EP X a5 σ Q) X.xe s
def PT(X:Cx)(e:E3)(t:TT):Prop:=
 ∀ (a5:List (Az×Obj)) (s:S9) (σ:St) (H:Hp) (Q:Bool->Hp->Prop),Inv X a5 σ H s->t σ H Q->wpAny (model X.prog X.w) X.A (isTrue e X.env (eval e X.env)) (TP X a5 σ Q) X.xe s
def PW(X:Cx)(e:E3)(t:TT):Prop:=
 ∀ (whole:Sem V9) (a5:List (Az×Obj)) (s:S9) (σ:St) (H:Hp) (Q:Bool->Hp->Prop),Inv X a5 σ H s->t σ H Q->wpAny (model X.prog X.w) X.A (isTrue e X.env whole) (TP X a5 σ Q) X.xe s
def PW.pt{X:Cx}{e:E3}{t:TT}(h:PW X e t):PT X e t:=h _
def PA(X:Cx)(es:List E3)(t:TA):Prop:=
 ∀ (pos:Pos) (a5:List (Az×Obj)) (s:S9) (σ:St) (H:Hp) (Q:List V->Hp->Prop),Inv X a5 σ H s->t σ H Q->wpAny (model X.prog X.w) X.A (spliced (backTo pos (starEach es X.env))) (AP X a5 σ Q) X.xe s
def PS(X:Cx)(st:Stmt)(t:TS):Prop:=
 ∀ (a5:List (Az×Obj)) (s:S9) (σ:St) (H:Hp) (D:oF),Inv X a5 σ H s->t D σ H->wpAny (model X.prog X.w) X.A (exec st X.env) (SP X a5 D) X.xe s
def PSs(X:Cx)(st:List Stmt)(t:TS):Prop:=
 ∀ (a5:List (Az×Obj)) (s:S9) (σ:St) (H:Hp) (D:oF),Inv X a5 σ H s->t D σ H->wpAny (model X.prog X.w) X.A (execs st X.env) (SP X a5 D) X.xe s
def thn{α:Type}{t:Sem α}{Q b:α->S9->Prop}{M:Model}{A:U9}{E:V9->S9->Prop}{s:S9}(h:wpAny M A t Q E s)(c:∀ a s,Q a s->b a s):wpAny M A t b E s:=B0 h c fun _ _ x=>x
section
variable{X:Cx}
def l8(i:Nat):TE:=fun σ H Q=>∃ v,σ[i]? = some (some v)/\Q v H
def tC(v:V):TE:=fun _ H Q=>Q v H
def aQ3{i:Nat}{x:Str}{pos:Pos}(o:X.N[i]? = some x)(n:Vis X.env.scope x)(f:(x == ("__debug__":Str))=false:=by decide)(hcd:(x == ("__classdict__":Str))=false:=by decide):PE X (.Name x pos) (l8 i):=by
 intro a5 s σ H Q I h
 obtain ⟨v,e,h⟩:=h
 obtain ⟨m,j,k⟩:=I.loc
 obtain ⟨u,r,l⟩:=k i x v o e n
 have b:EP X a5 σ Q u s:=⟨v,H,I,r,h⟩
 rcases l with ⟨d,p⟩|⟨d,c,g,a⟩
 .exact wpAny_Name (wpAny_loadName_local I.ok.kind d j p b) f
 .rcases d with d|d
  · exact wpAny_Name (wpAny_loadName_cell I.ok.kind d g a b) f
  · exact wpAny_Name (wpAny_loadName_free I.ok.kind d g a b hcd) f
def aQ4{i j pos}:PE X (.Constant (.int i) j pos) (tC (.int i)):=fun _ _ _ H _ I h=>wpAny_Constant_int ⟨.int i,H,I.tok _,⟨_,rfl⟩,h⟩
def aT3{b j pos}:PE X (.Constant (.bool b) j pos) (tC (.bl b)):=fun _ _ _ H _ I h=>Constant_bool ⟨.bl b,H,I,rfl,h⟩
def aQ5{j pos}:PE X (.Constant .none j pos) (tC .non):=fun _ _ _ H _ I h=>Constant_none ⟨.non,H,I,rfl,h⟩
def aB7{x j pos}:PE X (.Constant (.str x) j pos) (tC (.str x)):=fun _ _ _ H _ I h=>Calls.Constant_str ⟨.str x,H,I.tok _,⟨_,rfl⟩,h⟩
def Gl(X:Cx)(x:Str):Prop:=X.env.kindOf x=some .globalImplicit
def uU{E:V9->S9->Prop}{a5:List (Az×Obj)}{s:S9}{σ:St}{H:Hp}{x:Str}{u:V9}{pos:Pos}{Q:V9->S9->Prop}(I:Inv X a5 σ H s)(b:Gl X x)(c:X.mg x=some u)(h:Q u s)
  (a:(x == ("__debug__":Str))=false:=by decide):wpAny (model X.prog X.w) X.A (eval (.Name x pos) X.env) Q E s:=
 FU I.ok.kind b (Calls.loadGlobal_global (by rw[I.ok.glob];exact I.mod.glob.keeps I.bk) c h) a
def nI{E:V9->S9->Prop}{a5:List (Az×Obj)}{s:S9}{σ:St}{H:Hp}{x:Str}{u:V9}{pos:Pos}{Q:V9->S9->Prop}(I:Inv X a5 σ H s)(c:Gl X x)(b:X.mg x=none)(d:bootBuiltins x=some u)(h:Q u s)
  (a:x≠"__name__":=by decide) (hd:(x == ("__debug__":Str))=false:=by decide):wpAny (model X.prog X.w) X.A (eval (.Name x pos) X.env) Q E s:=by
 obtain ⟨e,h1,h2⟩:=I.mod.blt
 exact FU I.ok.kind c (Calls.loadGlobal_builtin (by rw[I.ok.glob];exact I.mod.glob.keeps I.bk) b (by rw[I.ok.blt];exact h1.keeps I.bk) ((h2 x a).trans d) h) hd
def oX{x:Str}{v:V}{u:V9}{pos:Pos}(b:Gl X x)(c:X.mg x=some u)(r:bL v u)(a:(x == ("__debug__":Str))=false:=by decide):PE X (.Name x pos) (tC v):=
 fun _ _ _ H _ I h=>uU I b c ⟨v,H,I,r,h⟩ a
def iG{x:Str}{v:V}{u:V9}{pos:Pos}(c:Gl X x)(d:X.mg x=none)(b:bootBuiltins x=some u)(r:bL v u)(a:x≠"__name__":=by decide)(hd:(x == ("__debug__":Str))=false:=by decide):PE X (.Name x pos) (tC v):=
 fun _ _ _ H _ I h=>nI I c d b ⟨v,H,I,r,h⟩ a hd
variable{a b:E3}{ta tb:TE}{pos:Pos}
def PC(X:Cx)(op:CmpOp)(a b:E3)(t:TE):Prop:=
 ∀ (a5:List (Az×Obj)) (s:S9) (σ:St) (H:Hp) (Q:VK),Inv X a5 σ H s->t σ H Q->
  wpAny (model X.prog X.w) X.A (eval a X.env) (fun v s₁=>wpAny (model X.prog X.w) X.A (eval b X.env) (fun u s₂=>wpAny (model X.prog X.w) X.A (compareOp op v u) (EP X a5 σ Q) X.xe s₂) X.xe s₁) X.xe s
def aK1(b:E3){a:CmpOp}(h:a≠.In)(h2:a≠.NotIn):behindInMarks a b=false:=by
 have e1:(a == CmpOp.In)=false:=by cases a<;>first|rfl|exact absurd rfl h
 have e2:(a == CmpOp.NotIn)=false:=by cases a<;>first|rfl|exact absurd rfl h2
 cases b<;>simp[behindInMarks,e1,e2]
def tB(t:TE):TT:=fun σ H Q=>t σ H fun x H1=>∃ c,x=.bl c/\Q c H1
def cO{f:CmpOp}{t:TE}(h:PC X f a b t)(h1:behindInMarks f b=false:=by first|exact aK1 _ (by decide) (by decide)|rfl):PT X (.Compare a [f] [b] pos) (tB t):=by
 intro a5 s σ H Q I j
 refine wpAny_isTrue_Compare1 (thn (h a5 s σ H _ I j) fun v s1 h1=>thn h1 fun u l h2=>thn h2 fun c k e=>?_) h1
 obtain ⟨x,H1,g,r1,i⟩:=e
 obtain ⟨d,rfl,q⟩:=i
 cases r1
 exact DE ⟨H1,g,q⟩
def eK{e:E3}{t:TE}(h:PE X e t)(g:∀ whole,isTrue e X.env whole=(do let v <-whole;standAt e.pos;holding [v] (truthy v)):=by intro _;rfl):PT X e (tB t):=by
 intro a5 s σ H Q I f
 refine isTrue_plain (thn (h a5 s σ H _ I f) fun v s1 a=>?_) (g _)
 obtain ⟨x,H1,b,r1,c⟩:=a
 obtain ⟨d,rfl,q⟩:=c
 cases r1
 exact DE ⟨H1,b,q⟩
variable{tA tB':TT}{rest:List E3}
def aQ6(t u:TT):TT:=fun σ H Q=>t σ H fun c H1=>if c=true then u σ H1 Q else Q false H1
def tOr(t u:TT):TT:=fun σ H Q=>t σ H fun c H1=>if c=true then Q true H1 else u σ H1 Q
def aVD(t:TT):TT:=fun σ H Q=>t σ H fun c H1=>Q (!c) H1
def mL(b:PT X a tA):PW X (.BoolOp .And [a] pos) tA:=by
 intro d a5 s σ H Q I h
 refine isTrue_and (thn (b a5 s σ H Q I h) fun c s1 e=>?_)
 cases c with
 | true=>exact isTrue_and_nil e
 | false=>exact e
def lD(b:PT X a tA):PW X (.BoolOp .Or [a] pos) tA:=by
 intro d a5 s σ H Q I h
 refine isTrue_or (thn (b a5 s σ H Q I h) fun c s1 e=>?_)
 cases c with
 | false=>exact isTrue_or_nil e
 | true=>exact e
def nJ(g:PT X a tA)(j:PW X (.BoolOp .And (b::rest) pos) tB'):PW X (.BoolOp .And (a::b::rest) pos) (aQ6 tA tB'):=by
 intro i a5 s σ H Q I h
 refine isTrue_and (thn (g a5 s σ H _ I h) fun c s1 d=>?_)
 obtain ⟨H1,e,f⟩:=d
 cases c with
 | true=>exact j i a5 s1 σ H1 Q e f
 | false=>exact ⟨H1,e,f⟩
def jI(g:PT X a tA)(j:PW X (.BoolOp .Or (b::rest) pos) tB'):PW X (.BoolOp .Or (a::b::rest) pos) (tOr tA tB'):=by
 intro i a5 s σ H Q I h
 refine isTrue_or (thn (g a5 s σ H _ I h) fun c s1 d=>?_)
 obtain ⟨H1,e,f⟩:=d
 cases c with
 | true=>exact ⟨H1,e,f⟩
 | false=>exact j i a5 s1 σ H1 Q e f
def gB(b:PT X a tA):PT X (.UnaryOp .Not a pos) (aVD tA):=by
 intro a5 s σ H Q I h
 exact isTrue_not (b a5 s σ H (fun c H1=>Q (!c) H1) I h)
def aT4(ta tb:TE):TE:=fun σ H Q=>ta σ H fun x H1=>∃ c,x=.bl c/\if c=true then tb σ H1 Q else Q (.bl false) H1
def aT5(ta:TE):TE:=fun σ H Q=>ta σ H fun x H1=>∃ c,x=.bl c/\Q (.bl (!c)) H1
def aQ7{op}{t:TE}(h:PE X a t):PE X (.BoolOp op [a] pos) t:=fun a5 s σ H Q I b=>BoolOp_one (h a5 s σ H Q I b)
def aQ8(g:PE X a ta)(i:PE X (.BoolOp .And (b::rest) pos) tb):PE X (.BoolOp .And (a::b::rest) pos) (aT4 ta tb):=by
 intro a5 s σ H Q I h
 refine BoolOp_and (thn (g a5 s σ H _ I h) fun v s1 e=>?_)
 obtain ⟨x,H1,f,r1,d⟩:=e
 obtain ⟨c,rfl,d⟩:=d
 cases r1
 refine DE ?_
 cases c with
 | true=>exact i a5 s1 σ H1 Q f d
 | false=>exact ⟨.bl false,H1,f,rfl,d⟩
def aQ9(f:PE X a ta):PE X (.UnaryOp .Not a pos) (aT5 ta):=by
 intro a5 s σ H Q I h
 refine UnaryOp_ (thn (f a5 s σ H _ I h) fun v s1 d=>?_)
 obtain ⟨x,H1,e,r1,b⟩:=d
 obtain ⟨c,rfl,b⟩:=b
 cases r1
 exact not_of (DE ⟨.bl (!c),H1,e,rfl,b⟩)
def tIf(t:TT)(ta tb:TE):TE:=fun σ H Q=>t σ H fun c H1=>if c=true then ta σ H1 Q else tb σ H1 Q
def aK2{c:E3}(k:PT X c tA)(i:PE X a ta)(j:PE X b tb):PE X (.IfExp c a b pos) (tIf tA ta tb):=by
 intro a5 s σ H Q I h
 refine wpAny_IfExp (thn (k a5 s σ H _ I h) fun d s1 e=>?_)
 obtain ⟨H1,f,g⟩:=e
 cases d with
 | true=>exact i a5 s1 σ H1 Q f g
 | false=>exact j a5 s1 σ H1 Q f g
end
def SqL(K:Frag)(H:Hp)(a:Az)(xs:List V):Prop:=
 Rd H a (.lst xs) \/
  ∃ (o:Obj) (its:Array V9) (n:Nat),K.lookup a=some o/\o.cls=.type "list"/\o.dict=none/\o.data=.seq its n/\its.size<=sizeLine/\bY xs its.toList
def SqT(K:Frag)(H:Hp)(a:Az)(xs:List V):Prop:=
 Rd H a (.tup xs) \/
  ∃ (o:Obj) (its:Array V9) (n:Nat),K.lookup a=some o/\o.cls=.type "tuple"/\o.data=.seq its n/\its.size<=sizeLine/\bY xs its.toList
def aVE:V9->O9 V
 | .none=>some .non
 | .bool b=>some (.bl b)
 | .int i _=>some (.int i)
 | .str x _=>some (.str x)
 | .bytes b _=>some (.byt b)
 | .float b _=>some (.flt b)
 | .ref a=>some (.ref a)
 | .type n=>some (.ty n)
 | _=>none
def bL.abs{x:V}{u:V9}(r:bL x u):aVE u=some x:=by
 cases x with
 | non=>cases r;rfl
 | bl _=>cases r;rfl
 | int _=>obtain ⟨t,rfl⟩:=r;rfl
 | str _=>obtain ⟨t,rfl⟩:=r;rfl
 | byt _=>obtain ⟨t,rfl⟩:=r;rfl
 | flt _=>obtain ⟨t,rfl⟩:=r;rfl
 | ref _=>cases r;rfl
 | ty _=>cases r;rfl
def bL.inj{x y:V}{u:V9}(r:bL x u)(q:bL y u):x=y:=BL (r.abs.symm.trans q.abs)
theorem bY.inj:∀ {xs ys:List V} {us:List V9},bY xs us->bY ys us->xs=ys
 | _,_,_,.nil,.nil=>rfl
 | _,_,_,.cons r t,.cons r' t'=>by rw[r.inj r',bY.inj t t']
section
variable{X:Cx}{a5:List (Az×Obj)}{σ:St}{H:Hp}{s:S9}{a:Az}{xs ys:List V}
def SqL.of{K:Frag}(h:H a=some (.lst xs)):SqL K H a xs:=.inl (.inl h)
def SqT.of{K:Frag}(h:H a=some (.tup xs)):SqT K H a xs:=.inl (.inl h)
def Inv.list(I:Inv X a5 σ H s)(h:SqL X.K H a xs):∃ its:List V9,bY xs its/\PlainL s.heap a its.toArray/\xs.length<=sizeLine:=by
 rcases h with h|⟨o,its,n,f,d,b,c,g,r⟩
 .obtain ⟨z,its,n,r,e⟩:=h.ok I.hok
  exact ⟨its,r,⟨_,n,e,rfl,rfl,rfl⟩,z⟩
 .refine ⟨its.toList,r,⟨o,n,I.kIn a o f,d,b,by simpa using c⟩,?_⟩
  have e:=r.length
  simp only[DG] at e
  omega
def Inv.tuple(I:Inv X a5 σ H s)(h:SqT X.K H a xs):∃ its:List V9,bY xs its/\IsTup s.heap a its.toArray/\xs.length<=sizeLine:=by
 rcases h with h|⟨o,its,n,b,d,c,f,r⟩
 .obtain ⟨z,its,r,p⟩:=h.ok I.hok
  exact ⟨its,r,p,z⟩
 .refine ⟨its.toList,r,⟨o,I.kIn a o b,d,n,by simpa using c⟩,?_⟩
  have e:=r.length
  simp only[DG] at e
  omega
def Inv.list_inj(I:Inv X a5 σ H s)(h:SqL X.K H a xs)(h':SqL X.K H a ys):xs=ys:=by
 obtain ⟨c,r,⟨o,n,e,_,_,d⟩,_⟩:=I.list h
 obtain ⟨b,i,⟨o',j,g,_,_,f⟩,_⟩:=I.list h'
 rw[e] at g;cases g
 rw[d] at f
 injection f with d1 _
 have:c=b:=by simpa using congrArg Array.toList d1
 subst this
 exact r.inj i
def Inv.tuple_inj(I:Inv X a5 σ H s)(h:SqT X.K H a xs)(h':SqT X.K H a ys):xs=ys:=by
 obtain ⟨c,r,⟨o,e,_,n,d⟩,_⟩:=I.tuple h
 obtain ⟨b,i,⟨o',g,_,j,f⟩,_⟩:=I.tuple h'
 rw[e] at g;cases g
 rw[d] at f
 injection f with d1 _
 have:c=b:=by simpa using congrArg Array.toList d1
 subst this
 exact r.inj i
end
abbrev Cx.wish(X:Cx)(E:V9->S9->Prop):Cx:={X with xe:=E}
abbrev Cx.nox(X:Cx):Cx:=X.wish fun _ _=>False
def Cx.Ok.wish{X:Cx}(ok:X.Ok)(E:V9->S9->Prop):(X.wish E).Ok:=
 ⟨ok.mod,ok.kind,ok.glob,ok.blt,ok.above,ok.inj,ok.has,ok.cab,ok.hd,ok.frames,ok.stk,ok.exf,ok.bs,ok.bsz,ok.noex,ok.exfs,ok.funs,ok.frf⟩
def Cx.Ok.unwish{X:Cx}{E:V9->S9->Prop}(ok:(X.wish E).Ok):X.Ok:=
 ⟨ok.mod,ok.kind,ok.glob,ok.blt,ok.above,ok.inj,ok.has,ok.cab,ok.hd,ok.frames,ok.stk,ok.exf,ok.bs,ok.bsz,ok.noex,ok.exfs,ok.funs,ok.frf⟩
section
variable{X:Cx}{a5:List (Az×Obj)}{σ:St}{H:Hp}{s:S9}{E:V9->S9->Prop}
def Inv.wish(I:Inv X a5 σ H s)(E:V9->S9->Prop):Inv (X.wish E) a5 σ H s:=⟨I.ok.wish E,I.os,I.bare,I.base,I.loc,I.cell,I.free,I.freeC,I.pin,I.hok,I.len⟩
def Inv.unwish(I:Inv (X.wish E) a5 σ H s):Inv X a5 σ H s:=⟨I.ok.unwish,I.os,I.bare,I.base,I.loc,I.cell,I.free,I.freeC,I.pin,I.hok,I.len⟩
def SP.unwish{D:oF}{f:Flow}{s':S9}(h:SP (X.wish E) a5 D f s'):SP X a5 D f s':=by
 cases f with
 | next=>obtain ⟨a,H',I,q⟩:=h;exact ⟨a,H',I.unwish,q⟩
 | brk=>obtain ⟨a,H',I,q⟩:=h;exact ⟨a,H',I.unwish,q⟩
 | cont=>obtain ⟨a,H',I,q⟩:=h;exact ⟨a,H',I.unwish,q⟩
 | ret u=>obtain ⟨v,a,H',I,r,q⟩:=h;exact ⟨v,a,H',I.unwish,r,q⟩
def PE.nox{e:E3}{t:TE}(h:PE X.nox e t):PE X e t:=fun a5 s σ H Q I b=>
 B0 (h a5 s σ H Q (I.wish _) b) (fun _ _ ⟨v,H',a,r,q⟩=>⟨v,H',a.unwish,r,q⟩) fun _ _ z=>False.elim z
def PT.nox{e:E3}{t:TT}(h:PT X.nox e t):PT X e t:=fun a5 s σ H Q I b=>
 B0 (h a5 s σ H Q (I.wish _) b) (fun _ _ ⟨H',a,q⟩=>⟨H',a.unwish,q⟩) fun _ _ z=>False.elim z
def PSs.nox{st:List Stmt}{t:TS}(h:PSs X.nox st t):PSs X st t:=fun a5 s σ H D I a=>
 B0 (h a5 s σ H D (I.wish _) a) (fun _ _ q=>q.unwish) fun _ _ z=>False.elim z
end
section
variable{X:Cx}{st:Stmt}{rest:List Stmt}{t u:TS}{e:E3}{te:TE}{pos:Pos}
def aT6:TS:=fun D σ H=>D.nx σ H
def aVF(t u:TS):TS:=fun D σ H=>t {D with nx:=u D} σ H
def cS:PSs X [] aT6:=fun _ _ σ H _ I h=>E5 ⟨σ,H,I,h⟩
def aD(h1:PS X st t)(h2:PSs X rest u):PSs X (st::rest) (aVF t u):=by
 intro a5 s σ H D I h
 refine wpAny_execs_cons (thn (h1 a5 s σ H {D with nx:=u D} I h) fun f s1 q=>?_)
 cases f with
 | next=>
  obtain ⟨a,H',b,q⟩:=q
  exact h2 a5 s1 a H' D b q
 | ret v=>exact q
 | brk=>exact q
 | cont=>exact q
def aN(h1:PS X st t):PSs X [st] t:=by
 intro a5 s σ H D I h
 refine wpAny_execs_cons (thn (h1 a5 s σ H D I h) fun f s1 q=>?_)
 cases f with
 | next=>exact E5 q
 | ret v=>exact q
 | brk=>exact q
 | cont=>exact q
def Inv.quiet{a5:List (Az×Obj)}{σ:St}{H:Hp}{s:S9}(I:Inv X a5 σ H s):interactive X.env=false:=by simp[interactive,I.ok.kind]
def aBV(te:TE):TS:=fun D σ H=>te σ H fun _ H1=>D.nx σ H1
def gK(d:PE X e te)(c:swapsWith e none pos.line X.env=pure false:=by rfl):PS X (.Expr e pos) (aBV te):=by
 intro a5 s σ H D I h
 exact wpAny_Expr_any (thn (d a5 s σ H _ I h) fun v s1 ⟨x,H1,a,r1,b⟩=>⟨σ,H1,a,b⟩) I.quiet c
def aVG(te:TE):TS:=fun D σ H=>te σ H D.rt
def bE(c:PE X e te):PS X (.Return (some e) pos) (aVG te):=by
 intro a5 s σ H D I h
 exact wpAny_Return_some (thn (c a5 s σ H _ I h) fun v s1 ⟨x,H1,a,r1,b⟩=>⟨x,σ,H1,a,r1,b⟩)
def aVH(c:TT)(t u:TS):TS:=fun D σ H=>c σ H fun b H1=>if b=true then t D σ H1 else u D σ H1
def dY{c:E3}{a b:List Stmt}{tc:TT}(k:PT X c tc)(i:PSs X a t)(j:PSs X b u):PS X (.If c a b pos) (aVH tc t u):=by
 intro a5 s σ H D I h
 refine wpAny_If (thn (k a5 s σ H _ I h) fun d s1 e=>?_)
 obtain ⟨H1,f,g⟩:=e
 cases d with
 | true=>exact i a5 s1 σ H1 D f g
 | false=>exact j a5 s1 σ H1 D f g
end
abbrev TG:=V->St->Hp->(St->Hp->Prop)->Prop
abbrev TGs:=List V->St->Hp->(St->Hp->Prop)->Prop
def PG(X:Cx)(target:E3)(t:TG):Prop:=
 ∀ (a5:List (Az×Obj)) (s:S9) (σ:St) (H:Hp) (v:V) (u:V9) (Q:St->Hp->Prop),Inv X a5 σ H s->bL v u->t v σ H Q->
  wpAny (model X.prog X.w) X.A (assign target X.env u) (fun _ s'=>∃ σ' H',Inv X a5 σ' H' s'/\Q σ' H') X.xe s
def PGs(X:Cx)(ts:List E3)(t:TGs):Prop:=
 ∀ (a5:List (Az×Obj)) (s:S9) (σ:St) (H:Hp) (vs:List V) (us:List V9) (Q:St->Hp->Prop),Inv X a5 σ H s->bY vs us->t vs σ H Q->
  wpAny (model X.prog X.w) X.A (assignInOrder ((assignEach ts X.env).map (·.2)) us) (fun _ s'=>∃ σ' H',Inv X a5 σ' H' s'/\Q σ' H') X.xe s
abbrev aGT:=V->V->V->Hp->(Hp->Prop)->Prop
def aRA(X:Cx)(t:aGT):Prop:=
 ∀ (a5:List (Az×Obj)) (s:S9) (σ:St) (H:Hp) (o i v:V) (ov iv u:V9) (Q:Hp->Prop),Inv X a5 σ H s->bL o ov->bL i iv->bL v u->t o i v H Q->
  wpAny (model X.prog X.w) X.A (setItem ov iv u) (fun _ s'=>∃ H',Inv X a5 σ H' s'/\Q H') X.xe s
section
variable{X:Cx}{pos:Pos}
def l9(i:Nat):TG:=fun v σ H Q=>Q (σ.set i (some v)) H
def bC{i:Nat}{x:Str}(b:X.N.Nodup)(hi:X.N[i]? = some x)(hx:Loc X.env.scope x)(c:X.fn x=true\/X.env.scope.names.lookup x=some .local:=by first|exact .inl rfl|exact .inr rfl):PG X (.Name x pos) (l9 i):=by
 intro a5 s σ H v u Q I r h
 exact wpAny_assign_Name (wK I b hi hx r (fun s' a=>⟨_,H,a,h⟩) c)
def aRB:TGs:=fun vs σ H Q=>vs=[]/\Q σ H
def aM9(t:TG)(u:TGs):TGs:=fun vs σ H Q=>∃ v r,vs=v::r/\t v σ H fun σ' H'=>u r σ' H' Q
def iH:PGs X [] aRB:=by
 intro a5 s σ H vs us Q I r h
 obtain ⟨e,h⟩:=h
 subst e
 cases r
 exact assignInOrder_nil ⟨σ,H,I,h⟩
def cM{e:E3}{es:List E3}{t:TG}{u:TGs}(h1:PG X e t)(h2:PGs X es u)
  (f:(assignEach (e::es) X.env).map (·.2)=assign e X.env::(assignEach es X.env).map (·.2):=by rfl):PGs X (e::es) (aM9 t u):=by
 intro a5 s σ H vs us Q I r h
 obtain ⟨v,g,e1,h⟩:=h
 subst e1
 cases r with
 | cons r rr=>
  rw[f]
  refine assignInOrder_cons (thn (h1 a5 s σ H _ _ _ I r h) fun _ s1 b=>?_)
  obtain ⟨a,H1,c,d⟩:=b
  exact h2 a5 s1 a H1 _ _ Q c rr d
def aRC(K:Frag)(n:Nat)(t:TGs):TG:=fun v σ H Q=>∃ a xs,v=.ref a/\SqT K H a xs/\xs.length=n/\t xs σ H Q
def jU{es:List E3}{k:Nat}{t:TGs}{n:Nat}(p:X.calm=true)(h:PGs X es t)
  (f:(assignEach es X.env).length=n:=by rfl) (hst:(assignEach es X.env).findIdx? (·.1)=none:=by rfl):PG X (.Tuple es k pos) (aRC X.K n t):=by
 intro a5 s σ H v u Q I r c
 obtain ⟨a,xs,e1,m,j,c⟩:=c
 subst e1
 cases r
 obtain ⟨l,d,i,w⟩:=I.tuple m
 refine assign_Tuple_tuple (I.ok.hd p) i (by simp[f,<-j,d.length]) hst fun h' q=>?_
 have g:Inv X a5 σ H {s with heap:=h'}:=I.kept (t':=s.toks) fun b o e=>q b o (BP (AV e)) e
 exact h a5 _ σ H xs _ Q g (by simpa using d) c
def aRD(to ti:TE)(t:aGT):TG:=fun v σ H Q=>to σ H fun o H1=>ti σ H1 fun i H2=>t o i v H2 fun H3=>Q σ H3
def qU{o i:E3}{to b:TE}{t:aGT}(e:PE X o to)(hi:PE X i b)(l:aRA X t)
  (c:∀ v,assign (.Subscript o i pos) X.env v=(do
   let ov <-holding [v] (eval o X.env)
   let iv <-holding [v,ov] (eval i X.env)
   standAt pos
   holding [v,ov,iv] (setItem ov iv v)
   release [v,ov,iv] []):=by intro _;rfl):PG X (.Subscript o i pos) (aRD to b t):=by
 intro a5 s σ H v u Q I r h
 rw[c]
 refine AA (CA (thn (e a5 s σ H _ I h) fun ov s1 a=>?_))
 obtain ⟨x,H1,g,r1,j⟩:=a
 refine AA (CA (thn (hi a5 s1 σ H1 _ g j) fun iv m a=>?_))
 obtain ⟨y,H2,d,r2,f⟩:=a
 refine AA (DT (AA (CA (thn (l a5 m σ H2 x y v ov iv u _ d r1 r2 r f) fun _ p a=>?_))))
 obtain ⟨H3,k,n⟩:=a
 exact wpAny_release ⟨σ,H3,k,n⟩
def nZ(te:TE)(g:TG):TS:=fun D σ H=>te σ H fun x H1=>g x σ H1 D.nx
def iL{tg e:E3}{te:TE}{g:TG}(d:PE X e te)(f:PG X tg g)(i:swapsWithSole [tg] e pos.line X.env=pure false:=by rfl)(hw:swappedStores [tg] e X.env=pure none:=by rfl)
  (h1:(assignEach [tg] X.env).map (·.2)=[assign tg X.env]:=by rfl):PS X (.Assign [tg] e pos) (nZ te g):=by
 intro a5 s σ H D I h
 refine wpAny_Assign_stores (thn (d a5 s σ H _ I h) fun v s1 a=>?_) i hw
 obtain ⟨x,H1,b,r1,c⟩:=a
 rw[h1]
 exact thn (f a5 s1 σ H1 x v _ b r1 c) fun _ j q=>q
def aH{i:Nat}{x:Str}{e:E3}{te:TE}{a:Pos}(g:X.N.Nodup)(hi:X.N[i]? = some x)(hx:Loc X.env.scope x)(k:PE X e te)(j:swapsWith e (some (.Name x a)) pos.line X.env=pure false:=by rfl)(hf:X.fn x=true\/X.env.scope.names.lookup x=some .local:=by exact .inl rfl) :
  PS X (.Assign [.Name x a] e pos) (nZ te (l9 i)):=by
 intro a5 s σ H D I h
 refine wpAny_Assign_Name (thn (k a5 s σ H _ I h) fun v s1 b=>?_) j
 obtain ⟨y,H1,c,r1,d⟩:=b
 exact wK c g hi hx r1 (fun l f=>⟨_,H1,f,d⟩) hf
end
section
variable{X:Cx}{pos:Pos}
def aIB(c:TT)(tb:TS):TS:=fun D σ H=>∃ W:Nat->St->Hp->Prop,(∃ m,W m σ H)/\∀ m σ H,W m σ H->
 c σ H fun b H1=>if b=true then ∃ N:St->Hp->Prop,(∀ σ' H',N σ' H'->∃ m',m' < m/\W m' σ' H')/\tb {D with nx:=N,ct:=N,bk:=D.nx} σ H1 else D.nx σ H1
def dU{c:E3}{body:List Stmt}{tc:TT}{tb:TS}(q:PassesOwn (model X.prog X.w) X.A X.env X.xe)(u:PT X c tc)(x:PSs X body tb):PS X (.While c body [] pos) (aIB tc tb):=by
 intro a5 s σ H D I h
 obtain ⟨W,⟨t,z⟩,d⟩:=h
 refine wpAny_While (codeAny_whileLoop (fun n s'=>∃ σ' H',Inv X a5 σ' H' s'/\W n σ' H') ?_ t ⟨σ,H,I,z⟩)
 rintro n s1 ⟨σ1,H1,I1,w1⟩
 refine DO q (thn (u a5 s1 σ1 H1 _ I1 (d n σ1 H1 w1)) fun b y m=>?_)
 obtain ⟨H2,p,e⟩:=m
 cases b with
 | true=>
  obtain ⟨N,r,e⟩:=e
  rw[AL rfl]
  refine DO q (thn (x a5 y σ1 H2 _ p e) fun f B g=>?_)
  cases f with
  | next=>
   obtain ⟨a,H3,o,j⟩:=g
   obtain ⟨i,k,l⟩:=r a H3 j
   exact ⟨i,k,a,H3,o,l⟩
  | cont=>
   obtain ⟨a,H3,o,j⟩:=g
   obtain ⟨i,k,l⟩:=r a H3 j
   exact ⟨i,k,a,H3,o,l⟩
  | brk=>exact g
  | ret v=>exact g
 | false=>
  rw[AK B9]
  exact E5 ⟨σ1,H2,p,e⟩
end
structure It where
 go:Nat->Hp->Prop
 yld:Nat->Hp->V->Hp->Prop
 stop:Nat->Hp->Prop
def k7(X:Cx)(a5:List (Az×Obj))(H:Hp)(b:Az):Prop:=
 H b=none/\b≠X.env.locals/\b∉X.fs/\(b∈X.ex\/X.s₀.heap.objs.size<=b)/\(∀ x c,X.env.cells.lookup x=some c->c≠b)/\∀ p∈X.pn++a5,p.1≠b
def Inv.fpOk{X:Cx}{a5:List (Az×Obj)}{σ:St}{H H':Hp}{s:S9}{b:Az}(I:Inv X a5 σ H s)(a:s.heap.objs.size<=b)(d:H' b=none):k7 X a5 H' b:=by
 refine ⟨d,DB (A8 I.lt a),I.nofs a,.inr (BR I.sz a),fun x c e z=>?_,fun p f z=>?_⟩
 .obtain ⟨v,q⟩:=I.cell x c e
  exact absurd (A8 q.lt (by rw[z];exact a)) (BW _)
 .exact absurd (A8 (AV (I.pin p f).1) (by rw[z];exact a)) (BW _)
structure Turn(P:Program)(w:World)(K:Frag)(tg:Expr)(J:It)(fp:List Az)(it:Az)(tn:Nat->Heap->Prop):Prop where
 mem:it∈fp
 obj:∀ i h,tn i h->∀ b∈fp,∃ o,h.get? b=some o/\∀ v,o.data≠.cell v
 keep:∀ i h h',tn i h->(∀ b∈fp,∀ o,h.get? b=some o->h'.get? b=some o)->tn i h'
 item:∀ (X:Cx),X.prog=P->X.w=w->X.K=K->X.calm=true->∀ (i:Nat) (a5:List (Az×Obj)) (s:S9) (σ:St) (H:Hp) (E:V9->S9->Prop),Inv X a5 σ H s->(∀ b∈fp,k7 X a5 H b)->tn i s.heap->J.go i H->
  wpAny (model P w) X.A (pyNext (.ref it)) (fun r s1=>∃ u,r=some u /\
   wpAny (model P w) X.A (letOwnedTupleGo tg (.ref it) u) (fun _ s2=>∃ x H',Inv X a5 σ H' s2/\bL x u/\J.yld i H x H'/\tn (i+1) s2.heap/\∀ b∈fp,H' b=none) E s1) E s
 done:∀ (X:Cx),X.prog=P->X.w=w->X.K=K->X.calm=true->∀ (i:Nat) (a5:List (Az×Obj)) (s:S9) (σ:St) (H:Hp) (E:V9->S9->Prop),Inv X a5 σ H s->(∀ b∈fp,k7 X a5 H b)->tn i s.heap->J.stop i H->
  wpAny (model P w) X.A (pyNext (.ref it)) (fun r s1=>r=none/\Inv X a5 σ H s1) E s
 self:∀ (A:Around) (i:Nat) (s:S9) (Q:V9->S9->Prop) (E:V9->S9->Prop),tn i s.heap->Q (.ref it) s->wpAny (model P w) A (pyIter (.ref it)) Q E s
abbrev TI:=St->Hp->(It->Hp->Prop)->Prop
def PIE(X:Cx)(a5:List (Az×Obj))(σ:St)(tg:E3)(R:It->Hp->Prop)(itv:V9)(s2:S9):Prop:=
 ∃ (it:Az) (fp:List Az) (tn:Nat->H9->Prop) (J:It) (H':Hp),itv=.ref it/\Inv X a5 σ H' s2/\Turn X.prog X.w X.K tg J fp it tn/\tn 0 s2.heap/\(∀ b∈fp,k7 X a5 H' b)/\R J H'
def PI(X:Cx)(tg iter:E3)(wi:TI):Prop:=
 ∀ (a5:List (Az×Obj)) (s:S9) (σ:St) (H:Hp) (R:It->Hp->Prop),Inv X a5 σ H s->wi σ H R->
  wpAny (model X.prog X.w) X.A (eval iter X.env) (fun v s1=>wpAny (model X.prog X.w) X.A (pyIter v) (PIE X a5 σ tg R) X.xe s1) X.xe s
def aBW {M : Model} {A : U9} {E : V9 -> S9 -> Prop} {s : S9} {tg : E3} {it : Az} {u : V9} {o : Obj} {n : String} {vs : Array V9} {Q : Unit -> S9 -> Prop} (e : s.heap.get? it = some o) (d : o.cls = .type n) (b : o.data = .fields vs)
    (c : ["enumerate", "zip", "dict_itemiterator", "dict_reverseitemiterator", "odict_iterator", "itertools.zip_longest", "itertools.pairwise"].contains n = false) (a : Q () s) : wpAny M A (letOwnedTupleGo tg (.ref it) u) Q E s := by
  unfold letOwnedTupleGo
  cases tg <;> first
    | exact AH a
    | (cases u <;> first
        | exact AH a
        | (refine AA (wpAny_load e ?_)
           rw [d, b]
           show wpAny M A (if (["enumerate", "zip", "dict_itemiterator", "dict_reverseitemiterator", "odict_iterator", "itertools.zip_longest", "itertools.pairwise"].contains n && vs[0]? == some (rawInt _)) = true then _ else _) Q E s
           rw [AK (by intro h; rw [c, Bool.false_and] at h; cases h)]
           exact AH a))
def Itl(K:Frag)(a:Az):It:=
 ⟨fun i H=>∃ xs x,SqL K H a xs/\xs[i]? = some x,fun i H x H'=>H'=H/\∀ xs,SqL K H a xs->xs[i]? = some x,fun i H=>∃ xs,SqL K H a xs/\xs.length<=i⟩
def Itt(K:Frag)(a:Az):It:=
 ⟨fun i H=>∃ xs x,SqT K H a xs/\xs[i]? = some x,fun i H x H'=>H'=H/\∀ xs,SqT K H a xs->xs[i]? = some x,fun i H=>∃ xs,SqT K H a xs/\xs.length<=i⟩
def Itr(lo:Int)(n:Nat):It:=⟨fun i _=>i < n,fun i H x H'=>H'=H/\x=.int (lo+i),fun i _=>n<=i⟩
def aIC{P:P9}{w:W9}{K:Frag}{tg:E3}(a it:Az):Turn P w K tg (Itl K a) [it] it (fun i h=>h.IsListIter it a i) where
 mem:=by simp
 obj:=fun i h st b f=>by
  have e:b=it:=by simpa using f
  subst e
  obtain ⟨o,e,c,d⟩:=st
  exact ⟨o,e,fun v z=>by rw[d] at z;cases z⟩
 keep:=fun i h h' st k=>st.at fun o e=>k it (by simp) o e
 item:=by
  intro X A m n J i a5 s σ H E I l st y
  subst A m n
  obtain ⟨xs,x,j,D⟩:=y
  obtain ⟨C,q,p,O⟩:=I.list j
  obtain ⟨u,N,S⟩:=q.get D
  obtain ⟨t,G,T,B,F,r⟩:=l it (by simp)
  refine wpAny_pyNext_list_item st p.isList (x:=u) (by simpa using N) fun h' g Q=>?_
  have R:Inv X a5 σ H {s with heap:=h'}:=I.turned (t':=s.toks) (fun b o f e=>(Q.2 b f).trans e) t G B F r
  obtain ⟨o,e,c,d⟩:=id g
  exact ⟨u,rfl,aBW (s:={s with heap:=h'}) e c d (by decide) ⟨x,H,R,S,⟨rfl,fun ys L=>by rw[I.list_inj L j];exact D⟩,g,fun b f=>(l b f).1⟩⟩
 done:=by
  intro X A m n J i a5 s σ H E I l st y
  subst A m n
  obtain ⟨xs,j,D⟩:=y
  obtain ⟨C,q,p,O⟩:=I.list j
  obtain ⟨t,G,T,B,F,r⟩:=l it (by simp)
  have U:=q.length
  exact wpAny_pyNext_list_end (I.ok.hd J) st p.isList (by simp;omega) fun h' M=>⟨rfl,I.turned (t':=s.toks) (fun b o f e=>M b o f e) t G B F r⟩
 self:=fun _ _ _ _ _ st h=>wpAny_pyIter_listiter st h
def aGU{P:P9}{w:W9}{K:Frag}{tg:E3}(a it:Az):Turn P w K tg (Itt K a) [it] it (fun i h=>h.IsTupleIter it a i) where
 mem:=by simp
 obj:=fun i h st b f=>by
  have e:b=it:=by simpa using f
  subst e
  obtain ⟨o,e,c,d⟩:=st
  exact ⟨o,e,fun v z=>by rw[d] at z;cases z⟩
 keep:=fun i h h' st k=>st.at fun o e=>k it (by simp) o e
 item:=by
  intro X B n q J i a5 s σ H E I m st A
  subst B n q
  obtain ⟨xs,x,l,D⟩:=A
  obtain ⟨g,r,p,O⟩:=I.tuple l
  obtain ⟨u,N,S⟩:=r.get D
  obtain ⟨y,G,T,C,F,t⟩:=m it (by simp)
  refine wpAny_pyNext_tuple_item st (show s.heap.IsTuple a g.toArray from p) (x:=u) (by simpa using N) fun h' j Q=>?_
  have R:Inv X a5 σ H {s with heap:=h'}:=I.turned (t':=s.toks) (fun b o f e=>(Q.2 b f).trans e) y G C F t
  obtain ⟨o,e,c,d⟩:=id j
  exact ⟨u,rfl,aBW (s:={s with heap:=h'}) e c d (by decide) ⟨x,H,R,S,⟨rfl,fun ys L=>by rw[I.tuple_inj L l];exact D⟩,j,fun b f=>(m b f).1⟩⟩
 done:=by
  intro X B n q J i a5 s σ H E I m st A
  subst B n q
  obtain ⟨xs,l,D⟩:=A
  obtain ⟨g,r,p,O⟩:=I.tuple l
  obtain ⟨y,G,T,C,F,t⟩:=m it (by simp)
  have U:=r.length
  exact wpAny_pyNext_tuple_end (I.ok.hd J) st (show s.heap.IsTuple a g.toArray from p) (by simp;omega) fun h' M=>⟨rfl,I.turned (t':=s.toks) (fun b o f e=>M b o f e) y G C F t⟩
 self:=fun _ _ _ _ _ st h=>wpAny_pyIter_tupleiter st h
def aGV{P:P9}{w:W9}{K:Frag}{tg:E3}(it:Az)(lo:Int)(n:Nat):Turn P w K tg (Itr lo n) [it] it (fun i h=>IsRangeIter h it (lo+(i:Nat) * 1) ((n:Int) - (i:Nat)) 1) where
 mem:=by simp
 obj:=fun i h st b a=>by
  have e:b=it:=by simpa using a
  subst e
  exact ⟨_,st,fun v z=>by
   have C:Data.fields _=Data.cell v:=z
   cases C⟩
 keep:=fun i h h' st k=>k it (by simp) _ st
 item:=by
  intro X f j l m i a5 s σ H E I d st u
  subst f j l
  obtain ⟨r,x,F,g,q,p⟩:=d it (by simp)
  have W:=Walks.range (prog:=X.prog) (w:=X.w) (I.ok.hd m) it lo 1 n
  refine W.item i s _ _ u st fun v h' tk A c B=>?_
  obtain ⟨t,rfl⟩:=A
  have D:Inv X a5 σ H {s with heap:=h',toks:=tk}:=I.turned (fun b o a e=>B b o (by simpa using a) e) r x g q p
  refine ⟨_,rfl,aBW (s:={s with heap:=h',toks:=tk}) (n:="range_iterator") c rfl rfl (by decide) ⟨.int (lo+i),H,D,⟨t,?_⟩,⟨rfl,rfl⟩,c,fun b a=>(d b a).1⟩⟩
  rw[Int.mul_one]
 done:=by
  intro X f j l m i a5 s σ H E I d st u
  subst f j l
  obtain ⟨r,x,F,g,q,p⟩:=d it (by simp)
  exact wpAny_pyNext_range_end (I.ok.hd m) st (by have:n<=i:=u;omega) fun h' y=>⟨rfl,I.turned (t':=s.toks) (fun b o a e=>y b o a e) r x g q p⟩
 self:=fun _ _ _ _ _ st h=>wpAny_pyIter_rangeiter st h
section
variable{X:Cx}{tg:E3}
def aK3{a5:List (Az×Obj)}{σ:St}{H:Hp}{s:S9}{R:It->Hp->Prop}{E:V9->S9->Prop}{lo hi:Int}{t u v:Tok}{tk:Nat}(I:Inv X a5 σ H s)(h1 : -(2 ^ 62)<=lo)(h2:lo < 2 ^ 62)(d : -(2 ^ 62)<=hi)(f:hi < 2 ^ 62)
  (q:R (Itr lo (hi - lo).toNat) H):wpAny (model X.prog X.w) X.A (pyIter (.ref s.heap.objs.size)) (PIE X a5 σ tg R) E {s with heap:=s.heap.push {cls:=.type "range",data:=.fields #[.int lo t,.int hi u,.int 1 v]},toks:=tk}:=by
 refine wpAny_pyIter_range (IsRange.new ..) (small_one h1 h2 d f) ?_
 have a:Inv X a5 σ H {s with heap:=s.heap.push {cls:=.type "range",data:=.fields #[.int lo t,.int hi u,.int 1 v]},toks:=tk}:=I.kept fun b o e=>AE _ e
 refine ⟨(s.heap.push {cls:=.type "range",data:=.fields #[.int lo t,.int hi u,.int 1 v]}).objs.size,[(s.heap.push {cls:=.type "range",data:=.fields #[.int lo t,.int hi u,.int 1 v]}).objs.size],_,_,H,rfl,
  a.kept (t':=tk) fun b o e=>AE _ e,aGV _ lo (hi - lo).toNat,?_,fun b c=>?_,q⟩
 .have e1:lo+((0:Nat):Int) * 1=lo:=by simp
  have e2:(((hi - lo).toNat:Nat):Int) - ((0:Nat):Int)=Builtin.Range.rangeSize lo hi 1:=by rw[rangeSize_one];split<;>omega
  show IsRangeIter _ _ (lo+((0:Nat):Int) * 1) ((((hi - lo).toNat:Nat):Int) - ((0:Nat):Int)) 1
  rw[e1,e2]
  exact A4 _ rfl
 .have e:b=(s.heap.push {cls:=.type "range",data:=.fields #[.int lo t,.int hi u,.int 1 v]}).objs.size:=by simpa using c
  subst e
  exact a.fpOk (AU _) (a.hok.fresh (AU _))
def aNA(ta:TA):TI:=fun σ H R=>ta σ H fun vs H1=>∃ j:Int,vs=[.int j] /\ -(2 ^ 62)<=j/\j < 2 ^ 62/\R (Itr 0 j.toNat) H1
def gC{a:E3}{ta:TA}{p pos:Pos}(g:Gl X "range")(i:X.mg "range"=none)(d:PA X [a] ta)(k:starEach [a] X.env=[(false,eval a X.env)]:=by rfl):PI X tg (.Call (.Name "range" p) [a] [] pos) (aNA ta):=by
 intro a5 s σ H R I h
 refine Call_ (nI I g i boot_range (CZ (thn (d pos a5 s σ H _ I h) fun us s1 c=>?_) k rfl))
 obtain ⟨vs,H1,f,r1,b⟩:=c
 obtain ⟨j,e,b,l,q⟩:=b
 subst e
 cases r1 with
 | cons r rr=>
  cases rr
  obtain ⟨t,rfl⟩:=r
  exact call_range_1 (aK3 f (by omega) (by omega) b l (by simpa using q))
def aRE(wi:TI)(g:TG)(tb:TS):TS:=fun D σ H=>wi σ H fun J H1=>∃ W:Nat->Nat->St->Hp->Prop,(∃ m,W 0 m σ H1)/\∀ i m σ H,W i m σ H->
 (J.stop i H/\D.nx σ H)\/(J.go i H/\∃ N:St->Hp->Prop,(∀ σ' H',N σ' H'->∃ m',m' < m/\W (i+1) m' σ' H')/\∀ x H',J.yld i H x H'->g x σ H' fun σ2 H2=>tb {D with nx:=N,ct:=N,bk:=D.nx} σ2 H2)
def tN(fp:List Az)(h:H9):List (Az×Obj):=fp.filterMap fun b=>(h.get? b).map fun o=>(b,o)
def oK{a:List Az}{h:H9}{b:Az}{o:Obj}(c:b∈a)(e:h.get? b=some o):(b,o)∈tN a h:=DK.mpr ⟨b,c,by rw[e];rfl⟩
def aID{a:List Az}{h:H9}{p:Az×Obj}(f:p∈tN a h):p.1∈a/\h.get? p.1=some p.2:=by
 obtain ⟨b,d,e⟩:=DK.mp f
 cases q:h.get? b with
 | none=>rw[q] at e;cases e
 | some o=>
  rw[q] at e
  have c:(b,o)=p:=BL e
  subst c
  exact ⟨d,q⟩
def Inv.pinned{a5:List (Az×Obj)}{σ:St}{H:Hp}{s:S9}{a:List Az}(I:Inv X a5 σ H s)(i:∀ b∈a,k7 X a5 H b)(l:∀ b∈a,∃ o,s.heap.get? b=some o/\∀ v,o.data≠.cell v):Inv X (a5++tN a s.heap) σ H s:=
 I.pins_of fun p h=>(BK.mp h).elim (fun z=>I.pin p (B4 _ z)) fun z=>by
  obtain ⟨f,e⟩:=aID z
  obtain ⟨g,j,k,_⟩:=i p.1 f
  obtain ⟨o,c,d⟩:=l p.1 f
  rw[e] at c;cases c
  exact ⟨e,g,j,k,d⟩
def Inv.unpinned{a5 pl:List (Az×Obj)}{σ:St}{H:Hp}{s:S9}(I:Inv X (a5++pl) σ H s):Inv X a5 σ H s:=I.pins_of fun p a=>I.pin p (B4 _ (CG _ a))
def dJ{j:E3}{body:List Stmt}{U:TI}{g:TG}{tb:TS}{pos:Pos}(B:PassesOwn (model X.prog X.w) X.A X.env X.xe)(S:X.calm=true)(hi:PI X tg j U)(hg:PG X tg g)(l:PSs X body tb)
  (hs:∀ x,foldedSetIterable j X.env x=pure x:=by intro _;rfl):PS X (.For tg j body [] pos) (aRE U g tb):=by
 intro a5 s σ H D I h
 refine wpAny_For (thn (hi a5 s σ H _ I h) fun v s1 h1=>thn h1 fun aa s2 h2=>?_) hs
 obtain ⟨it,F,Q,J,H2,e,I2,T,P,Y,W,⟨m0,w0⟩,E⟩:=h2
 subst e
 have t:∀ {H':Hp},(∀ b∈F,H' b=none)->∀ b∈F,k7 X a5 H' b:=fun hn b l=>⟨hn b l,(Y b l).2⟩
 refine codeAny_forLoop_any (fun n s'=>∃ i σ' H',Inv X a5 σ' H' s'/\Q i s'.heap/\(∀ b∈F,H' b=none)/\W i n σ' H') ?_ m0 ⟨0,σ,H2,I2,P,fun b l=>(Y b l).1,w0⟩
 rintro n V ⟨i,σ3,H3,I3,st3,fr3,w3⟩
 rcases E i n σ3 H3 w3 with ⟨stop,qn⟩|⟨go,N,hN,step⟩
 .refine DO B (thn (T.done X rfl rfl rfl S i a5 V σ3 H3 X.xe I3 (t fr3) st3 stop) fun r s4 c=>?_)
  obtain ⟨O,I4⟩:=c
  subst O
  exact E5 ⟨σ3,H3,I4,qn⟩
 .refine DO B (thn (T.item X rfl rfl rfl S i a5 V σ3 H3 X.xe I3 (t fr3) st3 go) fun r s4 c=>?_)
  obtain ⟨u,O,h4⟩:=c
  subst O
  refine DO B (thn h4 fun _ R c=>?_)
  obtain ⟨x,H5,I5,r5,y5,z,G⟩:=c
  have K:=I5.pinned (t G) (T.obj _ _ z)
  refine DO B (thn (hg _ R σ3 H5 x u _ K r5 (step x H5 y5)) fun _ Z c=>?_)
  obtain ⟨L,H6,I6,q6⟩:=c
  refine DO B (thn (l _ Z L H6 _ I6 q6) fun f M y=>?_)
  have q:∀ {a:St} {k:Hp},Inv X (a5++tN F R.heap) a k M->N a k->∃ m,m < n/\∃ i σ' H',Inv X a5 σ' H' M/\Q i M.heap/\(∀ b∈F,H' b=none)/\W i m σ' H':=fun {a k} p C=>by
   obtain ⟨m',hm,w7⟩:=hN a k C
   refine ⟨m',hm,i+1,a,k,p.unpinned,T.keep _ _ _ z fun b l o e=>(p.pin (b,o) (B4 _ (B4 _ (oK l e)))).1,fun b l=>?_,w7⟩
   obtain ⟨o,e,d⟩:=T.obj _ _ z b l
   exact (p.pin (b,o) (B4 _ (B4 _ (oK l e)))).2.1
  cases f with
  | next=>obtain ⟨a,k,p,C⟩:=y;exact q p C
  | cont=>obtain ⟨a,k,p,C⟩:=y;exact q p C
  | brk=>obtain ⟨a,k,p,y⟩:=y;exact ⟨a,k,p.unpinned,y⟩
  | ret v=>obtain ⟨x7,a,k,p,r7,y⟩:=y;exact ⟨x7,a,k,p.unpinned,r7,y⟩
end
abbrev R2:=V->V->Hp->VK->Prop
def OpR(X:Cx)(f:V9->V9->Sem V9)(r:R2):Prop:=
 ∀ (a5:List (Az×Obj)) (s:S9) (σ:St) (H:Hp) (x y:V) (v u:V9) (Q:VK),Inv X a5 σ H s->bL x v->bL y u->r x y H Q->
  wpAny (model X.prog X.w) X.A (f v u) (EP X a5 σ Q) X.xe s
def UnR(X:Cx)(f:V9->Sem V9)(r:V->Hp->VK->Prop):Prop:=
 ∀ (a5:List (Az×Obj)) (s:S9) (σ:St) (H:Hp) (x:V) (v:V9) (Q:VK),Inv X a5 σ H s->bL x v->r x H Q->
  wpAny (model X.prog X.w) X.A (f v) (EP X a5 σ Q) X.xe s
def lG(X:Cx)(f:V9)(r:List V->Hp->VK->Prop):Prop:=
 ∀ (a5:List (Az×Obj)) (s:S9) (σ:St) (H:Hp) (xs:List V) (us:List V9) (Q:VK),Inv X a5 σ H s->bY xs us->r xs H Q->
  wpAny (model X.prog X.w) X.A (call f us) (EP X a5 σ Q) X.xe s
def tOp(r:R2)(ta tb:TE):TE:=fun σ H Q=>ta σ H fun x H1=>tb σ H1 fun y H2=>r x y H2 Q
def tUn(r:V->Hp->VK->Prop)(ta:TE):TE:=fun σ H Q=>ta σ H fun x H1=>r x H1 Q
def rI(C:Int->Int->Prop)(g:Int->Int->V):R2:=fun x y H Q=>∃ i j,x=.int i/\y=.int j/\C i j/\Q (g i j) H
def rI0(g:Int->Int->V):R2:=fun x y H Q=>∃ i j,x=.int i/\y=.int j/\Q (g i j) H
def rU(g:Int->V):V->Hp->VK->Prop:=fun x H Q=>∃ i,x=.int i/\Q (g i) H
section
variable{X:Cx}{a b c:E3}{ta tb tc:TE}{pos:Pos}
def aK4(d:PE X a ta)(k:PE X b tb){a5:List (Az×Obj)}{s:S9}{σ:St}{H:Hp}{R:V->V->Hp->Prop}(I:Inv X a5 σ H s)
  (h:ta σ H fun x H1=>tb σ H1 fun y H2=>R x y H2) {Q:V9->S9->Prop} {f:V9->V9->Sem V9}
  (j:∀ v u s2 x y H2,Inv X a5 σ H2 s2->bL x v->bL y u->R x y H2->wpAny (model X.prog X.w) X.A (f v u) Q X.xe s2) :
  wpAny (model X.prog X.w) X.A (eval a X.env) (fun v s₁=>wpAny (model X.prog X.w) X.A (eval b X.env) (fun u s₂=>wpAny (model X.prog X.w) X.A (f v u) Q X.xe s₂) X.xe s₁) X.xe s:=by
 refine thn (d a5 s σ H _ I h) fun v s1 c=>?_
 obtain ⟨x,H1,e,r1,g⟩:=c
 refine thn (k a5 s1 σ H1 _ e g) fun u s2 c=>?_
 obtain ⟨y,H2,i,r2,l⟩:=c
 exact j v u s2 x y H2 i r1 r2 l
def aT7{c:Operator}{r:R2}(g:OpR X (binaryOp c) r)(d:PE X a ta)(f:PE X b tb):PE X (.BinOp a c b pos) (tOp r ta tb):=by
 intro a5 s σ H Q I h
 exact wpAny_BinOp (aK4 d f I h fun v u j x y H2 e k i q=>g a5 j σ H2 x y v u Q e k i q)
def aT8{b:UnaryOp}{r:V->Hp->VK->Prop}(f:UnR X (unaryOp b) r)(d:PE X a ta):PE X (.UnaryOp b a pos) (tUn r ta):=by
 intro a5 s σ H Q I h
 exact UnaryOp_ (thn (d a5 s σ H _ I h) fun v s1 ⟨x,H1,c,r1,e⟩=>f a5 s1 σ H1 x v Q c r1 e)
def opI{f:V9->V9->Sem V9}{C:Int->Int->Prop}{g:Int->Int->Int}
  (a:∀ (i j:Int) (t u:Tok) (s:S9) (Q:V9->S9->Prop) (E:V9->S9->Prop),C i j->Q (.int (g i j) s.toks) {s with toks:=s.toks+1}->wpAny (model X.prog X.w) X.A (f (.int i t) (.int j u)) Q E s) :
  OpR X f (rI C fun i j=>.int (g i j)):=by
 intro a5 s σ H x y v u Q I e d h
 obtain ⟨i,j,rfl,rfl,c,q⟩:=h
 obtain ⟨t,rfl⟩:=e
 obtain ⟨b,rfl⟩:=d
 exact a i j t b s _ _ c ⟨.int (g i j),H,I.tok _,⟨_,rfl⟩,q⟩
def aRF{f:V9->V9->Sem V9}{g:Int->Int->Int}
  (a:∀ (i j:Int) (t u:Tok) (s:S9) (Q:V9->S9->Prop) (E:V9->S9->Prop),Q (.int (g i j) s.toks) {s with toks:=s.toks+1}->wpAny (model X.prog X.w) X.A (f (.int i t) (.int j u)) Q E s) :
  OpR X f (rI0 fun i j=>.int (g i j)):=by
 intro a5 s σ H x y v u Q I d c h
 obtain ⟨i,j,rfl,rfl,q⟩:=h
 obtain ⟨t,rfl⟩:=d
 obtain ⟨b,rfl⟩:=c
 exact a i j t b s _ _ ⟨.int (g i j),H,I.tok _,⟨_,rfl⟩,q⟩
def aGW{f:V9->V9->Sem V9}{g:Int->Int->Bool}
  (a:∀ (i j:Int) (t u:Tok) (s:S9) (Q:V9->S9->Prop) (E:V9->S9->Prop),Q (.bool (g i j)) s->wpAny (model X.prog X.w) X.A (f (.int i t) (.int j u)) Q E s) :
  OpR X f (rI0 fun i j=>.bl (g i j)):=by
 intro a5 s σ H x y v u Q I d c h
 obtain ⟨i,j,rfl,rfl,q⟩:=h
 obtain ⟨t,rfl⟩:=d
 obtain ⟨b,rfl⟩:=c
 exact a i j t b s _ _ ⟨.bl (g i j),H,I,rfl,q⟩
def aK5(i j:Int):Prop:=(-(2 ^ 64) < i/\i < 2 ^ 64)\/(-(2 ^ 64) < j/\j < 2 ^ 64)
def aK5.ok{i j:Int}(h:aK5 i j):IntMulOk i j:=by
 rcases h with ⟨h1,h2⟩|⟨h1,h2⟩
 · exact .of_left (intBits_le_64 h1 h2)
 · exact .of_right (intBits_le_64 h1 h2)
def aRG:OpR X (binaryOp .Add) (rI0 fun i j=>.int (i+j)):=aRF fun _ _ _ _ _ _ _ q=>add_int q
def aRH:OpR X (binaryOp .Sub) (rI0 fun i j=>.int (i - j)):=aRF fun _ _ _ _ _ _ _ q=>sub_int q
def aRI:OpR X (binaryOp .Mult) (rI aK5 fun i j=>.int (i * j)):=opI fun _ _ _ _ _ _ _ a q=>mul_int q a.ok
def aRJ:OpR X (binaryOp .Mod) (rI (fun _ j=>0 < j) fun i j=>.int (i % j)):=opI fun i j _ _ _ _ _ a q=>by
 have h1:(0:Int) < j:=a
 exact mod_int' (by omega) (by rw[Int.fmod_eq_emod_of_nonneg i (by omega)];exact q)
def unI{f:V9->Sem V9}{g:Int->Int}
  (a:∀ (i:Int) (t:Tok) (s:S9) (Q:V9->S9->Prop) (E:V9->S9->Prop),Q (.int (g i) s.toks) {s with toks:=s.toks+1}->wpAny (model X.prog X.w) X.A (f (.int i t)) Q E s) :
  UnR X f (rU fun i=>.int (g i)):=by
 intro a5 s σ H x v Q I b h
 obtain ⟨i,rfl,q⟩:=h
 obtain ⟨t,rfl⟩:=b
 exact a i t s _ _ ⟨.int (g i),H,I.tok _,⟨_,rfl⟩,q⟩
def aRK:UnR X (unaryOp .USub) (rU fun i=>.int (-i)):=unI fun _ _ _ _ _ q=>neg_int q
end
section
variable{X:Cx}{a b c:E3}{ta tb tc:TE}{pos:Pos}
def aB8{a5:List (Az×Obj)}{σ:St}{H:Hp}{s:S9}{Q:VK}{k a:Bool}(I:Inv X a5 σ H s)(q:Q (.bl k) H)(e:k=a):EP X a5 σ Q (.bool a) s:=by
 subst e
 exact ⟨.bl k,H,I,rfl,q⟩
def aT9:OpR X (compareOp .Lt) (rI0 fun i j=>.bl (decide (i < j))):=aGW fun _ _ _ _ _ _ _ q=>lt_int q
def aUA:OpR X (compareOp .LtE) (rI0 fun i j=>.bl (decide (i<=j))):=aGW fun _ _ _ _ _ _ _ q=>le_int q
def aUB:OpR X (compareOp .Gt) (rI0 fun i j=>.bl (decide (j < i))):=aGW fun _ _ _ _ _ _ _ q=>gt_int q
def aUC:OpR X (compareOp .GtE) (rI0 fun i j=>.bl (decide (j<=i))):=aGW fun _ _ _ _ _ _ _ q=>ge_int q
def aIE:OpR X (compareOp .In) (fun x y H Q=>∃ i j,x=.str i/\y=.str j/\Q (.bl (!(Builtin.Str.occurrences j i 0 j.length 1).isEmpty)) H):=by
 intro a5 s σ H x y v u Q I b a h
 obtain ⟨i,j,rfl,rfl,q⟩:=h
 obtain ⟨t,rfl⟩:=b
 obtain ⟨c,rfl⟩:=a
 exact in_str (aB8 I q rfl)
def aRL:OpR X (compareOp .Is) (fun x y H Q=>y=.non/\Q (.bl (decide (x=.non))) H):=by
 intro a5 s σ H x y v u Q I a b h
 obtain ⟨rfl,q⟩:=h
 cases b
 refine is_none_gen (aB8 I q ?_)
 cases x<;>first
  | (cases a;rfl)
  | (obtain ⟨t,rfl⟩:=a;rfl)
def aN3:OpR X (compareOp .IsNot) (fun x y H Q=>y=.non/\Q (.bl (!decide (x=.non))) H):=by
 intro a5 s σ H x y v u Q I a b h
 obtain ⟨rfl,q⟩:=h
 cases b
 refine isnot_none_gen (aB8 I q ?_)
 cases x<;>first
  | (cases a;rfl)
  | (obtain ⟨t,rfl⟩:=a;rfl)
def b7(b:E3){a:CmpOp}(h:a≠.In:=by decide)(h2:a≠.NotIn:=by decide):behindInMarks a b=false:=by
 have e1:(a == CmpOp.In)=false:=by cases a<;>first|rfl|exact absurd rfl h
 have e2:(a == CmpOp.NotIn)=false:=by cases a<;>first|rfl|exact absurd rfl h2
 cases b<;>simp[behindInMarks,e1,e2]
def aN4{c:CmpOp}{r:R2}(i:OpR X (compareOp c) r)(d:PE X a ta)(g:PE X b tb)(f:behindInMarks c b=false):PE X (.Compare a [c] [b] pos) (tOp r ta tb):=by
 intro a5 s σ H Q I h
 exact wpAny_Compare1 (aK4 d g I h fun v u k x y H2 e l j q=>i a5 k σ H2 x y v u Q e l j q) f
def aNB(t:TE):TT:=fun σ H Q=>t σ H fun x H'=>∃ k,x=.bl k/\Q k H'
def mM{d:CmpOp}{r:R2}(j:OpR X (compareOp d) r)(f:PE X a ta)(q:PE X b tb)(i:behindInMarks d b=false):PT X (.Compare a [d] [b] pos) (aNB (tOp r ta tb)):=by
 intro a5 s σ H Q I h
 refine wpAny_isTrue_Compare1 (thn (f a5 s σ H _ I h) fun v s1 ⟨x,H1,n,r1,o⟩=>thn (q a5 s1 σ H1 _ n o) fun u t ⟨y,H2,g,r2,l⟩=>
  thn (j a5 t σ H2 x y v u _ g r1 r2 l) fun c A ⟨z,H3,p,m,k,e,w⟩=>?_) i
 subst e
 cases m
 exact DE ⟨H3,p,w⟩
def tChain(r r':R2)(ta tb tc:TE):TE:=fun σ H Q=>ta σ H fun x H1=>tb σ H1 fun y H2=>r x y H2 fun z H3=>∃ k,z=.bl k /\
 (if k=true then tc σ H3 fun w' H4=>r' y w' H4 Q else Q (.bl false) H3)
def aK6{g f:CmpOp}{r j:R2}(G:OpR X (compareOp g) r)(i:OpR X (compareOp f) j)(B:PE X a ta)(A:PE X b tb)(p:PE X c tc)
  (F:lastMarks [g,f] [b,c]=false:=by with_unfolding_all rfl):PE X (.Compare a [g,f] [b,c] pos) (tChain r j ta tb tc):=by
 intro a5 s σ H Q I h
 refine Compare_chain (thn (B a5 s σ H _ I h) fun v s1 ⟨x,H1,L,r1,t⟩=>chain_link (thn (A a5 s1 σ H1 _ L t) fun u N ⟨y,H2,C,r2,J⟩=>
  thn (G a5 N σ H2 x y v u _ C r1 r2 J) fun d M ⟨z,H3,l,K,k,e,m⟩=>?_)) F
 subst e
 cases K
 refine DE ?_
 cases k with
 | false=>exact ite_ff ⟨.bl false,H3,l,rfl,m⟩
 | true=>exact ite_tt (chain_last (thn (p a5 M σ H3 _ l m) fun n w ⟨E,H4,D,q,o⟩=>i a5 w σ H4 y E u n Q D r2 q o))
def xJ:(sizeLine:Nat) < 2 ^ 63:=by rw[GV];decide
def aGX:OpR X (binaryOp .Add) (fun x y H Q=>∃ i j,x=.str i/\y=.str j/\i.length+j.length<=sizeLine/\Q (.str (i++j)) H):=by
 intro a5 s σ H x y v u Q I d c h
 obtain ⟨i,j,rfl,rfl,b,q⟩:=h
 obtain ⟨t,rfl⟩:=d
 obtain ⟨a,rfl⟩:=c
 exact add_str (fun a tk=>⟨.str (i++j),H,I.tok _,⟨_,rfl⟩,q⟩) b
def oM{x:V}{us:List V9}(r:bY [x] us):∃ u,us=[u]/\bL x u:=by
 cases r with
 | cons r1 r2=>cases r2;exact ⟨_,rfl,r1⟩
def aGY{x y:V}{us:List V9}(r:bY [x,y] us):∃ u w',us=[u,w']/\bL x u/\bL y w':=by
 cases r with
 | cons r1 r2=>
  cases r2 with
  | cons r3 r4=>cases r4;exact ⟨_,_,rfl,r1,r3⟩
def kB:lG X (.type "int") (fun xs H Q=>(∃ i,xs=[.int i]/\Q (.int i) H)\/∃ k,xs=[.bl k]/\Q (.int (if k then 1 else 0)) H):=by
 intro a5 s σ H xs us Q I r h
 rcases h with ⟨i,rfl,q⟩|⟨k,rfl,q⟩
 .obtain ⟨u,rfl,t,rfl⟩:=oM r
  exact call_int_int ⟨.int i,H,I,⟨_,rfl⟩,q⟩
 .obtain ⟨u,rfl,r1⟩:=oM r
  cases r1
  exact call_int_bool ⟨.int (if k then 1 else 0),H,I.tok _,⟨_,rfl⟩,q⟩
def aRM(K:Frag)(x:V)(H:Hp)(n:Nat):Prop:=
 match x with
 | .str y=>y.length<=sizeLine/\n=y.length
 | .byt y=>y.size<=sizeLine/\n=y.size
 | .ref p=>(∃ xs,SqL K H p xs/\n=xs.length)\/∃ xs,SqT K H p xs/\n=xs.length
 | _=>False
def b9:lG X (.builtin "len") (fun xs H Q=>∃ x n,xs=[x]/\aRM X.K x H n/\Q (.int n) H):=by
 intro a5 s σ H xs us Q I r h
 obtain ⟨x,n,rfl,e,q⟩:=h
 obtain ⟨u,rfl,i⟩:=oM r
 have l:=xJ
 have m:sizeLine=16777216:=GV
 cases x with
 | str y=>
  obtain ⟨t,rfl⟩:=i
  obtain ⟨j,b⟩:y.length<=sizeLine/\n=y.length:=e
  subst b
  exact len_str (by omega) ⟨.int _,H,I.tok _,⟨_,rfl⟩,q⟩
 | byt y=>
  obtain ⟨t,rfl⟩:=i
  obtain ⟨j,b⟩:y.size<=sizeLine/\n=y.size:=e
  subst b
  exact PySem.W.len_bytes (by omega) ⟨.int _,H,I.tok _,⟨_,rfl⟩,q⟩
 | ref p=>
  cases i
  have b:(∃ xs,SqL X.K H p xs/\n=xs.length)\/∃ xs,SqT X.K H p xs/\n=xs.length:=e
  rcases b with ⟨xs,g,b⟩|⟨xs,g,b⟩
  .subst b
   obtain ⟨d,c,f,k⟩:=I.list g
   have a:=c.length
   exact Calls.call_len_list f.isList (by simp only[BH];omega) ⟨.int xs.length,H,I.tok _,⟨_,by simp only[BH];rw[a]⟩,q⟩
  .subst b
   obtain ⟨d,c,f,k⟩:=I.tuple g
   have a:=c.length
   exact len_tuple f (by simp only[BH];omega) ⟨.int xs.length,H,I.tok _,⟨_,by simp only[BH];rw[a]⟩,q⟩
 | _=>exact (show False from e).elim
end
structure ObjM(h:Heap)(x dx C:Az)(mA:Str->Option V9):Prop where
 obj:h.get? x=some (PySem.W.instObj C dx)
 ns:h.Ns1 dx mA
 ne:dx≠x
def aA0{h:H9}{dx:Az}{mA:Str->O9 V9}(n:h.Ns1 dx mA):∃ od,h.get? dx=some od/\∀ name,PySem.W.lookIn name od=some (mA name):=by
 obtain ⟨o,es,ep,i,c,j,_,g⟩:=n
 refine ⟨o,i,fun name=>?_⟩
 have e:=g name
 unfold nsFind findBy at e
 rw[<-Array.find?_toList] at e
 unfold PySem.W.lookIn
 rw[c]
 dsimp only
 split
 .rename_i y q
  rw[q] at e
  exact CL some e
 .rename_i q
  rw[q] at e
  have a:es.toList.any (·.refKey)=false:=by
   rw[List.any_eq_false]
   intro y f
   obtain ⟨z,t,b⟩:=j y (Array.mem_toList_iff.mp f)
   simp[DictEntry.refKey,b]
  have d:¬ es.toList.any (·.refKey)=true:=by rw[a];exact B9
  rw[AK d]
  exact CL some e
def ObjM.look{h:H9}{x dx C:Az}{mA:Str->O9 V9}(I:ObjM h x dx C mA):∃ od,PySem.W.InstAt h x (PySem.W.instObj C dx) C (some od)/\∀ name,PySem.W.lookIn name od=some (mA name):=
 let ⟨od,ho,hl⟩:=aA0 I.ns
 ⟨od,⟨I.obj,rfl,rfl,ho⟩,hl⟩
section
variable{prog:P9}{w:W9}{A:U9}{E:V9->S9->Prop}{s:S9}{K:Frag}{x dx C f:Az}{mA:Str->O9 V9}{name:Str}{v:V9}
end
def nY.some_of{v:V}{o:O9 V9}(r:nY (some v) o):∃ u,o=some u/\bL v u:=by
 cases o with
 | none=>exact (show False from r).elim
 | some u=>exact ⟨u,rfl,r⟩
section
variable{P:P9}{w:W9}{H H':Hp}{h h':H9}{a C dx:Az}{fs fs':List (Str×V)}
def aN5(hok:HOk P w H h)(e:H a=some (.ins C dx fs)):∃ mA,ObjM h a dx C mA/\(∀ f,nY (fs.lookup f) (mA f))/\PySem.Within mA (fs.map (·.1))/\fs.length<=1000/\H dx=some (.own a):=by
 obtain ⟨d,z,b,c,mA,n,r,q⟩:=(show cX P w H h a (.ins C dx fs) from hok a _ e)
 exact ⟨mA,⟨c,n,b⟩,r,q,z,d⟩
end
structure Cls(K:Frag)(C:Az):Prop where
 pg:PySem.W.plainGet K C Str.empty=true
 hd:PySem.W.hasDictIn K C=true
 po:PySem.W.plainOver K C=true
 sa:PySem.W.findIn K (.ref C) "__setattr__"=some (some (.builtin "object.__setattr__"))
def Cls.get{K:Frag}{C:Az}(c:Cls K C)(f:Str):PySem.W.plainGet K C f=true:=c.pg
structure Con(K:Frag)(C:Az)(f:Str)(v:V)(u:V9):Prop where
 at_:PySem.W.findIn K (.ref C) f=some (some u)
 rel:bL v u
 get:PySem.W.specialIn K u "__get__"=some none
 cp:PySem.W.copiedNames.contains f=false
structure Meth(K:Frag)(C:Az)(m:Str)(f:Az):Prop where
 at_:PySem.W.findIn K (.ref C) m=some (some (.ref f))
 fn:PySem.W.isFn K (.ref f)=true
 kp:PySem.W.keepIn K (.ref f)=true
section
variable{X:Cx}{a5:List (Az×Obj)}{σ:St}{H:Hp}{s:S9}{a C dx:Az}{fs:List (Str×V)}{f:Str}{v:V}{A:U9}{E:V9->S9->Prop}
end
section
variable{X:Cx}{a5:List (Az×Obj)}{σ:St}{H:Hp}{s:S9}{A:U9}{E:V9->S9->Prop}{Q:V9->S9->Prop}{c:V9}{b:Bool}
inductive TyOf(K:Frag)(H:Hp):V->V9->Prop where
 | non:TyOf K H .non (.type "NoneType")
 | bl (x:Bool):TyOf K H (.bl x) (.type "bool")
 | int (i:Int):TyOf K H (.int i) (.type "int")
 | str (x:Str):TyOf K H (.str x) (.type "str")
 | flt (x:UInt64):TyOf K H (.flt x) (.type "float")
 | lst {a:Az} {xs:List V} (e:H a=some (.lst xs)):TyOf K H (.ref a) (.type "list")
 | frz {a:Az} {o:Obj} {xs:List V} (e:H a=some (.frz o (.lst xs))):TyOf K H (.ref a) (.type "list")
 | tup {a:Az} {xs:List V} (e:H a=some (.tup xs)):TyOf K H (.ref a) (.type "tuple")
 | dK {a:Az} {a6:List (Key×V)} (e:H a=some (.dK a6)):TyOf K H (.ref a) (.type "dict")
 | dT {a:Az} {a6:List (List Key×V)} (e:H a=some (.dT a6)):TyOf K H (.ref a) (.type "dict")
 | ins {a C dx:Az} {fs:List (Str×V)} (e:H a=some (.ins C dx fs)) (cl:Cls K C) (ha:PySem.W.findIn K (.ref C) "__class__"=some (some (.builtin "object.__class__")))
  (hn:PySem.W.specialIn K (.builtin "object.__class__") "__get__"=some (some (.builtin "getset_descriptor.__get__"))) (htk:PySem.W.takesIn K (.builtin "object.__class__")=some true)
  (hm:PySem.W.mroIn K C (.type "object")=some true):TyOf K H (.ref a) (.ref C)
def aIF{x:V}{u t:V9}(I:Inv X a5 σ H s)(d:bL x u)(ty:TyOf X.K H x t)(e:PySem.W.kitOne X.K t c=some b)(h:∀ tk,Q (.bool b) {s with toks:=tk}) :
  wpAny (model X.prog X.w) A (call (.builtin "isinstance") [u,c]) Q E s:=by
 cases ty with
 | non=>cases (show u=Value.none from d);exact CB PySem.W.kitx_none I.kIn True.intro e (fun z=>nomatch z) h
 | bl y=>cases (show u=Value.bool y from d);exact CB PySem.W.kitx_bool I.kIn True.intro e (fun z=>nomatch z) h
 | int i=>obtain ⟨t,q⟩:=(show ∃ t,u=Value.int i t from d);cases q;exact CB PySem.W.kitx_int I.kIn True.intro e (fun z=>nomatch z) h
 | str y=>obtain ⟨t,q⟩:=(show ∃ t,u=Value.str y t from d);cases q;exact CB PySem.W.kitx_str I.kIn True.intro e (fun z=>nomatch z) h
 | flt y=>obtain ⟨t,q⟩:=(show ∃ t,u=Value.float y t from d);cases q;exact CB PySem.W.kitx_float I.kIn True.intro e (fun z=>nomatch z) h
 | @lst a xs ea=>
  cases (show u=Value.ref a from d)
  obtain ⟨_,_,n,_,h1⟩:=(show cX X.prog X.w H s.heap a (.lst xs) from I.hok a _ ea)
  exact CB F6 I.kIn ⟨_,h1,rfl⟩ e (fun z=>nomatch z) h
 | @frz a ob xs ea=>
  cases (show u=Value.ref a from d)
  obtain ⟨_,_,_,n,_,h1⟩:=(show cX X.prog X.w H s.heap a (.frz ob (.lst xs)) from I.hok a _ ea)
  exact CB F6 I.kIn ⟨_,h1,rfl⟩ e (fun z=>nomatch z) h
 | @tup a xs ea=>
  cases (show u=Value.ref a from d)
  obtain ⟨_,_,_,p⟩:=(show cX X.prog X.w H s.heap a (.tup xs) from I.hok a _ ea)
  obtain ⟨o,h1,h2,_⟩:=p
  exact CB PySem.W.kitx_tuple I.kIn ⟨o,h1,h2⟩ e (fun z=>nomatch z) h
 | @dK a a6 ea=>
  cases (show u=Value.ref a from d)
  obtain ⟨_,_,vs,_,p⟩:=(show cX X.prog X.w H s.heap a (.dK a6) from I.hok a _ ea)
  obtain ⟨o,es,ep,h1,h2,_⟩:=p
  exact CB PySem.W.kitx_dict I.kIn ⟨o,h1,h2.1⟩ e (fun z=>nomatch z) h
 | @dT a a6 ea=>
  cases (show u=Value.ref a from d)
  obtain ⟨_,_,xs,_,o,es,ep,h1,h2,_⟩:=(show cX X.prog X.w H s.heap a (.dT a6) from I.hok a _ ea)
  exact CB PySem.W.kitx_dict I.kIn ⟨o,h1,h2.1⟩ e (fun z=>nomatch z) h
 | @ins a C dx fs ea cl ha hn htk hm=>
  cases (show u=Value.ref a from d)
  obtain ⟨mA,O,_⟩:=aN5 I.hok ea
  obtain ⟨od,J,_⟩:=O.look
  exact CB (PySem.W.kitx_own (cl.get _) cl.hd ha hn htk hm) I.kIn J e (fun z=>nomatch z) h
end
structure Room(k:Nat)(A:Around):Prop where
 hd:A.handled=none
 dp:A.depth+3 * k+5 < recursionLimit
 un:A.units+16 * k+200 < cLine
def Room.mono{j k:Nat}{A:U9}(r:Room k A)(h:j<=k):Room j A:=⟨r.hd,by have:=r.dp;omega,by have:=r.un;omega⟩
def Room.deeper{k:Nat}{A:U9}(r:Room (k+1) A)(env:Env):Room k (A.deeper env):=
 ⟨r.hd,by have:=r.dp;show A.depth+1+3 * k+5 < _;omega,by have:=r.un;show A.units+3+16 * k+200 < _;omega⟩
def Room.depth{k:Nat}{A:U9}(r:Room k A):A.depth < recursionLimit:=by have:=r.dp;omega
def Room.units{k:Nat}{A:U9}(r:Room k A):A.units+64 < cLine:=by have:=r.un;omega
def kC:TA:=fun _ H Q=>Q [] H
def gL(ta:TE)(tr:TA):TA:=fun σ H Q=>ta σ H fun x H1=>tr σ H1 fun xs H2=>Q (x::xs) H2
section
variable{X:Cx}{e:E3}{es:List E3}{te:TE}{t:TA}{pos:Pos}
def aK:PA X [] kC:=fun _ _ _ _ H Q I h=>Calls.spliced_nil ⟨[],H,I,.nil,h⟩
def aG(b:PE X e te)(j:PA X es t)(g:starEach (e::es) X.env=(false,eval e X.env)::starEach es X.env:=by rfl):PA X (e::es) (gL te t):=by
 intro pos a5 s σ H Q I h
 rw[g]
 show wpAny _ _ (spliced ((false,eval e X.env)::backTo pos (starEach es X.env))) _ _ s
 refine Calls.spliced_cons (thn (b a5 s σ H _ I h) fun u s1 a=>?_)
 obtain ⟨x,H1,c,r1,d⟩:=a
 exact thn (j pos a5 s1 σ H1 _ c d) fun us k ⟨xs,H2,f,r2,i⟩=>⟨x::xs,H2,f,.cons r1 r2,i⟩
def aVI(t:TA):TE:=fun σ H Q=>t σ H fun xs H1=>xs.length<=sizeLine/\∀ p,H1 p=none->Q (.ref p) (upd H1 p (.tup xs))
def aVJ(t:TA):TE:=fun σ H Q=>t σ H fun xs H1=>xs.length<=sizeLine/\∀ p,H1 p=none->Q (.ref p) (upd H1 p (.lst xs))
def aRN{x1}(h:PA X es t):PE X (.Tuple es x1 pos) (aVI t):=by
 intro a5 s σ H Q I c
 refine wpAny_Tuple_spliced (thn (h pos a5 s σ H _ I c) fun us s1 ⟨xs,H1,a,r,z,q⟩=>⟨by rw[<-r.length];exact z,?_⟩)
 have d:H1 s1.heap.objs.size=none:=a.hok.fresh (AU _)
 refine ⟨.ref s1.heap.objs.size,upd H1 s1.heap.objs.size (.tup xs),a.laid (t':=s1.toks) (fun b u e=>AE _ e) (AU _) ?_,rfl,q _ d⟩
 exact ⟨z,us,r,⟨_,A4 _ rfl,rfl,_,rfl⟩⟩
def aRO(h:PA X es t):PE X (.List es pos) (aVJ t):=by
 intro a5 s σ H Q I c
 refine wpAny_List_spliced (thn (h pos a5 s σ H _ I c) fun us s1 ⟨xs,H1,a,r,z,q⟩=>⟨by rw[<-r.length];exact z,?_⟩)
 have d:H1 s1.heap.objs.size=none:=a.hok.fresh (AU _)
 refine ⟨.ref s1.heap.objs.size,upd H1 s1.heap.objs.size (.lst xs),a.laid (t':=s1.toks) (fun b u e=>AE _ e) (AU _) ?_,rfl,q _ d⟩
 exact ⟨z,us,0,r,A4 _ rfl⟩
end
abbrev Sp:=List V->Hp->VK->XK->Prop
abbrev CXT:=List Env->Hp->S9->XK->V9->S9->Prop
structure Env0(P:Program)(w:World)(K:Frag)(mg:Str->Option V9)(base:Heap)(A:Around)(outer:List Env)(s:S9)(H:Hp):Prop where
 frames:A.frames=some outer
 mod:Mod K mg base
 bs:∀ b o,base.get? b=some o->s.heap.get? b=some o/\H b=none
 bsz:base.objs.size<=s.heap.objs.size
 funs:s.heap.FunFrames base outer
 frf:∀ b∈frs outer,H b=none
 hok:HOk P w H s.heap
 bare:AllBare s.gens
def CE(outer:List Env)(P:P9)(w:W9)(H:Hp)(s:S9)(Q:VK)(u:V9)(s':S9):Prop:=
 ∃ v H',s'.os=s.os/\AllBare s'.gens/\Un (frs outer) [] H H' s.heap s'.heap/\HOk P w H' s'.heap/\bL v u/\Q v H'
def CR(CX:CXT)(outer:List Env)(P:P9)(w:W9)(H:Hp)(s:S9)(Q:VK)(E:XK)(r:Result)(s':S9):Prop:=
 match r with
 | .ok (.ret u)=>CE outer P w H s Q u s'
 | .ok _=>False
 | .error e=>CX outer H s E e s'
structure FnOk(P:Program)(w:World)(K:Frag)(mg:Str->Option V9)(base:Heap)(CX:CXT)(k:Nat)(f:Az)(fd:FuncData)(ps:List Str)(sp:Sp):Prop where
 len:∀ vs H Q E,sp vs H Q E->vs.length=ps.length
 run:∀ (A:Around) (outer:List Env) (s:S9) (H:Hp) (args:Args) (us:List V9) (vs:List V) (Q:VK) (E:XK),Room k A->Env0 P w K mg base A outer s H->BindsTo s fd args (ps.zip us)->bY vs us->sp vs H Q E->
  codeAny (model P w) A (.call (.ref f) args) (CR CX outer P w H s Q E) s
def FnOk.imp{P:P9}{w:W9}{K:Frag}{mg:Str->O9 V9}{base:H9}{CX:CXT}{k:Nat}{f:Az}{fd:FuncData}{ps:List Str}{sp a:Sp}(F:FnOk P w K mg base CX k f fd ps sp)
  (h:∀ vs H Q E,a vs H Q E->sp vs H Q E):FnOk P w K mg base CX k f fd ps a:=
 ⟨fun vs H Q E q=>F.len vs H Q E (h _ _ _ _ q),fun A outer s H args us vs Q E g e c b d=>F.run A outer s H args us vs Q E g e c b (h _ _ _ _ d)⟩
section
variable{X:Cx}{a5:List (Az×Obj)}{σ:St}{H:Hp}{s s':S9}
def Inv.env0(I:Inv X a5 σ H s):Env0 X.prog X.w X.K X.mg X.base X.A X.stack s H:=
 ⟨I.ok.frames,I.ok.mod,I.bs,BR I.ok.bsz I.sz,I.stack,I.stkFree,I.hok,I.bare⟩
def Inv.after{Q:VK}{u:V9}(I:Inv X a5 σ H s)(h:CE X.stack X.prog X.w H s Q u s'):EP X a5 σ Q u s':=by
 obtain ⟨v,H',os,a,un,c,r,q⟩:=h
 obtain ⟨f,g,d,t,e⟩:=s'
 obtain rfl:e=s.os:=os
 exact ⟨v,H',I.call (h':=f) (g':=g) (d':=d) (t':=t) (ch:=[]) un c a (fun b z=>absurd z (by simp)),r,q⟩
end
def aGZ(sp:Sp)(dvs:List V)(E:XK)(t:TA):TE:=fun σ H Q=>t σ H fun vs H1=>sp (vs++dvs) H1 Q E
def lH(K:Frag)(fd:FuncData)(ps:List Str)(ds:List V9):Prop:=
 ∀ (s:S9) (us:List V9),K.In s.heap->(us++ds).length=ps.length->BindsTo s fd ⟨us,[]⟩ (ps.zip (us++ds))
def lH.all{K:Frag}{fd:FuncData}{ps:List Str}(h:∀ us:List V9,us.length=ps.length->bindArgs fd ⟨us,[]⟩=pure (ps.zip us)):lH K fd ps []:=fun s us _ a=>by
 rw[DP] at a ⊢
 exact .of_eq (h us a)
def pB(CX:CXT)(X:Cx)(E:XK):Prop:=∀ (a5:List (Az×Obj)) (σ:St) (H:Hp) (s:S9) (e:V9) (s':S9),Inv X a5 σ H s->CX X.stack H s E e s'->X.xe e s'
section
variable{X:Cx}{CX:CXT}{k:Nat}{f C:Az}{fd:FuncData}{ps:List Str}{sp:Sp}{dvs:List V}{ds:List V9}{E:XK}{x m:Str}{p pos apos:Pos}{e o:E3}{es:List E3}{ta:TE}{t:TA}
def aIG{a5:List (Az×Obj)}{σ:St}{H:Hp}{s:S9}{Q:VK}{us:List V9}{vs:List V}(F:FnOk X.prog X.w X.K X.mg X.base CX k f fd ps sp)(g:Room k X.A)(c:lH X.K fd ps ds)(b:bY dvs ds)(hx:pB CX X E)
  (I:Inv X a5 σ H s) (r:bY vs us) (h:sp (vs++dvs) H Q E):wpAny (model X.prog X.w) X.A (call (.ref f) us) (EP X a5 σ Q) X.xe s:=by
 have r2:bY (vs++dvs) (us++ds):=r.append b
 have d:(us++ds).length=ps.length:=by rw[<-r2.length];exact F.len _ _ _ _ h
 refine ES (EH (F.run X.A X.stack s H ⟨us,[]⟩ (us++ds) (vs++dvs) Q E g I.env0 (c s us I.kIn d) r2 h) fun r s' a=>?_)
 cases r with
 | error e=>exact hx a5 σ H s e s' I a
 | ok fl=>
  cases fl with
  | ret u=>exact I.after a
  | next=>exact False.elim a
  | brk=>exact False.elim a
  | cont=>exact False.elim a
def aN6(F:FnOk X.prog X.w X.K X.mg X.base CX k f fd ps sp)(l:Room k X.A)(g:Gl X x)(i:X.mg x=some (.ref f))(m:PySem.W.keepIn X.K (.ref f)=true)(j:lH X.K fd ps ds)(c:bY dvs ds)(hx:pB CX X E)
  (d:PA X (e::es) t) (a:(x == ("__debug__":Str))=false:=by decide) (he:starEach (e::es) X.env=(false,eval e X.env)::starEach es X.env:=by rfl) (hpl:(backTo pos (starEach es X.env)).any (·.1)=false:=by rfl) :
  PE X (.Call (.Name x p) (e::es) [] pos) (aGZ sp dvs E t):=by
 intro a5 s σ H Q I h
 refine CP (uU I g i ?_ a)
 refine EO (h₀:=X.base) I.ok.mod.kin m (thn (d pos a5 s σ H _ I h) fun us s1 ⟨vs,H1,b,r,q⟩=>⟨b.kIn,?_⟩) he hpl
 exact aIG F l j c hx b r q
structure Mk(K:Frag)(C f:Az):Prop where
 makes:PySem.W.makesIn K C=true
 init:PySem.W.findIn K (.ref C) "__init__"=some (some (.ref f))
 fn:PySem.W.isFn K (.ref f)=true
 kp:PySem.W.keepIn K (.ref C)=true
end
section
variable{X:Cx}{CX:CXT}{k:Nat}{f C:Az}{fd:FuncData}{ps ks:List Str}{sp:Sp}{E:XK}{x m:Str}{p pos apos kpos:Pos}{e o:E3}{es:List E3}{kws:List Keyword}{te ta:TE}{t tk:TA}{nm:O9 Str}
structure KBinds(K:Frag)(fd:FuncData)(ps ks:List Str)(g:List V9->List V9->List V9)(gV:List V->List V->List V):Prop where
 to:∀ (s:S9) (us ws:List V9),K.In s.heap->(g us ws).length=ps.length->BindsTo s fd ⟨us,ks.zip ws⟩ (ps.zip (g us ws))
 rel:∀ {vs:List V} {us:List V9} {zs:List V} {ws:List V9},bY vs us->bY zs ws->bY (gV vs zs) (g us ws)
variable{g:List V9->List V9->List V9}{gV:List V->List V->List V}
end
structure FnScope(N P:List Str)(sc:Scope):Prop where
 kind:sc.kind=.function
 co:sc.isCoroutine=false
 gen:sc.isGenerator=false
 nd:N.Nodup
 pre:N.take P.length=P
 par:∀ x∈P,sc.names.lookup x=some .local\/sc.names.lookup x=some .cell
 nofree:∀ y∈sc.names,y.2≠.free
theorem aA1{a:Str->O9 NameKind}{x:Str}:∀ {binds:List (Str×V9)} {m:Str->O9 V9},(∀ v,(x,v)∉binds)->bindL a binds m x=m x
 | [],_,_=>rfl
 | (n,v)::r,m,h=>by
  unfold bindL
  rw[aA1 fun w hw=>h w (AJ _ hw)]
  split
  .have:x≠n:=by rintro rfl;exact h v AS
   simp[this]
  .rfl
theorem aA2{a:Str->O9 NameKind}{x:Str}:∀ {binds:List (Str×V9)} {m:Str->O9 V9},(∀ v,(x,v)∉binds)->bindC a binds m x=m x
 | [],_,_=>rfl
 | (n,v)::r,m,h=>by
  unfold bindC
  rw[aA2 fun w hw=>h w (AJ _ hw)]
  split
  .rfl
  .have:x≠n:=by rintro rfl;exact h v AS
   simp[this]
theorem tO{a:Str->O9 NameKind}{x:Str}{v:V9}:∀ {P:List Str} {vs:List V9} {i:Nat} {m:Str->O9 V9},P.Nodup->P[i]? = some x->vs[i]? = some v->a x=some .local->
  bindL a (P.zip vs) m x=some v
 | [],_,_,_,_,h,_,_=>by simp at h
 | _::_,[],_,_,_,_,h,_=>by simp at h
 | p::P,w::vs,0,m,nd,h1,h2,hk=>by
  simp at h1 h2;subst h1;subst h2
  show bindL a ((p,w)::P.zip vs) m p=_
  unfold bindL
  rw[aA1 fun v hv=>(C0.mp nd).1 (E6 hv).1,AL hk]
  simp
 | p::P,w::vs,i+1,m,nd,h1,h2,hk=>by
  show bindL a ((p,w)::P.zip vs) m x=_
  unfold bindL
  exact tO (i:=i) (C0.mp nd).2 (by simpa using h1) (by simpa using h2) hk
theorem tP{a:Str->O9 NameKind}{x:Str}{v:V9}:∀ {P:List Str} {vs:List V9} {i:Nat} {m:Str->O9 V9},P.Nodup->P[i]? = some x->vs[i]? = some v->a x≠some .local->
  bindC a (P.zip vs) m x=some v
 | [],_,_,_,_,h,_,_=>by simp at h
 | _::_,[],_,_,_,_,h,_=>by simp at h
 | p::P,w::vs,0,m,nd,h1,h2,hk=>by
  simp at h1 h2;subst h1;subst h2
  show bindC a ((p,w)::P.zip vs) m p=_
  unfold bindC
  rw[aA2 fun v hv=>(C0.mp nd).1 (E6 hv).1,AK hk]
  simp
 | p::P,w::vs,i+1,m,nd,h1,h2,hk=>by
  show bindC a ((p,w)::P.zip vs) m x=_
  unfold bindC
  exact tP (i:=i) (C0.mp nd).2 (by simpa using h1) (by simpa using h2) hk
def start(N:List Str)(vs:List V):St:=vs.map some++List.replicate (N.length - vs.length) none
def lL(CX:CXT)(P:P9)(w:W9)(K:Frag)(mg:Str->O9 V9)(base:H9)(N:List Str)(qual:Str)(scope:Scope)(f:Az)(cd:V9)(A:U9)(outer:List Env)(s:S9)(H:Hp)(E:XK):Cx where
 prog:=P
 w:=w
 K:=K
 mg:=mg
 base:=base
 A:=A.deeper (envOfC qual scope s.heap.objs.size f cd)
 N:=N
 s₀:=s
 H₀:=H
 env:=envOfC qual scope s.heap.objs.size f cd
 outer:=outer
 stack:=envOfC qual scope s.heap.objs.size f cd::outer
 ex:=[]
 calm:=true
 fn:=fun _=>true
 pn:=[]
 xe:=fun e s'=>wpAny (model P w) (A.deeper (envOfC qual scope s.heap.objs.size f cd)) (leaving (envOfC qual scope s.heap.objs.size f cd) e) (fun _ s''=>CX outer H s E e s'') (fun e' s''=>CX outer H s E e' s'') s'
def pC{a:Scope}{n:Nat}{x:Str}(h:a.names.lookup x=some .cell):∃ c,(cellsFrom n a.names []).lookup x=some c:=by
 have q:=GW a.names n [] (.inl h)
 exact GD.mp q
def aIH{CX:CXT}{P:P9}{w:W9}{K:Frag}{mg:Str->O9 V9}{base:H9}{N ps:List Str}{qual:Str}{scope:Scope}{f:Az}{cd:V9}{A:U9}{outer:List Env}{s s1:S9}{H:Hp}{E:XK}{us:List V9}{vs:List V}
  (S:FnScope N ps scope) (t:A.handled=none) (e0:Env0 P w K mg base A outer s H) (F:vs.length=ps.length) (r:bY vs us)
  (x:InCallC s s.heap.objs.size (bindL (envOfC qual scope s.heap.objs.size f cd).kindOf (ps.zip us) fun _=>none) (cellsFrom (s.heap.objs.size+1) scope.names []) (bindC (envOfC qual scope s.heap.objs.size f cd).kindOf (ps.zip us) fun _=>none) s1) :
  Inv (lL CX P w K mg base N qual scope f cd A outer s H E) [] (start N vs) H s1:=by
 have B:ps.length<=N.length:=by have:=CL List.length S.pre;rw[BO] at this;omega
 obtain ⟨h1,tk,rfl,o⟩:=x.done
 have g:∀ b:Az,b∉(lL CX P w K mg base N qual scope f cd A outer s H E).ex:=fun b z=>absurd (show b∈([]:List Az) from z) (by simp)
 refine ⟨⟨e0.mod,S.kind,rfl,rfl,AU _,fun y z c h1 h2=>?_,fun y d=>?_,fun y c _ h=>?_,fun _=>t,Around.frames_deeper e0.frames,.inr ⟨rfl,rfl⟩,fun b z=>absurd z (g b),e0.bs,e0.bsz,fun b _ _=>g b,fun b z=>absurd z (g b),e0.funs,e0.frf⟩,
  rfl,e0.bare,Un.kept o,⟨_,x.toInCall.ns,fun i y v h1 h2 G=>?_⟩,fun y c h=>⟨_,x.cell y c h⟩,e0.hok.fresh (AU _),fun y c h=>?_,fun p j=>absurd (show p∈([]:List (Az×Obj)) from j) (by simp),e0.hok.kept o,?_⟩
 .exact name_of_addr x.apart (BN h1) (BN h2)
 .have d:scope.names.lookup y=some .cell\/scope.names.lookup y=some .free:=d
  rcases d with d|d
  .exact pC d
  .exact absurd rfl (S.nofree _ (BN d))
 .exact DA (x.above y c (BN h))
 .have hi:i < vs.length:=by
   unfold start at h2
   by_cases hi:i < vs.length
   .exact hi
   .rw[CF (by simpa using hi)] at h2
    rw[EU] at h2
    split at h2<;>cases h2
  have C:vs[i]? = some v:=by
   unfold start at h2
   rw[B1 (by simpa using hi),AC] at h2
   cases e:vs[i]? with
   | none=>rw[e] at h2;cases h2
   | some a=>rw[e] at h2;cases h2;rfl
  obtain ⟨u,m,D⟩:=r.get C
  have j:ps[i]? = some y:=by
   rw[<-S.pre,EQ (by omega)];exact h1
  have l:ps.Nodup:=by rw[<-S.pre];exact S.nd.sublist (List.take_sublist _ _)
  refine ⟨u,D,?_⟩
  rcases S.par y (AM j) with k|k
  .exact .inl ⟨k,tO l j m k⟩
  .obtain ⟨c,e⟩:=pC (n:=s.heap.objs.size+1) k
   refine .inr ⟨.inl k,c,e,?_⟩
   have q:=x.cell y c e
   rw[tP l j m (by show scope.names.lookup y≠_;rw[k];decide)] at q
   exact q
 .exact e0.hok.fresh (DA (x.above y c (BN h)))
 .unfold start
  show _=N.length
  rw[A5,AB,EI]
  omega
def aG0{CX:CXT}{P:P9}{w:W9}{K:Frag}{mg:Str->O9 V9}{base:H9}{k:Nat}{f:Az}{name qual:Str}{params:Arguments}{body:List Stmt}{scope:Scope}{D kV doc pm a ct T:V9}{G od:O9 Az}
  {m:Array (O9 V9)} {N ps:List Str} {sp:Sp} (Z:K.lookup f=some ⟨T,od,.func (PySem.W.fnOf name qual params body scope D kV doc pm G a ct),m⟩) (C:PySem.W.codeIn K a qual=true) (S:FnScope N ps scope)
  (len:∀ vs H Q E,sp vs H Q E->vs.length=ps.length)
  (g:∀ (A:U9) (outer:List Env) (s:S9) (H:Hp) (vs:List V) (Q:VK) (E:XK),Room k (A.deeper (envOfC qual scope s.heap.objs.size f a))->sp vs H Q E->
   ∃ t,PSs (lL CX P w K mg base N qual scope f a A outer s H E) body t/\t {nx:=fun _ H'=>Q .non H',rt:=Q} (start N vs) H) :
  FnOk P w K mg base CX (k+1) f (PySem.W.fnOf name qual params body scope D kV doc pm G a ct) ps sp:=by
 refine ⟨len,fun A outer s H args us vs Q E z e0 Y r i=>?_⟩
 have O:=len _ _ _ _ i
 have F:K.In s.heap:=e0.mod.kin.keeps fun b o e=>(e0.bs b o e).1
 have l:s.heap.NoLimit:=e0.mod.nolimit.keeps fun b o e=>(e0.bs b o e).1
 have d:∀ y∈ps.zip us,scope.names.lookup y.1=some .local\/(scope.names.lookup y.1=some .cell/\((cellsFrom (s.heap.objs.size+1) scope.names []).lookup y.1).isSome=true):=fun B M=>by
  obtain ⟨n,v⟩:=B
  rcases S.par n (E6 M).1 with q|q
  .exact .inl q
  .exact .inr ⟨q,GW _ _ _ (.inl q)⟩
 refine codeAny_call_function z.depth (F _ _ Z) rfl S.co S.gen rfl (PySem.W.codeRec_of F C) (Y _ _ _ _ ?_)
 refine wpAny_newFunctionEnv_cells S.kind d fun env R s1 x=>?_
 subst R
 refine ⟨l.keeps x.toInCall.keep,codeAny_func ?_⟩
 obtain ⟨t,U,X⟩:=g A outer s H vs Q E (z.deeper _) i
 have I:Inv (lL CX P w K mg base N qual scope f a A outer s H E) [] (start N vs) H s1:=aIH S z.hd e0 O r x
 refine B0 (U [] s1 (start N vs) H _ I X) (fun L s' h=>?_) fun e s' h=>h
 have j:∀ {c:St} {H':Hp} {v:V} {u:V9},Inv (lL CX P w K mg base N qual scope f a A outer s H E) [] c H' s'->bL v u->Q v H'->CE outer P w H s Q u s':=
  fun {c H' v u} J p q=>⟨v,H',J.os,J.bare,J.base,J.hok,p,q⟩
 cases L with
 | ret u=>
  obtain ⟨v,c,H',J,p,q⟩:=h
  exact j J p q
 | next=>
  obtain ⟨c,H',J,q⟩:=h
  exact j (v:=V.non) (u:=Value.none) J rfl q
 | brk=>
  obtain ⟨_,_,_,q⟩:=h
  exact False.elim q
 | cont=>
  obtain ⟨_,_,_,q⟩:=h
  exact False.elim q
section
variable{X:Cx}{x:Str}{p pos:Pos}{e:E3}{es:List E3}{t:TA}{id T:String}{r:List V->Hp->VK->Prop}
def tCB(r:List V->Hp->VK->Prop)(t:TA):TE:=fun σ H Q=>t σ H fun vs H1=>r vs H1 Q
def bF(j:lG X (.builtin id) r)(g:Gl X x)(i:X.mg x=none)(f:bootBuiltins x=some (.builtin id))(b:PA X (e::es) t)(a:x≠"__name__":=by decide)(hdb:(x == ("__debug__":Str))=false:=by decide)
  (he:starEach (e::es) X.env=(false,eval e X.env)::starEach es X.env:=by rfl) (hpl:(backTo pos (starEach es X.env)).any (·.1)=false:=by rfl):PE X (.Call (.Name x p) (e::es) [] pos) (tCB r t):=by
 intro a5 s σ H Q I h
 refine CP (nI I g i f ?_ a hdb)
 exact E7 (thn (b pos a5 s σ H _ I h) fun us s1 ⟨vs,H1,c,r1,d⟩=>j a5 s1 σ H1 vs us Q c r1 d) he hpl
def cC(j:lG X (.type T) r)(g:Gl X x)(i:X.mg x=none)(f:bootBuiltins x=some (.type T))(b:PA X (e::es) t)(a:x≠"__name__":=by decide)(hdb:(x == ("__debug__":Str))=false:=by decide)
  (he:starEach (e::es) X.env=(false,eval e X.env)::starEach es X.env:=by rfl) (hpl:(backTo pos (starEach es X.env)).any (·.1)=false:=by rfl):PE X (.Call (.Name x p) (e::es) [] pos) (tCB r t):=by
 intro a5 s σ H Q I h
 refine CP (nI I g i f ?_ a hdb)
 exact CZ (thn (b pos a5 s σ H _ I h) fun us s1 ⟨vs,H1,c,r1,d⟩=>j a5 s1 σ H1 vs us Q c r1 d) he hpl
end
end L2
namespace HT
open PyProof.Rows
section
open PySem.SeqAt
open PySem.AutoSeq1 (wpAny_loadPart')
open PySem.MeetsSeq PySem.MeetsSeq2 PySem.MeetsSeq3
end
section
variable{prog:P9}{w:W9}{A:U9}{E:V9->S9->Prop}{s:S9}
def aN7{t b:Az}{vs ws:List V9}{Q:V9->S9->Prop}(q:IsTup s.heap t vs.toArray)(r:IsTup s.heap b ws.toArray)(l:vs≠[])
  (h1:ws=[]->Q (.ref t) s) (h2:ws≠[]->Q (.ref s.heap.objs.size) {s with heap:=s.heap.push {cls:=.type "tuple",data:=.seq (vs++ws).toArray}})
  (hsz:vs.length+ws.length<=sizeLine):wpAny (model prog w) A (binaryOp .Add (.ref t) (.ref b)) Q E s:=by
 obtain ⟨⟨cls,dd,data,sl⟩,i,o,n,k⟩:=id q
 obtain ⟨⟨p,g,j,f⟩,a,d,m,c⟩:=id r
 simp only at o k d c
 subst o k d c
 have e:vs.toArray++ws.toArray=(vs++ws).toArray:=by simp
 by_cases h:ws=[]
 .exact concat_meets ⟨_,i,rfl⟩ ⟨_,a,rfl⟩ noFill_tuple_add seq_tuple_add GX GO (GE _ _)
   (tuple_addW1 t b vs.toArray ws.toArray n m dd g sl f (by simpa using l) (by simp[h])) ⟨i,a,h1 h⟩
 .refine concat_meets ⟨_,i,rfl⟩ ⟨_,a,rfl⟩ noFill_tuple_add seq_tuple_add GX GO (GE _ _)
   (tuple_addW2 t b vs.toArray ws.toArray n m dd g sl f (by simpa using l) (by simpa using h) (by rw[BH,BH];exact hsz)) ⟨i,a,?_⟩
  rw[e]
  exact h2 h
def sIx(n d:Nat):O9 Int->Nat
 | none=>d
 | some v=>if v < 0 then (v+(n:Int)).toNat else min v.toNat n
def aRP(n d:Nat)(b:d<=n)(o:O9 Int):sIx n d o<=n:=by
 cases o with
 | none=>exact b
 | some v=>
  show (if v < 0 then (v+(n:Int)).toNat else min v.toNat n)<=n
  by_cases a:v < 0
  · rw [AL a]; omega
  · rw [AK a]; exact Nat.min_le_right _ _
def aE8(v:Int)(n d:Nat):(if v < 0 then max (v+(n:Int)) 0 else min v (n:Int))=((sIx n d (some v):Nat):Int):=by
 show (if v < 0 then max (v+(n:Int)) 0 else min v (n:Int))=(((if v < 0 then (v+(n:Int)).toNat else min v.toNat n):Nat):Int)
 by_cases a:v < 0
 · simp only [AL a]; omega
 · simp only [AK a]; omega
def aG1(lo hi:O9 Int)(n:Nat):Builtin.Slice.sliceAdjust lo hi 1 (n:Int)=(((sIx n 0 lo:Nat):Int),((sIx n n hi:Nat):Int)):=by
 have h1:¬ ((1:Int) < 0):=by omega
 unfold Builtin.Slice.sliceAdjust
 simp only[h1,DU]
 refine Prod.ext ?_ ?_
 .cases lo with
  | none=>rfl
  | some v=>exact aE8 v n 0
 .cases hi with
  | none=>rfl
  | some v=>exact aE8 v n n
def aG2(i j:Nat):Builtin.Slice.slicePlaces (i:Int) (j:Int) 1=j - i:=by
 unfold Builtin.Slice.slicePlaces
 have h1:(1:Int) > 0:=by omega
 simp only[h1,CD,Int.ediv_one]
 split<;>omega
def xK{v:V9}{o:O9 Int}{Q:O9 Int->S9->Prop}(p:IsPart v o)(h:Q o s):wpAny (model prog w) A (Builtin.Slice.slicePartIndex v) Q E s:=by
 cases p with
 | none=>exact slicePart_none h
 | int i t=>exact slicePart_int h
def wL{sl:Az}{c d:V9}{lo hi:O9 Int}{n:Nat}{Q:Int×Int×Nat->S9->Prop}(g:s.heap.IsSliceOf sl c d .none)(pl:IsPart c lo)(f:IsPart d hi)
  (h:Q (((sIx n 0 lo:Nat):Int),1,sIx n n hi - sIx n 0 lo) s):wpAny (model prog w) A (Builtin.Slice.sliceApplied (.ref sl) (pure (n:Int))) Q E s:=by
 obtain ⟨os,a,e,b⟩:=id g
 unfold Builtin.Slice.sliceApplied Builtin.Slice.sliceFields
 refine AA (AA (B2 a b (x:=c) rfl (AA (B2 a b (x:=d) rfl (AA (B2 a b (x:=.none) rfl (AH ?_)))))))
 refine AA (slicePart_none ?_)
 show wpAny _ _ (if ((1:Int) == 0)=true then _ else _) _ _ s
 rw[AK (by decide)]
 refine AA (xK pl (AA (xK f (AA (AH ?_)))))
 show wpAny _ _ (match Builtin.Slice.sliceAdjust lo hi 1 (n:Int) with|(lo,hi)=>pure (lo,(1:Int),Builtin.Slice.slicePlaces lo hi 1)) _ _ s
 rw[aG1 lo hi n]
 show wpAny _ _ (pure (((sIx n 0 lo:Nat):Int),(1:Int),Builtin.Slice.slicePlaces ((sIx n 0 lo:Nat):Int) ((sIx n n hi:Nat):Int) 1)) _ _ s
 rw[aG2]
 exact AH h
def aK7(xs:Array V9)(i k:Nat):((List.range k).filterMap fun (m:Nat)=>xs[((i:Int)+(m:Int) * 1).toNat]?).toArray=((xs.toList.drop i).take k).toArray:=by
 have e:(fun (m:Nat)=>xs[((i:Int)+(m:Int) * 1).toNat]?)=fun m=>xs[i+m]?:=by
  funext m
  have:((i:Int)+(m:Int) * 1).toNat=i+m:=by omega
  rw[this]
 rw[e]
 have:=pick_run xs i k
 rw[List.filterMap_map] at this
 have e2:((fun x=>xs[x]?)∘fun x=>i+x)=fun m=>xs[i+m]?:=rfl
 rw[e2] at this
 rw[this]
def vS{t sl:Az}{items:Array V9}{g j:V9}{lo hi:O9 Int}{Q:V9->S9->Prop}(b:IsTup s.heap t items)(i:s.heap.IsSliceOf sl g j .none)(pl:IsPart g lo)(l:IsPart j hi)
  (hw:¬ (sIx items.size 0 lo=0/\sIx items.size items.size hi=items.size))
  (h:Q (.ref s.heap.objs.size) {s with heap:=s.heap.push {cls:=.type "tuple",data:=.seq ((items.toList.drop (sIx items.size 0 lo)).take (sIx items.size items.size hi - sIx items.size 0 lo)).toArray}})
  (hsz:items.size<=sizeLine):wpAny (model prog w) A (getItem (.ref t) (.ref sl)) Q E s:=by
 have a:sizeOk (.seq ((items.toList.drop (sIx items.size 0 lo)).take (sIx items.size items.size hi - sIx items.size 0 lo)).toArray):=by
  show ((items.toList.drop (sIx items.size 0 lo)).take (sIx items.size items.size hi - sIx items.size 0 lo)).toArray.size<=sizeLine
  rw[BH,BO,List.length_drop,DG]
  omega
 have o:sIx items.size items.size hi<=items.size:=aRP _ _ (AU _) hi
 obtain ⟨os,c,e,k⟩:=id i
 have f:s.TypeIs (.ref sl) "slice":=⟨os,c,e⟩
 unfold getItem
 try with_reducible refine CA ?_
 first|refine AA (AH ?_)|skip
 refine AA (wpAny_sequenceKey b.typeIs (by decide) ?_)
 refine AA (CU (name:=Str.ofString "__getitem__") b.typeIs EC
  (EJ EC b.typeIs entry_tuple_getitem ?_ (args_tuple_getitem _ _)))
 show wpAny _ _ (Builtin.Tuple.tupleItemsOf (.ref t) >>= _) _ _ s
 refine AA (tupleItemsOf_ b ?_)
 refine AA (wpAny_typeOf f ?_)
 rw[AL (by decide)]
 refine AA (wL i pl l ?_)
 have d:¬ ((((sIx items.size 0 lo:Nat):Int) == 0 && (1:Int) == 1 && (sIx items.size items.size hi - sIx items.size 0 lo) == items.size)=true):=by
  intro q
  rw[A3,A3] at q
  have p:((sIx items.size 0 lo:Nat):Int)=0:=E1 q.1.1
  have n:sIx items.size items.size hi - sIx items.size 0 lo=items.size:=E1 q.2
  exact hw ⟨by omega,by omega⟩
 show wpAny _ _ (if (((sIx items.size 0 lo:Nat):Int) == 0 && (1:Int) == 1 && (sIx items.size items.size hi - sIx items.size 0 lo) == items.size)=true then _ else _) _ _ s
 rw[AK d,aK7]
 first
  | exact AA (m:=Builtin.Tuple.tupleExact _) (CV (AH ⟨_,rfl,AH h⟩) a)
  | exact AA (m:=Builtin.Tuple.tupleExact _) (CV (AA (AH (AH ⟨_,rfl,AH h⟩))) a)
  | exact AA (AA (m:=Builtin.Tuple.tupleExact _) (CV (AH (AH ⟨_,rfl,AH h⟩)) a))
  | exact AA (AA (m:=Builtin.Tuple.tupleExact _) (CV (AH ⟨_,rfl,AH h⟩) a))
end
end HT
namespace L2
open PySem.Spec PyProof.Rows
abbrev TO:=St->Hp->(O9 Int->Hp->Prop)->Prop
def PO(X:Cx)(e:O9 E3)(t:TO):Prop:=
 ∀ (a5:List (Az×Obj)) (s:S9) (σ:St) (H:Hp) (Q:O9 Int->Hp->Prop),Inv X a5 σ H s->t σ H Q->
  wpAny (model X.prog X.w) X.A (evalPart e X.env) (fun u s'=>∃ o H',Inv X a5 σ H' s'/\IsPart u o/\Q o H') X.xe s
def aN8:TO:=fun _ H Q=>Q none H
def aUD(t:TE):TO:=fun σ H Q=>t σ H fun x H1=>∃ i,x=.int i/\Q (some i) H1
section
variable{X:Cx}{e:E3}{te:TE}{lo hi:O9 E3}{tl th:TO}{pos p2:Pos}
def aN9:PO X none aN8:=by
 intro a5 s σ H Q I h
 rw[evalPart_none]
 exact AH ⟨none,H,I,.none,h⟩
def aOA(h:PE X e te):PO X (some e) (aUD te):=by
 intro a5 s σ H Q I d
 rw[evalPart_some]
 refine thn (h a5 s σ H _ I d) fun u s1 a=>?_
 obtain ⟨x,H1,b,r1,c⟩:=a
 obtain ⟨i,rfl,q⟩:=c
 obtain ⟨t,rfl⟩:=r1
 exact ⟨some i,H1,b,.int i t,q⟩
def SlR(X:Cx)(r:V->O9 Int->O9 Int->Hp->VK->Prop):Prop:=
 ∀ (a5:List (Az×Obj)) (s:S9) (σ:St) (H:Hp) (x:V) (v vl vu:V9) (lo hi:O9 Int) (sl:Az) (Q:VK),Inv X a5 σ H s->bL x v->s.heap.IsSliceOf sl vl vu .none->IsPart vl lo->IsPart vu hi->r x lo hi H Q->
  ∃ T id,typeLookup (.type T) "__getitem__"=pure (some (.builtin id))/\s.TypeIs v T/\wpAny (model X.prog X.w) X.A (getItem v (.ref sl)) (EP X a5 σ Q) X.xe s
def tSl(r:V->O9 Int->O9 Int->Hp->VK->Prop)(te:TE)(tl th:TO):TE:=fun σ H Q=>te σ H fun x H1=>tl σ H1 fun l H2=>th σ H2 fun u H3=>r x l u H3 Q
def aK8{r:V->O9 Int->O9 Int->Hp->VK->Prop}(F:SlR X r)(k:PE X e te)(g:PO X lo tl)(j:PO X hi th):PE X (.Subscript e (.Slice lo hi none p2) pos) (tSl r te tl th):=by
 intro a5 s σ H Q I h
 refine Subscript_ (thn (k a5 s σ H _ I h) fun v s1 c=>?_)
 obtain ⟨x,H1,B,r1,m⟩:=c
 refine wpAny_Slice (thn (g a5 s1 σ H1 _ B m) fun d E ⟨l,H2,p,i,z⟩=>thn (j a5 E σ H2 _ p z) fun f a c=>?_)
 obtain ⟨u,H3,D,y,G⟩:=c
 rw[evalPart_none]
 refine AH ?_
 have t:Inv X a5 σ H3 {a with heap:=a.heap.push {cls:=.type "slice",data:=.fields #[d,f,.none]}}:=D.kept (t':=a.toks) fun b J q=>AE _ q
 obtain ⟨T,id,C,n,o⟩:=F a5 {a with heap:=a.heap.push {cls:=.type "slice",data:=.fields #[d,f,.none]}} σ H3 x v d f l u a.heap.objs.size Q t r1 (Heap.IsSliceOf.new ..) i y G
 show wpAny (model X.prog X.w) X.A (subscriptTail e (.Slice lo hi none p2) v (.ref a.heap.objs.size)) (EP X a5 σ Q) X.xe {a with heap:=a.heap.push {cls:=.type "slice",data:=.fields #[d,f,.none]}}
 exact tail_any (ops:=[.ref a.heap.objs.size,v]) n C o (by with_unfolding_all rfl)
def tQ(xs:List V)(lo hi:O9 Int):List V:=(xs.drop (HT.sIx xs.length 0 lo)).take (HT.sIx xs.length xs.length hi - HT.sIx xs.length 0 lo)
def wC(xs:List V)(lo hi:O9 Int):(tQ xs lo hi).length<=xs.length:=by
 unfold tQ
 rw[BO,List.length_drop]
 omega
def aVK(K:Frag):V->O9 Int->O9 Int->Hp->VK->Prop:=fun x lo hi H Q=>∃ a xs,x=.ref a/\SqT K H a xs /\
 ¬ (HT.sIx xs.length 0 lo=0/\HT.sIx xs.length xs.length hi=xs.length)/\∀ p,H p=none->Q (.ref p) (upd H p (.tup (tQ xs lo hi)))
def aRQ:SlR X (aVK X.K):=by
 intro a5 s σ H x v n t lo hi sl Q I l m j i h
 obtain ⟨a,xs,rfl,k,g,q⟩:=h
 cases l
 obtain ⟨d,r,f,e⟩:=I.tuple k
 have c:d.toArray.size=xs.length:=by rw[BH];exact r.length.symm
 refine ⟨"tuple",_,EC.lookup,f.typeIs,?_⟩
 refine HT.vS f m j i (by rw[c];exact g) ?_ (by rw[c];exact e)
 rw[c]
 refine ⟨.ref s.heap.objs.size,_,I.laid (t':=s.toks) (o:=.tup (tQ xs lo hi)) (fun b p q=>AE _ q) (AU _) ?_,rfl,q _ (I.hok.fresh (AU _))⟩
 exact ⟨BR (wC xs lo hi) e,_,(r.drop (HT.sIx xs.length 0 lo)).take (HT.sIx xs.length xs.length hi - HT.sIx xs.length 0 lo),IsTup.new _ _⟩
def aUE(K:Frag):R2:=fun x y H Q=>∃ a b xs ys,x=.ref a/\y=.ref b/\SqT K H a xs/\SqT K H b ys/\xs≠[]/\xs.length+ys.length<=sizeLine /\
 (ys=[]->Q (.ref a) H)/\(ys≠[]->∀ p,H p=none->Q (.ref p) (upd H p (.tup (xs++ys))))
def bY.nil_iff{xs:List V}{us:List V9}(r:bY xs us):us=[]↔xs=[]:=by
 cases r with
 | nil=>simp
 | cons _ _=>simp
def aOB:OpR X (binaryOp .Add) (aUE X.K):=by
 intro a5 s σ H x y v u Q I l n h
 obtain ⟨a,b,xs,ys,rfl,rfl,e,i,k,d,m,j⟩:=h
 cases l
 cases n
 obtain ⟨g,r1,f,_⟩:=I.tuple e
 obtain ⟨c,r2,p2,_⟩:=I.tuple i
 refine HT.aN7 f p2 (fun z=>k (r1.nil_iff.mp z)) (fun z=>⟨.ref a,H,I,rfl,m (r2.nil_iff.mp z)⟩) (fun z=>?_) (by rw[<-r1.length,<-r2.length];exact d)
 refine ⟨.ref s.heap.objs.size,_,I.laid (t':=s.toks) (o:=.tup (xs++ys)) (fun b p q=>AE _ q) (AU _) ?_,rfl,j (fun w=>z (r2.nil_iff.mpr w)) _ (I.hok.fresh (AU _))⟩
 exact ⟨by rw[A5];exact d,_,r1.append r2,IsTup.new _ _⟩
end
def ixN(n:Nat)(i:Int):O9 Nat:=if 0<=i then (if i < n then some i.toNat else none) else if -(n:Int)<=i then some (i+n).toNat else none
def atI{α:Type}(xs:List α)(i:Int):O9 α:=(ixN xs.length i).bind fun j=>xs[j]?
def aOC{n:Nat}{i:Int}{j:Nat}(h:ixN n i=some j):seqIndex? i n=some j/\j < n /\ -(n:Int)<=i/\i < n:=by
 unfold ixN at h
 by_cases a:0<=i
 .rw[AL a] at h
  by_cases h1:i < n
  .rw[AL h1] at h
   have e:i.toNat=j:=BL h
   exact ⟨by rw[seqIndex_of a h1,e],by omega,by omega,h1⟩
  .rw[AK h1] at h;cases h
 .rw[AK a] at h
  by_cases h1 : -(n:Int)<=i
  .rw[AL h1] at h
   have e:(i+n).toNat=j:=BL h
   exact ⟨by rw[seqIndex_neg (by omega) h1,e],by omega,h1,by omega⟩
  .rw[AK h1] at h;cases h
def y9{α:Type}{xs:List α}{i:Int}{v:α}(h:atI xs i=some v):∃ j,seqIndex? i xs.length=some j/\xs[j]? = some v/\j < xs.length /\ -(xs.length:Int)<=i/\i < xs.length:=by
 unfold atI at h
 cases e:ixN xs.length i with
 | none=>rw[e] at h;cases h
 | some j=>
  rw[e] at h
  obtain ⟨h1,h2,a,b⟩:=aOC e
  exact ⟨j,h1,h,h2,a,b⟩
def fR{α:Type}{xs:List α}{j:Nat}{v:α}(h:xs[j]? = some v):atI xs (j:Int)=some v:=by
 have a:j < xs.length:=(AI.mp h).1
 have e:ixN xs.length (j:Int)=some j:=by
  unfold ixN
  rw[AL (by omega),AL (by omega)];simp
 unfold atI;rw[e];exact h
def aK9{α:Type}(xs:List α)(v:α):atI (xs++[v]) (-1)=some v:=by
 have a:(xs++[v]).length=xs.length+1:=by simp
 have e:ixN (xs++[v]).length (-1)=some xs.length:=by
  unfold ixN
  rw[a,AK (by decide),AL (by omega)]
  congr 1
  omega
 unfold atI
 rw[e]
 show (xs++[v])[xs.length]? = some v
 simp
def aE9(b:E3):Prop:=∀ o i,subscripted b false o i=operate [o,i] (getItem o i)
def IxR(X:Cx)(r:R2):Prop:=
 ∀ (value slice:E3) (a5:List (Az×Obj)) (s:S9) (σ:St) (H:Hp) (x y:V) (v u:V9) (Q:VK),Inv X a5 σ H s->bL x v->bL y u->r x y H Q->
  subscripted slice false v u=operate [v,u] (getItem v u)->wpAny (model X.prog X.w) X.A (subscriptTail value slice v u) (EP X a5 σ Q) X.xe s
def MtR(X:Cx)(id:String)(r:V->List V->Hp->VK->Prop):Prop:=
 ∀ (a5:List (Az×Obj)) (s:S9) (σ:St) (H:Hp) (x:V) (xs:List V) (v:V9) (us:List V9) (Q:VK),Inv X a5 σ H s->bL x v->bY xs us->r x xs H Q->
  wpAny (model X.prog X.w) X.A (call (.builtin id) (v::us)) (EP X a5 σ Q) X.xe s
section
variable{X:Cx}{a b:E3}{ta tb:TE}{pos:Pos}
def aUF{r:R2}(i:IxR X r)(c:PE X a ta)(e:PE X b tb)(f:aE9 b):PE X (.Subscript a b pos) (tOp r ta tb):=by
 intro a5 s σ H Q I h
 exact Subscript_ (aK4 c e I h fun v u g x y H2 d k j q=>i a b a5 g σ H2 x y v u Q d k j q (f _ _))
def aVL(K:Frag):R2:=fun x y H Q=>∃ p xs i v,x=.ref p/\y=.int i/\SqL K H p xs/\atI xs i=some v/\Q v H
def aVM(K:Frag):R2:=fun x y H Q=>∃ p xs i v,x=.ref p/\y=.int i/\SqT K H p xs/\atI xs i=some v/\Q v H
def aVN:R2:=fun x y H Q=>∃ z i c,x=.str z/\y=.int i/\z.length<=sizeLine/\atI z.cps.toList i=some c/\Q (.str ⟨#[c]⟩) H
def aOD:IxR X (aVL X.K):=by
 intro g f a5 s σ H x y v u Q I B D h m
 obtain ⟨p,xs,i,z,rfl,rfl,C,A,q⟩:=h
 cases B
 obtain ⟨t,rfl⟩:=D
 obtain ⟨c,r,d,G⟩:=I.list C
 obtain ⟨j,h1,h2,J,o,E⟩:=y9 A
 obtain ⟨w,l,b⟩:=r.get h2
 have n:=r.length
 have F:=xJ
 have a:EP X a5 σ Q w s:=⟨z,H,I,b,q⟩
 by_cases k:0<=i
 .have e:i.toNat=j:=by
   rw[seqIndex_of k E] at h1
   exact BL h1
  exact item_listR d.isList k (by omega) (by rw[e];simpa using l) a m
 .have e:(i+(c.toArray.size:Int)).toNat=j:=by
   rw[seqIndex_neg (by omega) o] at h1
   rw[BH,<-n]
   exact BL h1
  exact subscriptTail_builtinR (x:=w) d.isList.typeIs slot_list_getitem.lookup
   (wpAny_getItem_list_neg (Q:=fun r s'=>r=w/\EP X a5 σ Q r s') d.isList (by omega) (by rw[BH]<;>omega) (by omega) (by rw[e];simpa using l) ⟨rfl,a⟩) m
def aRR:IxR X (aVM X.K):=by
 intro d c a5 s σ H x y v u Q I l A h o
 obtain ⟨p,xs,i,z,rfl,rfl,n,k,q⟩:=h
 cases l
 obtain ⟨t,rfl⟩:=A
 obtain ⟨g,r,e,D⟩:=I.tuple n
 obtain ⟨j,h1,h2,E,C,F⟩:=y9 k
 obtain ⟨w,m,a⟩:=r.get h2
 have f:=r.length
 have B:=xJ
 have b:EP X a5 σ Q w s:=⟨z,H,I,a,q⟩
 exact subscriptTail_builtinR (x:=w) e.typeIs slot_tuple_getitem.lookup
  (getItem_tuple (j:=j) (Q:=fun r s'=>r=w/\EP X a5 σ Q r s') e (by omega) (by omega) (by rw[BH,<-f];exact h1) (by simpa using m) ⟨rfl,b⟩) o
def aRS:IxR X aVN:=by
 intro b a a5 s σ H x y v u Q I g l h k
 obtain ⟨z,i,c,rfl,rfl,o,f,q⟩:=h
 obtain ⟨t,rfl⟩:=g
 obtain ⟨p,rfl⟩:=l
 obtain ⟨j,h1,h2,r,e,m⟩:=y9 f
 have d:z.cps.toList.length=z.length:=by simp[Str.length]
 rw[d] at h1 e m
 have n:=xJ
 exact tail_any (typeIs_str s z t) slot_str_getitem.lookup (getItem_str (c:=c) (by
  have e1:decide (i < -(2 ^ 63:Int))=false:=BA (by omega)
  have e2:decide (i>=2 ^ 63)=false:=BA (by omega)
  rw[e1,e2,Bool.or_false]) (by rw[h1];simpa using h2) ⟨.str ⟨#[c]⟩,H,I.tok _,⟨_,rfl⟩,q⟩) k
def Inv.lst{a5:List (Az×Obj)}{σ:St}{H:Hp}{s:S9}{p:Az}{xs:List V}(I:Inv X a5 σ H s)(h:H p=some (.lst xs)) :
  ∃ (its:List V9) (n:Nat),bY xs its/\s.heap.get? p=some {cls:=.type "list",data:=.seq its.toArray n}/\xs.length<=sizeLine:=by
 obtain ⟨z,its,n,r,e⟩:=I.hok p _ h
 exact ⟨its,n,r,e,z⟩
def aB9(lo hi:O9 Int)(n:Nat):(sliceBounds lo hi none n).1=((HT.sIx n 0 lo:Nat):Int)/\(sliceBounds lo hi none n).2.1=((HT.sIx n n hi:Nat):Int)/\(sliceBounds lo hi none n).2.2=1:=by
 refine ⟨?_,?_,rfl⟩
 .cases lo with
  | none=>simp[sliceBounds,HT.sIx]
  | some i=>
   simp only[sliceBounds,HT.sIx,GF,show (1:Int) > 0 by decide,CD]
   by_cases h:i < 0
   · simp only [h, CD] <;> omega
   · simp only [h, DU] <;> omega
 .cases hi with
  | none=>simp[sliceBounds,HT.sIx]
  | some i=>
   simp only[sliceBounds,HT.sIx,GF,show (1:Int) > 0 by decide,CD]
   by_cases h:i < 0
   · simp only [h, CD] <;> omega
   · simp only [h, DU] <;> omega
def aBQ(a:List V9)(lo hi:O9 Int):slicePick a.toArray lo hi none=((a.drop (HT.sIx a.length 0 lo)).take (HT.sIx a.length a.length hi - HT.sIx a.length 0 lo)).toArray:=by
 obtain ⟨h1,h2,b⟩:=aB9 lo hi a.toArray.size
 unfold slicePick
 rw[h1,h2,b]
 simp only[sliceRange_one,pick_run,BH]<;>rfl
def aVO(K:Frag):V->O9 Int->O9 Int->Hp->VK->Prop:=fun x lo hi H Q=>∃ a xs,x=.ref a/\SqL K H a xs/\∀ p,H p=none->Q (.ref p) (upd H p (.lst (tQ xs lo hi)))
def aOE:SlR X (aVO X.K):=by
 intro a5 s σ H x v m p lo hi sl Q I j l g f h
 obtain ⟨a,xs,rfl,i,q⟩:=h
 cases j
 obtain ⟨e,r,d,k⟩:=I.list i
 have c:=r.length
 refine ⟨"list",_,slot_list_getitem.lookup,d.isList.typeIs,?_⟩
 refine wpAny_getItem_list_slice d.isList l g f .none (by simp) ?_ (by rw[BH]<;>omega)
 rw[aBQ,<-c]
 refine ⟨.ref s.heap.objs.size,_,I.laid (t':=s.toks) (o:=.lst (tQ xs lo hi)) (fun b n q=>AE _ q) (AU _) ?_,rfl,q _ (I.hok.fresh (AU _))⟩
 exact ⟨BR (wC xs lo hi) k,_,0,(r.drop (HT.sIx xs.length 0 lo)).take (HT.sIx xs.length xs.length hi - HT.sIx xs.length 0 lo),A4 _ rfl⟩
def aCA:lG X (.type "list") (fun xs H Q=>∃ p ys,xs=[.ref p]/\(SqL X.K H p ys\/SqT X.K H p ys)/\∀ l,H l=none->Q (.ref l) (upd H l (.lst ys))):=by
 intro a5 s σ H xs us Q I r h
 obtain ⟨p,ys,rfl,k,q⟩:=h
 obtain ⟨u,rfl,y⟩:=oM r
 cases y
 have i:∀ (a:List V9),bY ys a->ys.length<=sizeLine->∀ (h':H9) (d:Nat),(∀ b o',s.heap.get? b=some o'->h'.get? b=some o')->
   h'.get? s.heap.objs.size=some {cls:=.type "list",dict:=none,data:=.seq a.toArray d,slots:=#[]}->EP X a5 σ Q (.ref s.heap.objs.size) {s with heap:=h'}:=fun a c j h' d g e=>
  ⟨.ref s.heap.objs.size,_,I.laid (t':=s.toks) g (AU _) (show cX X.prog X.w _ h' _ (.lst ys) from ⟨j,a,d,c,e⟩),rfl,q _ (I.hok.fresh (AU _))⟩
 rcases k with k|k
 .obtain ⟨a,c,t,j⟩:=I.list k
  have f:=c.length
  obtain ⟨o,x,v,n,m⟩:=t.isList
  exact call_list_seq p (.inl rfl) x v m (fun h' d g e=>i a c j h' d g e) (by simp only[BH]<;>omega)
 .obtain ⟨a,c,t,j⟩:=I.tuple k
  have f:=c.length
  obtain ⟨o,x,v,n,m⟩:=t
  exact call_list_seq p (.inr rfl) x v m (fun h' d g e=>i a c j h' d g e) (by simp only[BH]<;>omega)
def cA:lG X (.type "tuple") (fun xs H Q=>∃ p ys,xs=[.ref p]/\((SqL X.K H p ys/\∀ l,H l=none->Q (.ref l) (upd H l (.tup ys)))\/(SqT X.K H p ys/\Q (.ref p) H))):=by
 intro a5 s σ H xs us Q I r h
 obtain ⟨p,ys,rfl,h⟩:=h
 obtain ⟨u,rfl,n⟩:=oM r
 cases n
 rcases h with ⟨d,q⟩|⟨d,q⟩
 .obtain ⟨a,c,f,i⟩:=I.list d
  have j:=c.length
  refine call_tuple_list f.isList (fun h' m=>?_) (by simp only[BH]<;>omega)
  have g:Inv X a5 σ H {s with heap:=h'}:=I.kept (t':=s.toks) m
  have k:Inv X a5 σ (upd H h'.objs.size (.tup ys)) {s with heap:=h'.push {cls:=.type "tuple",data:=.seq a.toArray}}:=
   g.laid (t':=s.toks) (fun b o e=>AE _ e) (AU _) (show cX X.prog X.w _ _ _ (.tup ys) from ⟨i,a,c,IsTup.new _ _⟩)
  exact ⟨.ref h'.objs.size,_,k,rfl,q _ (g.hok.fresh (AU _))⟩
 .obtain ⟨a,c,f,i⟩:=I.tuple d
  exact call_tuple_same f ⟨.ref p,H,I,rfl,q⟩
def tyV(K:Frag)(T:String)(x:V)(H:Hp):Prop:=match x with
 | .str _=>T="str"
 | .int _=>T="int"
 | .ref p=>(T="list"/\∃ xs,SqL K H p xs)\/(T="tuple"/\∃ o,K.lookup p=some o/\o.cls=.type "tuple"/\o.dict=none) \/
  (T="dict"/\((∃ a6,H p=some (.dK a6))\/∃ a6,H p=some (.dT a6)))\/(T="set"/\∃ S n,H p=some (.set S n))
 | _=>False
def aRT{a5:List (Az×Obj)}{σ:St}{H:Hp}{s:S9}{T:String}{x:V}{v:V9}(I:Inv X a5 σ H s)(r:bL x v)(ty:tyV X.K T x H) :
  s.TypeIs v T/\∀ a,v=.ref a->∃ ob,s.heap.get? a=some ob/\ob.dict=none:=by
 cases x with
 | str z=>
  obtain ⟨t,rfl⟩:=r
  cases (show T="str" from ty)
  exact ⟨typeIs_str s z t,fun _ e=>nomatch e⟩
 | int i=>
  obtain ⟨t,rfl⟩:=r
  cases (show T="int" from ty)
  exact ⟨typeIs_int s i t,fun _ e=>nomatch e⟩
 | ref p=>
  cases r
  rcases ty with ⟨rfl,xs,j⟩|⟨rfl,o,b,k,d⟩|⟨rfl,b⟩|⟨rfl,S,n,b⟩
  .obtain ⟨h,_,g,_⟩:=I.list j
   refine ⟨g.isList.typeIs,fun a e=>?_⟩
   cases e
   obtain ⟨o,n,e,c,d,_⟩:=g
   exact ⟨o,e,d⟩
  .refine ⟨⟨o,I.kIn p o b,k⟩,fun a e=>?_⟩
   cases e
   exact ⟨o,I.kIn _ o b,d⟩
  .have z:∃ o,s.heap.get? p=some o/\o.ExactDict:=by
    rcases b with ⟨f,b⟩|⟨f,b⟩
    .obtain ⟨_,_,_,_,o,_,_,e,ex,_⟩:=I.hok p _ b
     exact ⟨o,e,ex⟩
    .obtain ⟨_,_,_,_,o,_,_,e,ex,_⟩:=I.hok p _ b
     exact ⟨o,e,ex⟩
   obtain ⟨o,e,ex⟩:=z
   refine ⟨⟨o,e,ex.1⟩,fun a e2=>?_⟩
   cases e2
   exact ⟨o,e,ex.2.1⟩
  .obtain ⟨o,_,_,_,e,ex,_⟩:=I.hok p _ b
   refine ⟨⟨o,e,ex.1⟩,fun a e2=>?_⟩
   cases e2
   exact ⟨o,e,ex.2.1⟩
 | _=>exact False.elim ty
def tBM(K:Frag)(T:String)(r:V->List V->Hp->VK->Prop)(to:TE)(t:TA):TE:=fun σ H Q=>to σ H fun x H1=>tyV K T x H1/\t σ H1 fun xs H2=>r x xs H2 Q
variable{o e:E3}{es:List E3}{to:TE}{t:TA}{name:Str}{apos cpos:Pos}{T id:String}{r:V->List V->Hp->VK->Prop}
def kQ(p:PlainAttrs T)(slot:Slot T name id)(b:typeOf (.builtin id)=pure (.type "method_descriptor"))(k:MtR X id r)(l:PE X o to)(g:PA X (e::es) t)
  (a:attributeBase o name X.env (eval o X.env)=eval o X.env:=by rfl)
  (hfew:((backTo cpos (starEach (e::es) X.env)).all (fun x=>!x.1) && (backToKw cpos (keywordEach [] X.env)).all (fun x=>x.1.isSome)
   && decide ((e::es).length+([]:List Keyword).length+(if ([]:List Keyword).isEmpty then 0 else 1) < 30))=true:=by rfl)
  (hline:(apos.endLine == cpos.line)=true:=by rfl) (hs:starEach (e::es) X.env=(false,eval e X.env)::starEach es X.env:=by rfl) (hplain:(backTo cpos (starEach es X.env)).any (·.1)=false:=by rfl) :
  PE X (.Call (.Attribute o name apos) (e::es) [] cpos) (tBM X.K T r to t):=by
 intro a5 s σ H Q I h
 refine GY a hfew hline rfl (thn (l a5 s σ H _ I h) fun v s1 c=>?_)
 obtain ⟨x,H1,f,r1,j,n⟩:=c
 obtain ⟨h1,h2⟩:=aRT f r1 j
 refine ⟨T,id,p,slot,b,h1,h2,?_⟩
 have d:=g cpos a5 s1 σ H1 _ f n
 rw[hs] at d ⊢
 refine GZ (by show (false || (backTo cpos (starEach es X.env)).any (·.1))=false;rw[hplain]<;>rfl) (Calls.evalArgs_plain ?_)
 exact thn d fun us q ⟨vs,H2,i,r2,m⟩=>k a5 q σ H2 x vs v us Q i r1 r2 m
end
def MtM(X:Cx)(id:String)(r:V->List V->Hp->VK->Prop):Prop:=
 ∀ (a5:List (Az×Obj)) (s:S9) (σ:St) (H:Hp) (x:V) (xs:List V) (v:V9) (us:List V9) (Q:VK),Inv X a5 σ H s->bL x v->bY xs us->r x xs H Q->
  wpAny (model X.prog X.w) X.A (call (.builtin id) (v::us)) (EP X a5 σ Q) X.xe s
theorem bY.one:∀ {x:V} {us:List V9},bY [x] us->∃ u,us=[u]/\bL x u
 | _,_,.cons r .nil=>⟨_,rfl,r⟩
def bY.reverse{xs:List V}{us:List V9}(h:bY xs us):bY xs.reverse us.reverse:=by
 induction h with
 | nil=>exact .nil
 | cons r t ih=>rw[F7,F7];exact bY.append ih (.cons r .nil)
section
variable{X:Cx}{a5:List (Az×Obj)}{σ:St}{H:Hp}{s:S9}{l b:Az}{xs ys zs:List V}
def Inv.lset{a its':List V9}{n:Nat}{f:Array V9->Array V9}{t':Nat}(I:Inv X a5 σ H s)(b:H l=some (.lst xs))
  (e:s.heap.get? l=some {cls:=.type "list",data:=.seq a.toArray n}) (hf:f a.toArray=its'.toArray) (hv:bY ys its') (hz:ys.length<=sizeLine) :
  Inv X a5 σ (upd H l (.lst ys)) {s with heap:=s.heap.update l (Obj.mapSeq f),toks:=t'}:=by
 have q:=PySem.IsL.update e f
 rw[hf] at q
 refine I.write (x:=l) (e:=l) (by rw[b];exact trivial) (.inl rfl) (fun g u d c=>(EF s.heap (Obj.mapSeq f) (BX d)).trans c) ⟨_,q⟩ ?_
 exact ⟨hz,its',_,hv,q⟩
def Inv.lstM(I:Inv X a5 σ H s)(a:H l=some (.lst xs)):xs.length<=sizeLine/\∃ (its:List V9) (n:Nat),bY xs its/\xs.length=its.length/\s.heap.get? l=some {cls:=.type "list",data:=.seq its.toArray n}:=by
 obtain ⟨z,its,n,r,e⟩:=I.hok l _ a
 exact ⟨z,its,n,r,r.length,e⟩
end
section
variable{X:Cx}
def aFA:V->List V->Hp->VK->Prop:=fun x vs H Q=>∃ l xs y,x=.ref l/\vs=[y]/\H l=some (.lst xs)/\xs.length < sizeLine/\Q .non (upd H l (.lst (xs++[y])))
def gD:MtM X "list.append" aFA:=by
 intro a5 s σ H x vs v us Q I f c h
 obtain ⟨l,xs,y,rfl,rfl,b,g,q⟩:=h
 cases f
 obtain ⟨u,rfl,d⟩:=c.one
 obtain ⟨z,a,n,r,i,e⟩:=I.lstM b
 refine call_meets F.slot_list_append ⟨_,e,rfl⟩ F.entry_list_append (F.args_list_append_2 _ _) (PySem.list_append l a.toArray n u (by rw[BH];omega)) ⟨e,?_⟩
 refine ⟨.non,_,I.lset (its':=a++[u]) b e (by simp) (r.append (.cons d .nil)) ?_,rfl,q⟩
 rw[A5,B5]
 omega
end
end L2
namespace Att
open PySem.W PySem.Calls PyProof.Rows
def xL{P:Params}{h:H9}:∀ (ns:List Int) (vs:List V9),WellAll P h vs (ns.map WData.int)->IntsAre vs ns:=by
 intro ns
 induction ns with
 | nil=>
  intro vs w
  rw[BS] at w
  cases w
  exact .nil
 | cons n ns ih=>
  intro vs w
  rw[AY] at w
  cases w with
  | cons a b=>
   cases a
   exact .cons _ _ (ih _ b)
def aII{l:OpenLaw}{n:Nat}(m:l.most=some n){P:Params}{h:H9}{args:List WData}{b:List V9}
  (c:l.row.toRowW.claim.pre args=true) (j:WellAll P h b args) :
  ∃ a vs ns,b=[Value.ref a]/\args=[WData.list (ns.map WData.int)]/\h.get? a=some {cls:=.type "list",data:=.seq vs.toArray}/\IntsAre vs ns/\ns.length<=n:=by
 have i:WShape.hasAll [] args [.list .int]=true:=(pre_splitW c).1
 have k:l.pre.holds [] {args:=args}=true:=(pre_splitW c).2
 obtain ⟨d,r,rfl,h1,h2⟩:=hasAllW_cons i
 obtain rfl:=hasAllW_nil h2
 obtain ⟨xs,rfl,p⟩:=hasW_list h1
 obtain ⟨ns,rfl⟩:=items_int p
 have e:ns.length<=n:=by
  unfold OpenLaw.pre at k
  have f:(WTm.not (.lt (.lit (.int (n:Int))) (.len (.arg 0)))).holds [] {args:=[.list (ns.map .int)]}=true:=by
   have f:=(holds_andW k).1
   rw[m] at f
   exact f
  have g:=condW_of f (w_not (w_lt w_lit (w_len_list (w_arg rfl))))
  rw[AB] at g
  refine Nat.le_of_not_lt fun q=>?_
  have o:(n:Int) < ((ns.length:Nat):Int):=by omega
  first
   | (rw[AX o] at g;exact absurd g (by decide))
   | (simp at g;omega)
 cases j with
 | cons w1 w2=>
  cases w2
  cases w1 with
  | list ho hall=>exact ⟨_,_,ns,rfl,rfl,ho,xL ns _ hall,e⟩
def aIJ(l:OpenLaw)(args:List WData):l.row.toRowW.claim.post args (.bool true) args=true:=
 postW_of (r:=l.row.toRowW) (X:=(true == true))
  (show WShape.has [] (.bool true) .bool=true by first|rfl|decide|simp[WShape.has,WShape.arms,WShape.armsAll])
  (show (WTm.eq .res (.lit (.bool true))).value [] {args:=args,res:=some (.bool true),after:=args}=some (.bool (true == true)) from w_eq_bool (w_res rfl) w_lit) rfl
def attach_call{l:OpenLaw}{n:Nat}{q:P9}{b:List Str}{p:(Str->O9 V9)->H9->Prop}{t:W9->H9->Prop}{d:DefRec}
  (y:l.most=some n) (k:d.params.defaults=[])
  (call:∀ (w:W9) (s₀ s₁:S9) (mg mb:Str->O9 V9) (fa:Az) (o:Obj) (pm cd doc:V9) (a:Az) (vs:List V9) (ns:List Int),
   Ground q b [] p w s₀ mg mb s₁.heap->t w s₁.heap->
   s₁.heap.get? fa=some o->o.data=.func (docDef d.name d.params d.body d.scope pm cd doc)->s₁.heap.CodeRec cd d.name->mg d.name=some (.ref fa)->
   s₁.heap.get? a=some {cls:=.type "list",data:=.seq vs.toArray}->IntsAre vs ns->ns.length<=n->s₁.gens = #[]->
   codeAny (model l.prog w) callerA (.call (.ref fa) ⟨[.ref a],[]⟩) (fun r s'=>r=.ok (.ret (.bool true))/\OldK s₁.heap s'.heap/\s'.os=s₁.os/\AllBare s'.gens) s₁) :
  WalkO q b p t l.row.toRowW d [] (fun f vs=>PySem.call f vs):=by
 intro w s₀ s₁ mg mb G Y fa o pm cd doc D kV F x m v j B args u J h s A i I
 obtain rfl:D=.none:=Dflts.none v k
 obtain rfl:kV=.none:=Dflts.noKw v
 obtain ⟨a,vs,ns,rfl,rfl,e,c,g⟩:=aII y h i
 refine enter_call (EH (call w s₀ s₁ mg mb fa o pm cd doc a vs ns G Y F (fd_plain x) m j e c g B) fun r s' C=>?_)
 obtain ⟨rfl,h2,H,z⟩:=C
 exact ⟨.inl ⟨.bool true,.bool true,[],rfl,fun _=>rfl,.bool true,aIJ l _,fun _=>⟨List.Pairwise.nil,fun _ E=>(nomatch E)⟩⟩,h2,H,z⟩
section
variable{prog:P9}{w:W9}{A:U9}{E:V9->S9->Prop}{s:S9}{K:Frag}
def aWQ(h:H9)(L d:Az):List (Az×Obj):=(List.range h.objs.size).filterMap fun a=>if a=L\/a=d then none else (h.get? a).map fun o=>(a,o)
end
end Att
namespace L2
open PySem.Spec PyProof.Rows
theorem aA3:∀ {vs:List V9} {ns:List Int},IntsAre vs ns->bY (ns.map V.int) vs
 | _,_,.nil=>.nil
 | _,_,.cons n t h=>.cons ⟨t,rfl⟩ (aA3 h)
abbrev KOf{K:Frag}{h:H9}(_:K.In h):Frag:=K
def iZ(s:Stmt):Arguments:=match s with
 | .FunctionDef _ a _ _ _ _ _ _ _ _=>a
 | _=>{posonlyargs:=[],args:=[],vararg:=none,kwonlyargs:=[],kw_defaults:=[],kwarg:=none,defaults:=[]}
def dR(s:Stmt):List Stmt:=match s with
 | .FunctionDef _ _ b _ _ _ _ _ _ _=>b
 | _=>[]
def aO(s:Stmt):Scope:=match s with
 | .FunctionDef _ _ _ _ _ _ sc _ _ _=>sc
 | _=>{kind:=.function,names:=[],isGenerator:=false,isCoroutine:=false}
abbrev CX0:CXT:=fun _ _ _ _ _ _=>False
abbrev E0:XK:=fun _ _ _=>False
structure Fun(K:Frag)(x qual:Str)(st:Stmt)(f:Az)(fd:FuncData):Prop where
 ex:∃ (oc:V9) (od:Option Az) (kV doc pm:V9) (an:Option Az) (cdv ct:V9) (osl:Array (Option V9)),
  fd=PySem.W.fnOf x qual (iZ st) (dR st) (aO st) .none kV doc pm an cdv ct/\K.lookup f=some ⟨oc,od,.func fd,osl⟩/\PySem.W.codeIn K cdv qual=true
 kp:PySem.W.keepIn K (.ref f)=true
section
variable{P:P9}{w:W9}{K:Frag}{mg:Str->O9 V9}{base:H9}
def Fun.ok{x qual:Str}{st:Stmt}{f:Az}{fd:FuncData}{N ps:List Str}{k:Nat}{sp:Sp}(F:Fun K x qual st f fd)(S:FnScope N ps (aO st))(len:∀ vs H Q E,sp vs H Q E->vs.length=ps.length)
  (a:∀ (cdv:V9) (A:U9) (outer:List Env) (s:S9) (H:Hp) (vs:List V) (Q:VK) (E:XK),Room k (A.deeper (envOfC qual (aO st) s.heap.objs.size f cdv))->sp vs H Q E->
   ∃ t,PSs (lL CX0 P w K mg base N qual (aO st) f cdv A outer s H E).nox (dR st) t/\t {nx:=fun _ H'=>Q .non H',rt:=Q} (start N vs) H):FnOk P w K mg base CX0 (k+1) f fd ps sp:=by
 obtain ⟨i,od,kV,doc,pm,j,cdv,ct,d,rfl,e,c⟩:=F.ex
 refine aG0 e c S len fun A outer s H vs Q E g b=>?_
 obtain ⟨t,h,q⟩:=a cdv A outer s H vs Q E g b
 exact ⟨t,h.nox,q⟩
def Fun.binds{x qual:Str}{st:Stmt}{f:Az}{fd:FuncData}{ps:List Str}(F:Fun K x qual st f fd)
  (h:∀ (kV doc pm:V9) (an:O9 Az) (cdv ct:V9) (us:List V9),us.length=ps.length->bindArgs (PySem.W.fnOf x qual (iZ st) (dR st) (aO st) .none kV doc pm an cdv ct) ⟨us,[]⟩=pure (ps.zip us)):lH K fd ps []:=by
 obtain ⟨c,od,kV,doc,pm,an,cdv,ct,a,rfl,d,b⟩:=F.ex
 exact .all (h kV doc pm an cdv ct)
def aIK{x qual:Str}{st:Stmt}{f:Az}{e:V9}{od d:O9 Az}{b:Array (O9 V9)}{kV doc pm a ct:V9}(l:K.lookup f=some ⟨e,od,.func (PySem.W.fnOf x qual (iZ st) (dR st) (aO st) .none kV doc pm d a ct),b⟩)
 (c:PySem.W.codeIn K a qual=true) (k:PySem.W.keepIn K (.ref f)=true):Fun K x qual st f (PySem.W.fnOf x qual (iZ st) (dR st) (aO st) .none kV doc pm d a ct):=⟨⟨e,od,kV,doc,pm,d,a,ct,b,rfl,l,c⟩,k⟩
end
section
variable{X:Cx}
def pv(i:Nat){x:Str}{pos:Pos}(a:X.N[i]? = some x:=by rfl)(hv:Vis X.env.scope x:=by first|exact Or.inl rfl|exact Or.inr (Or.inl rfl)|exact Or.inr (Or.inr rfl))(hd:(x == ("__debug__":Str))=false:=by decide)
 (hcd:(x == ("__classdict__":Str))=false:=by decide):PE X (.Name x pos) (l8 i):=aQ3 a hv hd hcd
end
def zA{A B:Prop}(h:B):if false=true then A else B:=by
 rw[AK B9]
 exact h
def zB{A B:Prop}(h:A):if true=true then A else B:=by
 rw[AL rfl]
 exact h
def aR(H H':Hp):Prop:=∀ b o,H b=some o->H' b=some o
def aR.trans{H H1 H2:Hp}(a:aR H H1)(b:aR H1 H2):aR H H2:=fun c o h=>b c o (a c o h)
def aR.free{H H':Hp}(e:aR H H'){l:Az}(h:H' l=Option.none):H l=Option.none:=by
 cases q:H l with
 | none=>rfl
 | some o=>
  rw[e l o q] at h
  cases h
def aR.seq{K:Frag}{H H':Hp}{a:Az}{xs:List V}(e:aR H H')(h:SqL K H a xs):SqL K H' a xs:=by
 rcases h with (h|⟨o,h⟩)|h
 · exact .inl (.inl (e _ _ h))
 · exact .inl (.inr ⟨o, e _ _ h⟩)
 · exact .inr h
def aG3{env:Env}:∀ (names:List (Str×NameKind)) (a7:List (Str×Az)),(∀ x∈names,x.2=.free->∃ c,env.cells.lookup x.1=some c)->
  (∀ x c,a7.lookup x=some c->env.cells.lookup x=some c)->
  ∃ cl,(forIn names a7 fun x r=>(if (x.2 == NameKind.free)=true then (do let a <-cellOf env x.1;pure (ForInStep.yield ((x.1,a)::r))) else pure (ForInStep.yield r)):Sem (List (Str×Az)))=pure cl /\
   (∀ x c,cl.lookup x=some c->env.cells.lookup x=some c)/\(∀ x∈names,x.2=.free->∃ c,cl.lookup x.1=some c)/\∀ x c,a7.lookup x=some c->∃ c',cl.lookup x=some c':=by
 intro names
 induction names with
 | nil=>intro a7 _ h;exact ⟨a7,rfl,h,fun x o=>absurd o (by simp),fun x c e=>⟨c,e⟩⟩
 | cons x r ih=>
  intro a7 j h
  obtain ⟨n,k⟩:=x
  by_cases m:k=.free
  .subst m
   obtain ⟨c,i⟩:=j (n,.free) AS rfl
   have i:env.cells.lookup n=some c:=i
   obtain ⟨cl,e1,e2,l,g⟩:=ih ((n,c)::a7) (fun y f=>j y (AJ _ f)) (fun y d e=>by
    rw[BQ] at e
    cases q:y == n with
    | true=>rw[q] at e;cases e;have:=E1 q;subst this;exact i
    | false=>rw[q] at e;exact h y d e)
   refine ⟨cl,?_,e2,fun y f b=>?_,fun y d e=>?_⟩
   .rw[C3]
    simp only[DZ,CD]
    unfold cellOf
    simp only[i,pure_bind]
    exact e1
   .rcases AT.mp f with z|z
    .subst z
     exact g n c (by rw[BQ];simp)
    .exact l y z b
   .by_cases q:y=n
    .subst q;exact g y c (by rw[BQ];simp)
    .exact g y d (by rw[BQ,DC q];exact e)
  .obtain ⟨cl,e1,e2,l,g⟩:=ih a7 (fun y f=>j y (AJ _ f)) h
   refine ⟨cl,?_,e2,fun y f b=>?_,g⟩
   .rw[C3]
    have:(k == NameKind.free)=false:=by simpa using m
    simp only[this,CH,DU,pure_bind]
    exact e1
   .rcases AT.mp f with z|z
    .subst z;exact absurd b m
    .exact l y z b
def xM{env:Env}{scope:Scope}(b:∀ x∈scope.names,x.2=.free->∃ c,env.cells.lookup x.1=some c) :
  ∃ cl,closureFor scope env=pure cl/\(∀ x c,cl.lookup x=some c->env.cells.lookup x=some c)/\∀ x∈scope.names,x.2=.free->∃ c,cl.lookup x.1=some c:=by
 obtain ⟨cl,e1,e2,a,_⟩:=aG3 scope.names [] b (fun x c e=>by simp at e)
 refine ⟨cl,?_,e2,a⟩
 unfold closureFor
 first
  | exact e1
  | (rw[<-e1];rfl)
  | (simp only[bind_pure];exact e1)
theorem i4{env:Env}:∀ {names:List (Str×NameKind)} {x:Str} {k:NameKind},
  (names.map fun (n,k)=>if (k == NameKind.free && env.scope.kind == .function && env.kindOf n == some .cell) then (n,NameKind.cell) else (n,k)).lookup x=some k->
  k=.cell\/k=.free->(∀ y∈names,y.2≠.cell)->(x,NameKind.free)∈names
 | [],_,_,h,_,_=>by simp at h
 | (n,k0)::r,x,k,h,hk,hc=>by
  have ih:=@i4 env r x k
  rw[AY] at h
  dsimp only at h
  by_cases c:x=n
  .subst c
   by_cases a:(k0 == NameKind.free && env.scope.kind == .function && env.kindOf x == some .cell)=true
   .have:k0=.free:=by
     simp only[A3] at a
     exact E1 a.1.1
    subst this
    exact AS
   .rw[AK a,BQ] at h
    simp only[DZ] at h
    cases h
    rcases hk with rfl|rfl
    .exact absurd rfl (hc _ AS)
    .exact AS
  .have b:(x == n)=false:=DC c
   refine AJ _ (ih ?_ hk fun y d=>hc y (AJ _ d))
   split at h
   .rw[BQ,b] at h;exact h
   .rw[BQ,b] at h;exact h
def i5(X:Cx)(N:List Str)(scope:Scope)(cl:List (Str×Az))(C:Az)(s:S9)(H:Hp)(fp:List Az):Cx where
 prog:=X.prog
 w:=X.w
 K:=X.K
 mg:=X.mg
 base:=X.base
 A:=X.A
 N:=N
 s₀:=s
 H₀:=H
 env:=compEnvC scope cl C X.env
 outer:=X.stack
 stack:=X.stack
 ex:=fp
 calm:=X.calm
 fn:=fun _=>false
 pn:=[]
 xe:=fun _ _=>False
inductive Caps(X:Cx)(scope:Scope):List Str->List (Option Nat)->Prop
 | nil:Caps X scope [] []
 | own {x:Str} {N:List Str} {js:List (Option Nat)} (t:Caps X scope N js):Caps X scope (x::N) (none::js)
 | cap {x:Str} {j:Nat} {N:List Str} {js:List (Option Nat)} (h1:X.N[j]? = some x) (h2:X.env.kindOf x=some .cell\/X.env.kindOf x=some .free)
  (h3:(relabel scope X.env).names.lookup x=some .cell\/(relabel scope X.env).names.lookup x=some .free) (t:Caps X scope N js):Caps X scope (x::N) (some j::js)
def Caps.len{X:Cx}{scope:Scope}{N:List Str}{js:List (O9 Nat)}(c:Caps X scope N js):js.length=N.length:=by
 induction c with
 | nil=>rfl
 | own _ ih=>simp[ih]
 | cap _ _ _ _ ih=>simp[ih]
def Caps.get{X:Cx}{scope:Scope}{N:List Str}{js:List (O9 Nat)}(c:Caps X scope N js):∀ {i j:Nat} {x:Str},js[i]? = some (some j)->N[i]? = some x->
  X.N[j]? = some x/\(X.env.kindOf x=some .cell\/X.env.kindOf x=some .free)/\((relabel scope X.env).names.lookup x=some .cell\/(relabel scope X.env).names.lookup x=some .free):=by
 induction c with
 | nil=>intro i j x h;simp at h
 | own _ ih=>
  intro i j x h1 h2
  cases i with
  | zero=>simp at h1
  | succ i=>exact ih (by simpa using h1) (by simpa using h2)
 | cap a b d _ ih=>
  intro i j x h1 h2
  cases i with
  | zero=>
   simp at h1 h2
   subst h1 h2
   exact ⟨a,b,d⟩
  | succ i=>exact ih (by simpa using h1) (by simpa using h2)
def mO(js:List (O9 Nat))(σ:St):St:=js.map fun o=>o.bind fun j=>(σ[j]?).join
def fJ(σ σ':St):Prop:=σ'.length=σ.length/\∀ (i:Nat) v,σ[i]? = some (some v)->σ'[i]? = some (some v)
def fJ.refl(σ:St):fJ σ σ:=⟨rfl,fun _ _ h=>h⟩
def fJ.set{σ:St}{i:Nat}{v:O9 V}(h:σ[i]? = some none):fJ σ (σ.set i v):=by
 refine ⟨DQ,fun j u e=>?_⟩
 by_cases q:i=j
 · subst q; rw [h] at e; cases e
 · rw [B8 q]; exact e
def fJ.trans{a b c:St}(h:fJ a b)(k:fJ b c):fJ a c:=⟨k.1.trans h.1,fun i v e=>k.2 i v (h.2 i v e)⟩
section
variable{X:Cx}
def PIf(X:Cx)(ifs:List E3)(t:TT):Prop:=
 ∀ (a5:List (Az×Obj)) (s:S9) (σ:St) (H:Hp) (Q:Bool->Hp->Prop),Inv X a5 σ H s->t σ H Q->
  wpAny (model X.prog X.w) X.A (forIn ifs true fun c r=>if r=true then do let ok <-isTrue c X.env (eval c X.env);pure (ForInStep.yield ok) else pure (ForInStep.yield r)) (TP X a5 σ Q) X.xe s
def aVP:TT:=fun _ H Q=>Q true H
def dD:PIf X [] aVP:=by
 intro a5 s σ H Q I h
 show wpAny _ _ (pure true) _ _ s
 exact AH ⟨H,I,h⟩
end
def zC(X:Cx)(N:List Str)(scope:Scope)(js:List (O9 Nat))(tg elt:E3)(ifs:List E3)(σ:St)(x:V)(H:Hp)(R:O9 V->Hp->Prop):Prop:=
 ∀ (cl:List (Str×Az)) (C:Az) (s:S9) (H0:Hp) (fp:List Az),∃ (g:TG) (tt:TT) (te:TE),PG (i5 X N scope cl C s H0 fp) tg g/\PIf (i5 X N scope cl C s H0 fp) ifs tt/\PE (i5 X N scope cl C s H0 fp) elt te /\
  ∀ σ0,fJ (mO js σ) σ0->g x σ0 H fun σ2 H2=>fJ (mO js σ) σ2/\tt σ2 H2 fun b H3=>if b=true then te σ2 H3 fun y H4=>R (some y) H4 else R none H3
def compK(X:Cx)(N:List Str)(scope:Scope)(js:List (O9 Nat))(tg elt:E3)(ifs:List E3)(σ:St)(Q:VK)(J:It)(H1:Hp):Prop:=∃ (n:Nat) (W:Nat->List V->Hp->Prop),n<=sizeLine/\W 0 [] H1 /\
 ∀ i ys H,W i ys H->ys.length<=i/\((J.stop i H/\∀ p,H p=none->Q (.ref p) (upd H p (.lst ys)))\/(J.go i H/\i < n/\∃ R:O9 V->Hp->Prop,(∀ y H2,R (some y) H2->W (i+1) (ys++[y]) H2)/\(∀ H2,R none H2->W (i+1) ys H2) /\
  ∀ x H',J.yld i H x H'->zC X N scope js tg elt ifs σ x H' R))
def xN(X:Cx)(N:List Str)(scope:Scope)(js:List (O9 Nat))(tg elt:E3)(ifs:List E3)(wi:TI):TE:=fun σ H Q=>wi σ H (compK X N scope js tg elt ifs σ Q)
section
variable{prog:P9}{w:W9}{A:U9}{R:Result->S9->Prop}{s:S9}
theorem aCB{g a b:E3}{j:List E3}{scope:Scope}{pos:Pos}{it i:V9}{env:Env}(I:Nat->S9->Prop)
  (p:∀ n s,I n s->wpAny (model prog w) A (pyNext it) (fun r s1=>match r with
   | none=>R (.ok .next) s1
   | some v=>wpAny (model prog w) A (letOwnedTupleGo a it v) (fun _ s1'=>wpAny (model prog w) A (assign a env v) (fun _ s2=>
    wpAny (model prog w) A (forIn j true fun c r=>if r=true then do let ok <-isTrue c env (eval c env);pure (ForInStep.yield ok) else pure (ForInStep.yield r)) (fun ok s3=>
     if ok=true then wpAny (model prog w) A (eval g env) (fun x s4=>
      wpAny (model prog w) A (call (.builtin "list.append") [i,x]) (fun _ s5=>∃ m,m < n/\I m s5) (fun _ _=>False) s4) (fun _ _=>False) s3
     else ∃ m,m < n/\I m s3) (fun _ _=>False) s2) (fun _ _=>False) s1') (fun _ _=>False) s1) (fun _ _=>False) s)
  (n:Nat) (h:I n s) :
  codeAny (model prog w) A (.compLoop (.ListComp g [⟨a,b,j,0⟩] scope pos) 0 it i env) R s:=by
 refine codeAny_loop rfl I (fun n s E=>?_) n h
 show wpAny _ A ((compTurn (.ListComp g [⟨a,b,j,0⟩] scope pos) 0 it i env).onRaise (fun x=>do noteFrame x env;theTreesLotGoes x)) _ _ s
 refine wpAny_noted ?_
 rw[compTurn_list]
 have F:∀ {α:Type} {t:Sem α} {Q:α->S9->Prop} {E':V9->S9->Prop} {s:S9},wpAny (model prog w) A t Q (fun _ _=>False) s->wpAny (model prog w) A t Q E' s:=fun h=>B0 h (fun _ _ q=>q) fun _ _ f=>f.elim
 refine AA (DT (AA (B0 (p n s E) (fun r D d=>?_) fun _ _ h'=>h'.elim)))
 cases r with
 | none=>exact AH d
 | some v=>
  refine AA (B0 d (fun _ s1' u=>?_) fun _ _ f=>f.elim)
  refine AA (B0 u (fun _ B o=>AA (B0 o (fun ok z e=>?_) fun _ _ h'=>h'.elim)) fun _ _ h'=>h'.elim)
  cases ok with
  | false=>exact AH ⟨rfl,e⟩
  | true=>
   exact AA (AA (B0 e (fun x C k=>AA (B0 k (fun _ y l=>AH (AH ⟨rfl,l⟩)) fun _ _ h'=>h'.elim)) fun _ _ h'=>h'.elim))
end
def HOk.track{P:P9}{w:W9}{H:Hp}{h:H9}{a:Az}{o:HO}(x:HOk P w H h)(d:H a=none)(new:cX P w (upd H a o) h a o):HOk P w (upd H a o) h:=fun b u e=>by
 by_cases f:b=a
 .subst f;rw[bN] at e;cases e;exact new
 .rw[aU f] at e
  exact (x b u e).stay (fun c v _ q=>q) (fun c q=>by rw[aU (bT q d)];exact q) (fun c xs q=>by rw[aU (bT q d)];exact q) fun c xs q=>by rw[aU (bT q d)];exact q
section
variable{X:Cx}{a5:List (Az×Obj)}{σ:St}
structure CompEnd(X:Cx)(a5:List (Az×Obj))(σ:St)(D C:Az)(ys:List V)(H':Hp)(s':S9):Prop where
 inv:Inv X a5 σ (upd H' D (.lst ys)) s'
 ns:∃ m,s'.heap.Ns C m
 fp:k7 X a5 (upd H' D (.lst ys)) C
 nD:H' D=none
def CompEnd.gone{D C:Az}{ys:List V}{H H':Hp}{s':S9}{a:H9}{d:St}(I:Inv X a5 d H s')(c:k7 X a5 H C)(g:Heap.SameBut C s'.heap a):Inv X a5 d H {s' with heap:=a}:=
 I.turned (it:=C) (t':=s'.toks) (fun b o f e=>(g.2 b f).trans e) c.1 c.2.1 c.2.2.2.1 c.2.2.2.2.1 c.2.2.2.2.2
def aCC{prog:P9}{w:W9}{A:U9}{E:V9->S9->Prop}{s:S9}{l:Az}{items:Array V9}{a:Nat}{x:V9}{Q:V9->S9->Prop}(e:s.heap.get? l=some {cls:=.type "list",dict:=none,data:=.seq items a})(hz:items.size<=sizeLine)
  (hQ:∀ nn' h',h'.get? l=some {cls:=.type "list",dict:=none,data:=.seq (items.push x) nn'}->Heap.SameBut l s.heap h'->Q .none {s with heap:=h'}) :
  wpAny (model prog w) A (call (.builtin "list.append") [.ref l,x]) Q E s:=by
 refine call_meets F.slot_list_append ⟨_,e,rfl⟩ F.entry_list_append (F.args_list_append_2 _ _) (PySem.list_append l items a x (by omega)) ⟨e,?_⟩
 exact hQ _ _ (CO _ e rfl) (CI ..)
def xO{N:List Str}{js:List (O9 Nat)}{scope:Scope}{tg aq ad:E3}{ap:List E3}{cl:List (Str×Az)}{pos:Pos}{it:Az}{M:List Az}{tn:Nat->H9->Prop}{J:It}{B:S9}{H2:Hp}{E:V9->S9->Prop}
  {RR:V9->Az->Result->S9->Prop} {Q:VK} (hc:X.calm=true) (ae:Caps X scope N js) (P:scope.kind=.function) (s:∀ y∈scope.names,y.2≠.cell)
  (f:∀ x c,cl.lookup x=some c->X.env.cells.lookup x=some c) (ai:∀ x∈scope.names,x.2=.free->∃ c,cl.lookup x.1=some c)
  (I:Inv X a5 σ H2 B) (T:Turn X.prog X.w X.K tg J M it tn) (bd:tn 0 B.heap) (Z:∀ b∈M,k7 X a5 H2 b) (n:Nat) (W:Nat->List V->Hp->Prop) (hn:n<=sizeLine) (w0:W 0 [] H2)
  (bc:∀ i ys H,W i ys H->ys.length<=i/\((J.stop i H/\∀ p,H p=none->Q (.ref p) (upd H p (.lst ys)))\/(J.go i H/\i < n/\∃ R:O9 V->Hp->Prop,(∀ y H2,R (some y) H2->W (i+1) (ys++[y]) H2)/\(∀ H2,R none H2->W (i+1) ys H2) /\
   ∀ x H',J.yld i H x H'->zC X N scope js tg aq ap σ x H' R)))
  (bp:∀ D C ys H' s',CompEnd X a5 σ D C ys H' s'->Q (.ref D) (upd H' D (.lst ys))->RR (.ref D) C (.ok .next) s') :
  wpAny (model X.prog X.w) X.A (newList []) (fun a7 s3=>wpAny (model X.prog X.w) X.A (newFunctionEnv scope X.env.globals cl [] X.env.qual none .none (some X.env)) (fun cenv s4=>
   codeAny (model X.prog X.w) X.A (.compStart (.ListComp aq [⟨tg,ad,ap,0⟩] scope pos) 0 (.ref it) a7 {cenv with scope:=relabel scope X.env}) (RR a7 cenv.locals) s4) E s3) E B:=by
 refine CV (wpAny_newFunctionEnv s (by intro y hy;simp at hy) (fun G F h=>?_) P)
 dsimp only at F h ⊢
 generalize am:B.heap.push {cls:=.type "list",dict:=none,data:=.seq ([]:List V9).toArray}=Hh at F h ⊢
 have hC:Hh.objs.size=B.heap.objs.size+1:=by rw[<-am,B6]
 have aa:B.heap.objs.size≠Hh.objs.size:=by rw[hC];exact BP (GG _)
 have O:B.heap.objs.size<=Hh.objs.size:=by rw[hC];exact Nat.le_succ _
 have U:∀ b o,B.heap.get? b=some o->G.get? b=some o:=fun b o e=>h.extBut b o (by rw[hC];exact BP (F8 (AV e))) (AE _ (am▸AE _ e))
 have aj:G.get? B.heap.objs.size=some {cls:=.type "list",dict:=none,data:=.seq ([]:List V9).toArray}:=h.extBut _ _ aa (AE _ (am▸A4 _ rfl))
 have ay:tn 0 G:=T.keep _ _ _ bd fun b a o e=>U b o e
 have af:∀ b∈M,b < B.heap.objs.size:=fun b a=>by
  obtain ⟨o,e,_⟩:=T.obj _ _ bd b a
  exact AV e
 have ba:∀ b∈frs X.stack,b < B.heap.objs.size:=fun b a=>by
  rcases AT.mp (I.stkSub b a) with z|z
  .rw[z];exact I.lt
  .refine Nat.lt_of_not_le fun bo=>I.nofs bo z
 have bj:∀ b∈M,b≠Hh.objs.size:=fun b a z=>BW _ (A8 (af b a) (z▸O))
 generalize hD:B.heap.objs.size=D at *
 generalize cf:Hh.objs.size=C at *
 let X':=i5 X N scope cl C B H2 M
 have az:X'.Ok:=by
  refine ⟨I.ok.mod,P,I.ok.glob,I.ok.blt,by show B.heap.objs.size<=C;rw[hD];exact O,fun x y c e1 e2=>I.ok.inj x y c (f x c e1) (f y c e2),fun x hx=>?_,fun x c z=>absurd (show false=true from z) B9,I.ok.hd,I.ok.frames,.inl rfl,fun b a=>?_,
   I.bs,BR I.ok.bsz I.sz,fun b o e a=>?_,fun b a z=>?_,I.stack,I.stkFree⟩
  .have hm:(x,NameKind.free)∈scope.names:=by
    rcases hx with z|z
    .exact i4 (env:=X.env) z (.inl rfl) s
    .exact i4 (env:=X.env) z (.inr rfl) s
   exact ai _ hm rfl
  .exact ⟨bj b a,fun x c e=>(Z b a).2.2.2.2.1 x c (f x c e)⟩
  .rcases (Z b a).2.2.2.1 with z|z
   .exact I.ok.noex b o e z
   .exact absurd (AV (I.ok.bs b o e).1) (Nat.not_lt.mpr z)
  .rcases AT.mp (I.stkSub b z) with q|q
   .exact (Z b a).2.1 q
   .exact (Z b a).2.2.1 q
 have bh:(mO js σ).length=N.length:=by unfold mO;rw[AB,ae.len]
 have freeC:H2 C=none:=I.hok.fresh (by rw[hD];exact O)
 have S:H2 D=none:=I.hok.fresh (by rw[hD];exact AU _)
 have DnotFs:D∉frs X.stack:=fun z=>BW _ (ba D z)
 have DnotFp:D∉M:=fun z=>BW _ (af D z)
 have I0:∀ tk,Inv X' [] (mO js σ) H2 {B with heap:=G,toks:=tk}:=fun tk=>by
  refine ⟨az,rfl,I.bare,Un.kept U,⟨_,F,fun i x v e1 e2 e3=>?_⟩,fun x c e=>?_,freeC,fun x c e=>I.freeC x c (f x c e),fun p L=>absurd L (by show ¬ p∈([]++[]:List (Az×Obj));simp),I.hok.kept U,bh⟩
  .unfold mO at e2
   rw[AC] at e2
   cases q:js[i]? with
   | none=>rw[q] at e2;cases e2
   | some o=>
    rw[q] at e2
    cases o with
    | none=>cases e2
    | some j=>
     have ac:(σ[j]?).join=some v:=BL e2
     obtain ⟨c1,c2,c3⟩:=ae.get q e1
     have e4:σ[j]? = some (some v):=by
      cases z:σ[j]? with
      | none=>rw[z] at ac;cases ac
      | some u=>rw[z] at ac;have:u=some v:=ac;rw[this]
     obtain ⟨m,hm,hl⟩:=I.loc
     have bu:Vis X.env.scope x:=by
      rcases c2 with z|z
      · exact .inr (.inl z)
      · exact .inr (.inr z)
     obtain ⟨u,r,l⟩:=hl j x v c1 e4 bu
     refine ⟨u,r,.inr ⟨c3,?_⟩⟩
     have lc:∃ c,X.env.cells.lookup x=some c/\B.heap.IsCell c (some u):=by
      rcases l with ⟨k,_⟩|⟨_,z⟩
      · rcases c2 with z | z <;> (rw [k] at z; cases z)
      · exact z
     obtain ⟨c,e5,o,ho,hd⟩:=lc
     have bq:(x,NameKind.free)∈scope.names:=by
      rcases c3 with z|z
      · exact i4 (env := X.env) z (.inl rfl) s
      · exact i4 (env := X.env) z (.inr rfl) s
     obtain ⟨c',e6⟩:=ai _ bq rfl
     have e7:=f _ _ e6
     rw[e5] at e7;cases e7
     exact ⟨c,e6,o,U c o ho,hd⟩
  .obtain ⟨v,o,ho,hd⟩:=I.cell x c (f x c e)
   exact ⟨v,o,U c o ho,hd⟩
 have ah:∀ {H':Hp} {pl:List (Az×Obj)},(∀ b∈M,H' b=none)->(∀ b∈M,∀ p∈pl,p.1≠b)->∀ b∈M,k7 X' pl H' b:=fun {H' pl} hn hpl b a=>by
  refine ⟨hn b a,bj b a,az.exfs b a,.inl a,fun x c e=>(Z b a).2.2.2.2.1 x c (f x c e),fun p L=>hpl b a p ?_⟩
  have br:p∈[]++pl:=L
  simpa using br
 let LI:Nat->S9->Prop:=fun k s'=>∃ i ys its nn σ' H',k=n+1 - i/\i<=n/\W i ys H'/\tn i s'.heap/\(∀ b∈M,H' b=none)/\bY ys its/\fJ (mO js σ) σ' /\
  Inv X' [(D,{cls:=.type "list",dict:=none,data:=.seq its.toArray nn})] σ' H' s'
 have ag:∀ tk,codeAny (model X.prog X.w) X.A (.compLoop (.ListComp aq [⟨tg,ad,ap,0⟩] scope pos) 0 (.ref it) (.ref D) (compEnvC scope cl C X.env)) (RR (.ref D) C) {B with heap:=G,toks:=tk}:=by
  intro tk
  refine aCB LI ?_ (n+1) ⟨0,[],[],0,mO js σ,H2,rfl,CM _,w0,ay,fun b a=>(Z b a).1,.nil,fJ.refl _,?_⟩
  .rintro k s3 ⟨i,ys,its,nn,σ3,H3,rfl,hin,w3,st3,fr3,r3,ks,I3⟩
   obtain ⟨ax,tr⟩:=bc i ys H3 w3
   have av:=ah (pl:=[(D,{cls:=.type "list",dict:=none,data:=.seq its.toArray nn})]) fr3 (fun b a p L z=>by
    rw[AQ.mp L] at z
    exact DnotFp ((show D=b from z)▸a))
   rcases tr with ⟨stop,q⟩|⟨go,bg,RW,bz,cb,step⟩
   .refine thn (T.done X' rfl rfl rfl hc i _ s3 σ3 H3 _ I3 av st3 stop) fun r s4 t=>?_
    obtain ⟨hr,I4⟩:=t
    subst hr
    show RR (.ref D) C (.ok .next) s4
    obtain ⟨pe,pn,p1,p2,p3⟩:=I4.pin (D,{cls:=.type "list",dict:=none,data:=.seq its.toArray nn}) (by show _∈[]++_;simp)
    refine bp D C ys H3 s4 ?_ (q D pn)
    have bf:HOk X.prog X.w (upd H3 D (.lst ys)) s4.heap:=HOk.track I4.hok pn ⟨BR ax (BR hin hn),its,nn,r3,pe⟩
    have ak:∀ b u,H2 b=some u->b≠D:=fun b u e z=>by rw[z,S] at e;cases e
    have bv:Un (frs X.stack) M H2 (upd H3 D (.lst ys)) B.heap s4.heap:=by
     have ub:=I4.base
     refine ⟨ub.keep,ub.slot,fun b o e ao hx=>?_,ub.there,fun b xs e=>?_,fun b o u e=>?_,fun b ps e=>?_⟩
     .rw[aU (fun z=>by have:=AV e;rw[hD,z] at this;exact BW _ this)]
      exact ub.free b o e ao hx
     .rw[aU (ak b _ e)];exact ub.tups b xs e
     .rw[aU (ak b _ e)];exact ub.frzs b o u e
     .rw[aU (ak b _ e)];exact ub.tbls b ps e
    refine ⟨I.call' I4.os bv bf I4.bare fun b a=>⟨(Z b a).2.2.2.1,(Z b a).2.1,(Z b a).2.2.2.2.1,(Z b a).2.2.2.2.2⟩,?_,?_,pn⟩
    .obtain ⟨m,hm,_⟩:=I4.loc
     exact ⟨m,hm⟩
    .refine I.fpOk (by rw[hD];exact O) ?_
     rw[aU (BX aa)]
     exact I4.free
   .refine thn (T.item X' rfl rfl rfl hc i _ s3 σ3 H3 _ I3 av st3 go) fun r s4 t=>?_
    obtain ⟨u,hr,h4⟩:=t
    subst hr
    show wpAny _ _ (letOwnedTupleGo tg (.ref it) u) _ _ s4
    refine thn h4 fun _ s5 t=>?_
    obtain ⟨x,H5,I5,r5,y5,al,bw⟩:=t
    obtain ⟨g,tt,te,hg,ht,he,hq⟩:=step x H5 y5 cl C B H2 M
    have bi:=ah (pl:=[(D,{cls:=.type "list",dict:=none,data:=.seq its.toArray nn})]) bw (fun b a p L z=>by
     rw[AQ.mp L] at z
     exact DnotFp ((show D=b from z)▸a))
    have bx:=I5.pinned bi (T.obj _ _ al)
    refine thn (hg _ s5 σ3 H5 x u _ bx r5 (hq σ3 ks)) fun _ s6 t=>?_
    obtain ⟨Y,H6,I6,au,q6⟩:=t
    refine thn (ht _ s6 Y H6 _ I6 q6) fun b s7 t=>?_
    obtain ⟨H7,I7,q7⟩:=t
    have aw:∀ {s':S9} {H':Hp} {σ':St},Inv X' ([(D,{cls:=.type "list",dict:=none,data:=.seq its.toArray nn})]++tN M s5.heap) σ' H' s'->tn (i+1) s'.heap/\(∀ b∈M,H' b=none):=fun {s' H' σ'} I'=>by
     refine ⟨T.keep _ _ _ al fun b a o e=>(I'.pin (b,o) (B4 _ (B4 _ (oK a e)))).1,fun b a=>?_⟩
     obtain ⟨o,e,d⟩:=T.obj _ _ al b a
     exact (I'.pin (b,o) (B4 _ (B4 _ (oK a e)))).2.1
    cases b with
    | false=>
     rw[AK B9] at q7 ⊢
     obtain ⟨a1,a2⟩:=aw I7
     exact ⟨n+1 - (i+1),by omega,i+1,ys,its,nn,Y,H7,rfl,bg,cb _ q7,a1,a2,r3,au,I7.unpinned⟩
    | true=>
     rw[AL rfl] at q7 ⊢
     refine thn (he _ s7 Y H7 _ I7 q7) fun yv s8 t=>?_
     obtain ⟨y,H8,I8,r8,q8⟩:=t
     obtain ⟨a1,a2⟩:=aw I8
     have I8u:=I8.unpinned
     obtain ⟨pe,pn,p1,p2,p3⟩:=I8u.pin (D,{cls:=.type "list",dict:=none,data:=.seq its.toArray nn}) (by show _∈[]++_;simp)
     have ci:s8.heap.IsList D its.toArray:=PySem.IsL.isList pe
     have bn:its.length<=sizeLine:=by rw[<-r3.length];exact BR ax (BR hin hn)
     refine aCC pe (by simpa using bn) fun ao h9 e9 be=>?_
     have I9:Inv X' [] Y H8 {s8 with heap:=h9,toks:=s8.toks}:=by
      refine Inv.turned (a5:=[]) (it:=D) (t':=s8.toks) (I8u.pins_of (pins':=[]) fun p L=>absurd L (by simp)) (fun b o a e=>(be.2 b a).trans e) pn aa (.inr (by show B.heap.objs.size<=D;rw[hD];exact AU _)) (fun x c e z=>?_) fun p L=>absurd L (by show ¬ p∈([]++[]:List (Az×Obj));simp)
      obtain ⟨v,o,ho,hd⟩:=I.cell x c (f x c e)
      have:=AV ho
      rw[hD,z] at this
      exact BW _ this
     refine ⟨n+1 - (i+1),by omega,i+1,ys++[y],its++[yv],ao,Y,H8,rfl,bg,bz _ _ q8,?_,a2,bY.append r3 (.cons r8 .nil),au,?_⟩
     .exact T.keep _ _ _ a1 fun b a o e=>(be.2 b (fun z=>DnotFp (z▸a))).trans e
     .refine I9.pins_of fun p L=>?_
      obtain rfl:=AQ.mp L
      exact ⟨by simpa using e9,pn,p1,p2,by simp⟩
  .refine (I0 tk).pins_of fun p L=>?_
   obtain rfl:=AQ.mp L
   exact ⟨aj,S,aa,DnotFs,by simp⟩
 exact codeAny_compStart_list (ag _) (T.self X.A 0 _ _ _ ay (ag _))
def gE(names:List (Str×NameKind))(outer:Str->O9 NameKind):Bool:=
 names.all (fun y=>y.2 != .cell) && names.all (fun y=>y.2 != .local || names.lookup y.1 == some .local) && names.all (fun y=>y.2 != .free || outer y.1 == some .cell || outer y.1 == some .free)
def gE.cell{names:List (Str×NameKind)}{outer:Str->O9 NameKind}(h:gE names outer=true):∀ y∈names,y.2≠.cell:=fun y a=>by
 unfold gE at h
 simp only[A3,BY] at h
 simpa using h.1.1 y a
theorem gE.names{names:List (Str×NameKind)}{outer:Str->O9 NameKind}(h:gE names outer=true):∀ y∈names,y.2=.local->names.lookup y.1=some .local:=fun y a e=>by
 unfold gE at h
 simp only[A3,BY] at h
 have:=h.1.2 y a
 rw[e] at this
 simpa using this
def gE.free{names:List (Str×NameKind)}{outer:Str->O9 NameKind}(h:gE names outer=true):∀ y∈names,y.2=.free->outer y.1=some .cell\/outer y.1=some .free:=fun y a e=>by
 unfold gE at h
 simp only[A3,BY] at h
 have:=h.2 y a
 rw[e] at this
 simpa using this
def eG{N:List Str}{js:List (O9 Nat)}{scope:Scope}{tg d b:E3}{f:List E3}{pos:Pos}{l:TI}(p:X.calm=true)(c:Caps X scope N js)(hok:gE scope.names X.env.kindOf=true)
  (hi:PI X tg b l) (a:scope.kind=.function:=by rfl) (hs:∀ x,foldedSetIterable b X.env x=pure x:=by intro _;rfl) :
  PE X (.ListComp d [⟨tg,b,f,0⟩] scope pos) (xN X N scope js tg d f l):=by
 intro a5 s σ H Q I h
 obtain ⟨cl,e1,e2,B⟩:=xM (env:=X.env) (scope:=scope) fun x y z=>I.ok.has _ (gE.free hok x y z)
 rw[eval_ListComp]
 refine GH (use:=none) rfl hs e1 a (gE.names hok) (thn (hi a5 s σ H _ I h) fun v s1 h1=>thn h1 fun r L h2=>?_)
 obtain ⟨G,fp,K,J,H2,rfl,t,T,k,E,n,W,o,F,e⟩:=h2
 refine xO (RR:=fun j C=>compPost (model X.prog X.w) X.A X.xe none (EP X a5 σ Q) j C) (Q:=Q) p c a (gE.cell hok) e2 B t T k E n W o F e ?_
 intro D C ys H' s' i q
 obtain ⟨m,u⟩:=i.ns
 exact ⟨m,u,fun h' g=>⟨.ref D,_,CompEnd.gone (D:=D) (ys:=ys) (H':=H') i.inv i.fp g,rfl,q⟩⟩
def rX{i:Nat}{x:Str}{N:List Str}{js:List (O9 Nat)}{scope:Scope}{tg f c:E3}{g:List E3}{pos b j:Pos}{K:TI}(S:X.N.Nodup)(E:X.N[i]? = some x)(hx:Loc X.env.scope x)
  (y:swapsWith (.ListComp f [⟨tg,c,g,0⟩] scope pos) (some (.Name x b)) j.line X.env=pure true) (O:X.calm=true) (l:Caps X scope N js) (hok:gE scope.names X.env.kindOf=true)
  (hi:PI X tg c K) (d:scope.kind=.function:=by rfl) (F:X.fn x=true\/X.env.scope.names.lookup x=some .local:=by exact .inl rfl) (hs:∀ x,foldedSetIterable c X.env x=pure x:=by intro _;rfl) :
  PS X (.Assign [.Name x b] (.ListComp f [⟨tg,c,g,0⟩] scope pos) j) (nZ (xN X N scope js tg f g K) (l9 i)):=by
 intro a5 s σ H D I h
 obtain ⟨cl,e1,e2,e3⟩:=xM (env:=X.env) (scope:=scope) fun x hx F=>I.ok.has _ (gE.free hok x hx F)
 rw[exec_Assign_Name_used _ _ _ _ y]
 refine AA (DT (AA ?_))
 show wpAny _ X.A (do let _ <-comprehension (.ListComp f [⟨tg,c,g,0⟩] scope pos) scope X.env _ (newList []) false (eval c X.env) (some (assign (.Name x b) X.env))) _ _ s
 refine AA (B0 (GH (use:=some (assign (.Name x b) X.env)) (Q:=fun _ s'=>SP X a5 D .next s') rfl hs e1 d (gE.names hok)
  (thn (hi a5 s σ H _ I h) fun v s1 h1=>thn h1 fun P s2 h2=>?_)) (fun _ s' U=>AH (AH U)) fun _ _ e=>e)
 obtain ⟨it,fp,tn,J,H2,rfl,Y,T,G,f2,n,W,M,w0,o⟩:=h2
 refine xO (RR:=fun u C=>compPost (model X.prog X.w) X.A X.xe (some (assign (.Name x b) X.env)) (fun _ s'=>SP X a5 D .next s') u C) (Q:=fun v H'=>D.nx (σ.set i (some v)) H') O l d (gE.cell hok) e2 e3 Y T G f2 n W M w0 o ?_
 intro L C ys H' s' k q
 show wpAny _ X.A (assign (.Name x b) X.env (.ref L)) _ _ s'
 refine wpAny_assign_Name (aAZ (v:=.ref L) k.inv S E hx rfl (fun R B sb=>?_) F)
 obtain ⟨a,r,V⟩:=sb
 have p:C≠a:=by
  rcases V with z|z
  · rw [z]; exact k.fp.2.1
  · exact fun Z => k.fp.2.2.2.2.1 x a z Z.symm
 obtain ⟨m,hm⟩:=k.ns
 exact ⟨m,hm.sameBut r p,fun h' t=>⟨_,_,CompEnd.gone (D:=L) (ys:=ys) (H':=H') B k.fp t,q⟩⟩
end
def aNC(W:Nat->List V->Hp->Prop)(i:Nat)(ys:List V):O9 V->Hp->Prop
 | some y,H=>W (i+1) (ys++[y]) H
 | none,H=>W (i+1) ys H
def aOF{X:Cx}{J:It}{N:List Str}{scope:Scope}{js:List (O9 Nat)}{tg c:E3}{b:List E3}{σ:St}{Q:VK}{n:Nat}{H1:Hp}(W:Nat->List V->Hp->Prop)(hz:n<=sizeLine)(g:W 0 [] H1)
  (h:∀ i ys H,i<=n->W i ys H->ys.length<=i) (f:∀ i ys H,i < n->W i ys H->J.go i H) (d:∀ ys H,W n ys H->J.stop n H)
  (step:∀ i x ys H H',i < n->W i ys H->J.yld i H x H'->zC X N scope js tg c b σ x H' (aNC W i ys))
  (done:∀ ys H,W n ys H->∀ p,H p=none->Q (.ref p) (upd H p (.lst ys))) :
  compK X N scope js tg c b σ Q J H1:=by
 refine ⟨n,fun i ys H=>i<=n/\W i ys H,hz,⟨CM _,g⟩,?_⟩
 rintro i ys H ⟨hi,w⟩
 refine ⟨h i ys H hi w,?_⟩
 by_cases a:i < n
 .exact .inr ⟨f i ys H a w,a,aNC W i ys,fun y H2 q=>⟨a,q⟩,fun H2 q=>⟨a,q⟩,fun x H' y=>step i x ys H H' a w y⟩
 .have e:i=n:=by omega
  subst e
  exact .inl ⟨d ys H w,done ys H w⟩
mutual
inductive DatV(K:Frag)(H:Hp):V->Dz->Prop
 | non:DatV K H .non .none
 | bl (b:Bool):DatV K H (.bl b) (.bool b)
 | int (i:Int):DatV K H (.int i) (.int i)
 | str (x:Str):DatV K H (.str x) (.str x)
 | lst {a:Az} {xs:List V} {ds:List Dz}:SqL K H a xs->DatVs K H xs ds->DatV K H (.ref a) (.list ds)
 | tup {a:Az} {xs:List V} {ds:List Dz}:SqT K H a xs->DatVs K H xs ds->DatV K H (.ref a) (.tuple ds)
inductive DatVs(K:Frag)(H:Hp):List V->List Dz->Prop
 | nil:DatVs K H [] []
 | cons {x:V} {d:Dz} {xs:List V} {ds:List Dz}:DatV K H x d->DatVs K H xs ds->DatVs K H (x::xs) (d::ds)
end
section
variable{X:Cx}{a5:List (Az×Obj)}{σ:St}{H:Hp}{s:S9}
def DatV.reads(I:Inv X a5 σ H s){x:V}{d:Dz}{u:V9}(h:DatV X.K H x d)(r:bL x u):∃ as,Reads s.heap u d as:=by
 refine DatV.rec (motive_1:=fun x d _=>∀ u,bL x u->∃ as,Reads s.heap u d as) (motive_2:=fun xs ds _=>∀ us,bY xs us->∃ as,ReadsAll s.heap us ds as) ?_ ?_ ?_ ?_ ?_ ?_ ?_ ?_ h u r
 .intro u r;cases r;exact ⟨_,.none⟩
 .intro b u r;cases r;exact ⟨_,.bool b⟩
 .intro i u r;obtain ⟨t,rfl⟩:=r;exact ⟨_,.int i t⟩
 .intro x u r;obtain ⟨t,rfl⟩:=r;exact ⟨_,.str x t⟩
 .intro a xs ds h _ g u r
  cases r
  obtain ⟨j,f,p,k⟩:=I.list h
  obtain ⟨o,e,c,n,d⟩:=p.isList
  obtain ⟨as,q⟩:=g _ f
  exact ⟨_,.list e c d (by simpa using q)⟩
 .intro a xs ds h _ g u r
  cases r
  obtain ⟨j,f,p,k⟩:=I.tuple h
  obtain ⟨o,e,c,n,d⟩:=p
  obtain ⟨as,q⟩:=g _ f
  exact ⟨_,.tuple e c d (by simpa using q)⟩
 .intro us r;cases r;exact ⟨_,.nil⟩
 .intro x d xs ds _ _ l m us r
  cases r with
  | cons r1 r2=>
   obtain ⟨as,q⟩:=l _ r1
   obtain ⟨bs,v⟩:=m _ r2
   exact ⟨_,.cons q v⟩
def aRU(f:X.A.units+64 < cLine):OpR X (compareOp .Eq) (fun x y H Q=>∃ d e,DatV X.K H x d/\DatV X.K H y e/\SeqAt.shaped d=true/\SeqAt.shaped e=true/\Q (.bl (PyData.eqv d e)) H):=by
 intro a5 s σ H x y u v Q I j i h
 obtain ⟨d,e,g,a,c,b,q⟩:=h
 obtain ⟨k,r1⟩:=g.reads I j
 obtain ⟨bs,r2⟩:=a.reads I i
 exact eq_dataH r1 r2 c b f ⟨.bl _,H,I,rfl,q⟩
def aRV(f:X.A.units+64 < cLine):OpR X (compareOp .NotEq) (fun x y H Q=>∃ d e,DatV X.K H x d/\DatV X.K H y e/\SeqAt.shaped d=true/\SeqAt.shaped e=true/\Q (.bl (!PyData.eqv d e)) H):=by
 intro a5 s σ H x y u v Q I j i h
 obtain ⟨d,e,g,a,c,b,q⟩:=h
 obtain ⟨k,r1⟩:=g.reads I j
 obtain ⟨bs,r2⟩:=a.reads I i
 exact ne_dataH r1 r2 c b f ⟨.bl _,H,I,rfl,q⟩
end
def SqL.same{K:Frag}{H H':Hp}{a:Az}{xs:List V}(e:aR H H')(h:SqL K H a xs):SqL K H' a xs:=aR.seq e h
def SqT.same{K:Frag}{H H':Hp}{a:Az}{xs:List V}(e:aR H H')(h:SqT K H a xs):SqT K H' a xs:=by
 rcases h with (h|⟨o,h⟩)|h
 · exact .inl (.inl (e _ _ h))
 · exact .inl (.inr ⟨o, e _ _ h⟩)
 · exact .inr h
def DatV.same{K:Frag}{H H':Hp}(e:aR H H'){x:V}{d:Dz}(h:DatV K H x d):DatV K H' x d:=
 DatV.rec (motive_1:=fun x d _=>DatV K H' x d) (motive_2:=fun xs ds _=>DatVs K H' xs ds) .non .bl .int .str (fun h _ q=>.lst (h.same e) q) (fun h _ q=>.tup (h.same e) q) .nil (fun _ _ p q=>.cons p q) h
def DatVs.same{K:Frag}{H H':Hp}(e:aR H H'){xs:List V}{ds:List Dz}(h:DatVs K H xs ds):DatVs K H' xs ds:=
 DatVs.rec (motive_1:=fun x d _=>DatV K H' x d) (motive_2:=fun xs ds _=>DatVs K H' xs ds) .non .bl .int .str (fun h _ q=>.lst (h.same e) q) (fun h _ q=>.tup (h.same e) q) .nil (fun _ _ p q=>.cons p q) h
theorem aR.upd{H:Hp}{a:Az}{o:HO}(h:H a=none):aR H (upd H a o):=fun b u e=>by rw[aU (bT e h)];exact e
theorem DatVs.length{K:Frag}{H:Hp}:∀ {xs:List V} {ds:List Dz},DatVs K H xs ds->xs.length=ds.length
 | _,_,.nil=>rfl
 | _,_,.cons _ t=>by simp[DatVs.length t]
theorem DatVs.append{K:Frag}{H:Hp}:∀ {xs ys:List V} {ds es:List Dz},DatVs K H xs ds->DatVs K H ys es->DatVs K H (xs++ys) (ds++es)
 | _,_,_,_,.nil,h=>h
 | _,_,_,_,.cons a t,h=>.cons a (DatVs.append t h)
theorem DatVs.get{K:Frag}{H:Hp}:∀ {xs:List V} {ds:List Dz} {i:Nat} {x:V},DatVs K H xs ds->xs[i]? = some x->∃ d,ds[i]? = some d/\DatV K H x d
 | _,_,_,_,.nil,e=>by simp at e
 | _,_,0,_,.cons a t,e=>by simp at e;subst e;exact ⟨_,by simp,a⟩
 | _,_,i+1,x,.cons a t,e=>by
  obtain ⟨d,h1,h2⟩:=DatVs.get (i:=i) (x:=x) t (by simpa using e)
  exact ⟨d,by simpa using h1,h2⟩
theorem DatVs.get'{K:Frag}{H:Hp}:∀ {xs:List V} {ds:List Dz} {i:Nat} {d:Dz},DatVs K H xs ds->ds[i]? = some d->∃ x,xs[i]? = some x/\DatV K H x d
 | _,_,_,_,.nil,e=>by simp at e
 | _,_,0,_,.cons a t,e=>by simp at e;subst e;exact ⟨_,by simp,a⟩
 | _,_,i+1,x,.cons a t,e=>by
  obtain ⟨d,h1,h2⟩:=DatVs.get' (i:=i) (d:=x) t (by simpa using e)
  exact ⟨d,by simpa using h1,h2⟩
theorem DatVs.drop{K:Frag}{H:Hp}:∀ {xs:List V} {ds:List Dz} (n:Nat),DatVs K H xs ds->DatVs K H (xs.drop n) (ds.drop n)
 | _,_,0,h=>h
 | _,_,_+1,.nil=>.nil
 | _,_,n+1,.cons _ t=>DatVs.drop n t
theorem DatVs.take{K:Frag}{H:Hp}:∀ {xs:List V} {ds:List Dz} (n:Nat),DatVs K H xs ds->DatVs K H (xs.take n) (ds.take n)
 | _,_,0,_=>.nil
 | _,_,_+1,.nil=>.nil
 | _,_,n+1,.cons a t=>.cons a (DatVs.take n t)
end L2
namespace SX
open PySem.W
section
variable{prog:P9}{w:W9}{A:U9}{E:V9->S9->Prop}{h:H9}{g:Array GenState}{d:Drawn}{t:Nat}{os:OsState}{K:Frag}
variable{nm q:Str}{C N:Az}{bs bm bmB:List V9}{hdct:Bool}{sn:List Str}{sub:List V9}{ab:Bool}{col:O9 Bool}{dd:O9 Az}{k0 k1 k2 k3 k5:O9 V9}{B newId initId:String}
structure BmOk(B:String)(bm:List V9):Prop where
 hasB:bm.contains (.type B)=true
 hasBase:bm.contains (.type "BaseException")=true
 noAttr:bm.contains (.type "AttributeError")=false
 noName:bm.contains (.type "NameError")=false
def xP{M:Model}{env:Env}{s:S9}{x:Sem V9}{Q:Flow->S9->Prop}(T:BmOk B bm)(i:A.handled=none)
  (hx:wpAny M A x (fun v s₁=>∃ e od vs,v=.ref e/\s₁.heap.get? C=some (excClassObj nm q C N bs bm hdct sn sub ab col dd k0 k1 k2 k3 k5 newId) /\
   s₁.heap.get? e=some {cls:=.ref C,dict:=od,data:=.fields vs}/\vs[1]? = some .none/\E (.ref e) s₁) E s) :
  wpAny M A (raiseStmt env (some x) none) Q E s:=by
 have b:(Value.ref C::bm).contains (.type "BaseException")=true:=by rw[List.contains_cons,T.hasBase,Bool.or_true]
 unfold raiseStmt
 refine AA (B0 hx (fun v s₁ a=>?_) fun _ _ x=>x)
 obtain ⟨e,od,vs,rfl,c,f,h1,h⟩:=a
 obtain ⟨j,g,d,tk,os⟩:=s₁
 repeat (first|with_reducible refine wpAny_loadPart_at f ?_|with_reducible refine wpAny_loadPart_at c ?_|(with_reducible refine wpAny_isSubtype_exc c ?_;rw[b])|(with_reducible refine B2 f rfl h1 ?_)|wp_step)
 exact wpAny_raiseNew_none i h
end
end SX
namespace SX
open PySem.W PySem.Builtin PySem.Builtin.ObjectAttr
abbrev k8:List V9:=[.type "ValueError",.type "Exception",.type "BaseException",.type "object"]
structure ExcC(K:Frag)(W C:Az):Prop where
 lk:∃ nm q N bs sn sub ab col dd k0 k1 k2 k3 k5,K.lookup C=some (excClassObj nm q C N bs (.ref W::k8) true sn sub ab col dd k0 k1 k2 k3 k5 "ValueError.__new__")
 sa:findIn K (.ref C) "__setattr__"=some (some (.builtin "object.__setattr__"))
 ga:findIn K (.ref C) "__getattribute__"=some (some (.builtin "BaseException.__getattribute__"))
 gh:findIn K (.ref C) "__getattr__"=some none
 cl:findIn K (.ref C) "__class__"=some (some (.builtin "object.__class__"))
 clg:specialIn K (.builtin "object.__class__") "__get__"=some (some (.builtin "getset_descriptor.__get__"))
 clt:takesIn K (.builtin "object.__class__")=some true
 kp:keepIn K (.ref C)=true
def aLA(W:Az):BmOk "ValueError" (.ref W::k8):=⟨by simp[k8],by simp[k8],by simp[k8],by simp[k8]⟩
def passes(self:V9)(C W:Az):refuseLoop self "__setattr__" (.ref C::.ref W::k8)=pure ():=by
 rw[refuseLoop_ref,refuseLoop_ref]
 exact PySem.F.store_ValueError.passes self
def ExcC.cls{K:Frag}{W C:Az}(c:ExcC K W C):∃ cd:ClassData,clsIn K C=some cd/\cd.hasDict=true/\cd.mro=.ref C::.ref W::k8:=by
 obtain ⟨nm,q,N,bs,sn,sub,ab,col,dd,k0,k1,k2,k3,k5,e⟩:=c.lk
 exact ⟨_,by unfold clsIn;rw[e],rfl,rfl⟩
def ExcC.mro{K:Frag}{W C:Az}(c:ExcC K W C)(b:V9):mroIn K C b=some ((Value.ref C::.ref W::k8).contains b):=by
 obtain ⟨cd,h1,_,a⟩:=c.cls
 unfold mroIn
 rw[h1,DH,a]
 rfl
section
variable{prog:P9}{w:W9}{A:U9}{E:V9->S9->Prop}{s:S9}{K:Frag}{W C x:Az}{name:Str}{v:V9}{vs:Array V9}
def aIL{od:O9 Az}{o:O9 Obj}{Q:O9 V9->S9->Prop}(X:K.In s.heap)(c:ExcC K W C)(I:InstAt s.heap x ⟨.ref C,od,.fields vs,#[]⟩ C o)(h:Q (some (.ref C)) {s with toks:=s.toks+1}) :
  wpAny (model prog w) A (getAttr? (.ref x) "__class__") Q E s:=by
 obtain ⟨f,g,d,t,os⟩:=s
 obtain ⟨cd,e,hdct,i⟩:=c.cls
 have b:=I.type (M:=model prog w)
 have L1:=looks_findIn (M:=model prog w) X c.ga
 have L2:=looks_findIn (M:=model prog w) X c.gh
 have sub:Looks (model prog w) f (isInstance (.ref x) (.type "BaseException")) true:=b.andThen (looks_mroIn X (by rw[c.mro];simp[k8]))
 have k:findObj K C o "__class__"=some (.bind (.builtin "getset_descriptor.__get__") (.builtin "object.__class__")):=by
  unfold findObj
  rw[e,DH,c.cl,DH]
  simp only[c.clg,c.clt,DH]
 have j:=looks_find (M:=model prog w) X I k
 unfold getAttr?
 refine AA (wpAny_mkText ?_)
 unfold getAttrBy?
 refine AA (FV ?_)
 unfold getAttrBy
 refine CA (AA (b.at (AA (L1.at ?_))))
 show wpAny _ _ (getAttrByItsOwn _ _ _ _ _ _) _ _ _
 unfold getAttrByItsOwn
 refine AA ?_
 show wpAny _ _ (typeLookup (.ref C) "__getattr__") _ _ _
 refine L2.at (AA (FV (CA ?_)))
 unfold callGetattribute
 rw[show (false && onTheHeap (Value.builtin "BaseException.__getattribute__"))=false from rfl,AK B9]
 unfold boundAndCalled
 rw[FW.ga.bind]
 refine AA (AH ?_)
 have l:builtinKind "BaseException.__getattribute__"=some .slot:=by decide +kernel
 have a:splitId "BaseException.__getattribute__"=some ("BaseException","__getattribute__"):=by decide +kernel
 refine ES (codeAny_call_builtin FW.ga.plain PySem.F.entry_bexc_ga (@check_slot (model prog w) _ _ _ "BaseException.__getattribute__" "BaseException" "__getattribute__" (.ref x) [.str "__class__" t] [] _ l a sub (PySem.F.args_bexc_ga (.ref x) (.str "__class__" t)) ?_))
 refine AA (AH (AA (AH ?_)))
 refine AA (b.at (AA (j.at ?_)))
 show wpAny _ _ (holding [.builtin "object.__class__"] (call (.builtin "getset_descriptor.__get__") [.builtin "object.__class__",.ref x,.ref C]) >>= ret) _ _ _
 refine AA (CA (ES (class_get (s:=⟨f,g,d,t+1,os⟩) X I (by rw[c.mro];simp[k8]) ?_)))
 refine AH ?_
 show wpAny _ _ (handedOut (.ref C)) _ _ _
 exact AH (AH h)
def aLB{od:O9 Az}{o:O9 Obj}(c:ExcC K W C):KitX K (.ref x) (.ref C) (fun h=>InstAt h x ⟨.ref C,od,.fields vs,#[]⟩ C o) where
 ty:=fun _ _ _ I=>I.type
 it:=fun _ _ X _=>by
  obtain ⟨nm,q,N,bs,sn,sub,ab,col,dd,k0,k1,k2,k3,k5,e⟩:=c.lk
  intro j l i s' k q
  unfold isType loadHead
  exact AA (wpAny_loadPart (k _ _ (X _ _ e)) (AH q))
 ne:=fun h g dd d n sl X a=>by
  obtain ⟨nm,q,N,bs,sn,sub,ab,col,dd,k0,k1,k2,k3,k5,e⟩:=c.lk
  refine Bool.eq_false_iff.mpr fun q=>?_
  have f:C=g:=Value.ref.inj (G4.mp q)
  subst f
  have z:=(X _ _ e).symm.trans a
  have b:Value.type "type"=Value.type "tuple":=CL Obj.cls (BL z)
  exact absurd (Value.type.inj b) (by decide)
 ca:=fun X I k=>aIL X c I k
def xQ{od:O9 Az}{o:O9 Obj}{a:V9}{b:Bool}{Q:V9->S9->Prop}(X:K.In s.heap)(c:ExcC K W C)(I:InstAt s.heap x ⟨.ref C,od,.fields vs,#[]⟩ C o)(e:kitOne K (.ref C) a=some b)(h:∀ tk,Q (.bool b) {s with toks:=tk}) :
 wpAny (model prog w) A (call (.builtin "isinstance") [.ref x,a]) Q E s:=kia_one (aLB c) X I e (fun z=>nomatch z) h
end
end SX
namespace SX
open PySem.W
def wM(h:H9)(vs:Array V9)(e:Az)(T:O9 Az):Prop:=
 match T with
 | none=>vs[1]? = some .none
 | some t=>vs[1]? = some (.ref t)/\t≠e/\∃ oT ts x,h.get? t=some oT/\oT.data=.fields ts/\ts[3]? = some x
section
variable{M:Model}{A:U9}{E:V9->S9->Prop}{s:S9}
structure Noted(FL:List Az)(e:Az)(T:Option Az)(C:Az)(od:Option Az)(h h':Heap)(T':Option Az):Prop where
 keep:∀ b o,b∉FL->b≠e->(∀ t,T=some t->b≠t)->h.get? b=some o->h'.get? b=some o
 slot:∀ b o,b∈FL->h.get? b=some o->∃ sl,h'.get? b=some {o with slots:=sl}
 exc:∃ vs,h'.get? e=some ⟨.ref C,od,.fields vs,#[]⟩/\wM h' vs e T'
 new:(∃ t,T'=some t/\h.objs.size<=t)\/(T'=T/\T≠none)
 there:∀ t o,T=some t->h.get? t=some o->∃ o',h'.get? t=some o'
def aLC{base:H9}{env:Env}{outer:List Env}{L e C:Az}{od:O9 Az}{vs:Array V9}{T:O9 Az}{Q:Unit->S9->Prop}
  (V:A.frames=some (env::outer)) (W:s.heap.FunFrames base (env::outer)) (hf:env.frame=some L) (J:s.heap.get? e=some ⟨.ref C,od,.fields vs,#[]⟩) (N:wM s.heap vs e T)
  (h:∀ h' T',T'≠none->Noted ((env::outer).filterMap (·.frame)) e T C od s.heap h' T'->Q () {s with heap:=h'}) :
  wpAny M A (noteFrame (.ref e) env) Q E s:=by
 have O:∀ b∈(env::outer).filterMap (·.frame),∃ o,s.heap.get? b=some o/\∀ vs,o.data≠.fields vs:=fun b f=>(W.mem f).2
 have w:e∉(env::outer).filterMap (·.frame):=fun hm=>by
  obtain ⟨o,r,m⟩:=O e hm
  rw[J] at r;injection r with r;subst r;exact m vs rfl
 have P:1 < vs.size:=by
  unfold wM at N
  cases T with
  | none=>exact (DV.mp N).1
  | some t=>exact (DV.mp N.1).1
 have y:∀ (v:H9) (g:V9) (i:Bool),v.FunFrames base (env::outer)->v.objs.size=s.heap.objs.size->v.get? e=some ⟨.ref C,od,.fields vs,#[]⟩->
   (∀ b o,(∀ t,T=some t->b≠t)->s.heap.get? b=some o->v.get? b=some o)->(∀ t o,T=some t->s.heap.get? t=some o->∃ o',v.get? t=some o'/\t∉(env::outer).filterMap (·.frame)/\t≠e)->
   wpAny M A (do let a <-frameOf env;let u <-entryPlaceOf L i;let b <-EntryCells.newEntry g a .none (rawInt L) .none u;setField (.ref e) 1 b) Q E {s with heap:=v}:=by
  intro v g i X ac ad kp tp
  refine AA (wpAny_frameOf_fun (s:={s with heap:=v}) V X hf fun c d=>?_)
  refine AA (wpAny_entryPlaceOf fun u K=>?_)
  unfold EntryCells.newEntry newFields
  refine AA (CV ?_ (K.sizeOk5 _ _ _ _ _))
  have l:c.get? e=some ⟨.ref C,od,.fields vs,#[]⟩:=(d.2.1 e w).trans ad
  have p:=AE (h:=c) {cls:=.type "traceback",dict:=none,data:=.fields ([g,.ref L,.none,rawInt L,.none]++(if u.isEmpty then List.replicate 6 Value.none else u)).toArray} l
  refine ET p rfl P ?_
  have S:c.objs.size≠e:=DB (AV l)
  have D:=CO (Obj.mapFields (·.setIfInBounds 1 (Value.ref c.objs.size))) p rfl
  have B:=(EF (c.push {cls:=.type "traceback",dict:=none,data:=.fields ([g,.ref L,.none,rawInt L,.none]++(if u.isEmpty then List.replicate 6 Value.none else u)).toArray})
   (Obj.mapFields (·.setIfInBounds 1 (Value.ref c.objs.size))) (BX S)).trans (A4 c rfl)
  have n:∀ b o,b≠e->c.get? b=some o->
    ((c.push {cls:=.type "traceback",dict:=none,data:=.fields ([g,.ref L,.none,rawInt L,.none]++(if u.isEmpty then List.replicate 6 Value.none else u)).toArray}).update e (Obj.mapFields (·.setIfInBounds 1 (Value.ref c.objs.size)))).get? b=some o:=
   fun b o H f=>by
    rw[EF _ _ (BX H)]
    exact AE _ f
  refine h _ (some c.objs.size) (by simp) ⟨fun b o f H G q=>?_,fun b o f q=>?_,⟨vs.setIfInBounds 1 (.ref c.objs.size),?_,?_⟩,.inl ⟨_,rfl,by rw[d.1,ac];exact AU _⟩,fun t o e1 e2=>?_⟩
  .exact n b o H ((d.2.1 b f).trans (kp b o G q))
  .have G:∀ t,T=some t->b≠t:=fun t e1 z=>by
    obtain ⟨o',U,Z,_⟩:=tp t o e1 (z▸q)
    exact Z (z▸f)
   obtain ⟨sl,U⟩:=d.2.2 b o (kp b o G q)
   exact ⟨sl,n b _ (fun z=>w (z▸f)) U⟩
  .exact D
  .refine ⟨by simp[P],S,_,_,rawInt L,B,rfl,by first|(simp;done)|(rcases K with rfl|⟨_,_,_,_,_,_,_,rfl⟩<;>simp)⟩
  .obtain ⟨o',U,Z,z3⟩:=tp t o e1 e2
   exact ⟨o',n t o' z3 ((d.2.1 t Z).trans U)⟩
 unfold noteFrame
 simp only[hf]
 cases T with
 | none=>
  refine AA (B2 J rfl N ?_)
  rw[AK (by decide)]
  exact y s.heap .none _ W rfl J (fun b o _ q=>q) (fun t o e1=>nomatch e1)
 | some t=>
  obtain ⟨R,F,oT,ts,x,I,k,h3⟩:=N
  have aa:t∉(env::outer).filterMap (·.frame):=fun hm=>by
   obtain ⟨o,r,m⟩:=O t hm
   rw[I] at r;injection r with r;subst r;exact m ts k
  refine AA (B2 J rfl R ?_)
  rw[AL (show (Value.ref t != Value.none)=true from by simp)]
  refine AA (B2 I k h3 ?_)
  by_cases hx:(x == rawInt L)=true
  .rw[AL hx]
   refine AH (h s.heap (some t) (by simp) ⟨fun b o _ _ _ q=>q,fun b o _ q=>⟨o.slots,q⟩,⟨vs,J,R,F,oT,ts,x,I,k,h3⟩,.inr ⟨rfl,by simp⟩,fun t' o e1 q=>⟨o,q⟩⟩)
  .rw[AK hx]
   refine AA (ET I k (DV.mp h3).1 ?_)
   have j:∀ b,b≠t->(s.heap.update t (Obj.mapFields (·.setIfInBounds 3 Value.none))).get? b=s.heap.get? b:=fun b f=>EF _ _ (BX f)
   have Y:=CO (Obj.mapFields (·.setIfInBounds 3 Value.none)) I (E2 (ED k _))
   refine y (s.heap.update t (Obj.mapFields (·.setIfInBounds 3 Value.none))) _ _ (W.of_keeps fun b o f m=>⟨o,(j b fun q=>?_).trans f,rfl⟩) (CI ..).1 ((j e (BX F)).trans J) (fun b o f q=>(j b (f t rfl)).trans q) (fun t' o e1 q=>?_)
   .rw[q,I] at f;injection f with f;subst f;exact m ts k
   .cases e1
    exact ⟨_,Y,aa,F⟩
def aG4{e C t:Az}{od:O9 Az}{vs:Array V9}{fr:O9 Az}{Q:Unit->S9->Prop}(j:s.heap.get? e=some ⟨.ref C,od,.fields vs,#[]⟩)(g:wM s.heap vs e (some t))
  (h:∀ h',Heap.SameBut t s.heap h'->wM h' vs e (some t)->Q () {s with heap:=h'}):wpAny M A (setFlight (.ref e) fr) Q E s:=by
 obtain ⟨b,d,oT,k,x,f,a,i⟩:=g
 unfold setFlight
 refine AA (B2 j rfl b ?_)
 rw[AL (show (Value.ref t != Value.none)=true from by simp)]
 have c:=(DV.mp i).1
 refine ET f a c (h _ (CI ..) ⟨b,d,_,_,_,CO _ f (E2 (ED a _)),ED a _,Array.getElem?_setIfInBounds_self_of_lt c⟩)
end
end SX
namespace L2
open PySem.Spec PyProof.Rows
def ExN(e C:Az)(od:O9 Az):HO:=.ext fun h=>∃ vs,h.get? e=some ⟨.ref C,od,.fields vs,#[]⟩/\vs[1]? = some .none
def ExO(e C:Az)(od:O9 Az):HO:=.ext fun h=>∃ vs,h.get? e=some ⟨.ref C,od,.fields vs,#[]⟩
section
variable{P:P9}{w:W9}{H:Hp}{h:H9}{e C:Az}{od:O9 Az}
def aIM{vs:Array V9}(a:h.get? e=some ⟨.ref C,od,.fields vs,#[]⟩):cX P w H h e (ExO e C od):=
 ⟨⟨vs,a⟩,⟨_,a⟩,fun h1 h2 ⟨vs,a⟩ k=>⟨vs,k _ a⟩⟩
def aIN(ok:HOk P w H h)(q:H e=some (ExO e C od)):∃ vs,h.get? e=some ⟨.ref C,od,.fields vs,#[]⟩:=(ok e _ q).1
end
structure FlyAt(X:Cx)(H:Hp)(h:Heap)(e C:Az)(od:Option Az)(traced:Bool):Prop where
 tr:H e=some (ExO e C od)
 tb:∃ vs T,h.get? e=some ⟨.ref C,od,.fields vs,#[]⟩/\SX.wM h vs e T/\(∀ t,T=some t->H t=none/\X.s₀.heap.objs.size<=t/\∀ p∈X.pn,p.1≠t)/\(traced=true->T≠none)
def Fly(X:Cx)(E:XK)(ev:V9)(s':S9):Prop:=∃ e C od σ H',ev=.ref e/\Inv X [] σ H' s'/\FlyAt X H' s'.heap e C od false/\E (.ref C) (some e) H'
abbrev Cx.fly(X:Cx)(E:XK):Cx:=X.wish (Fly X E)
def aBX(X:Cx):Prop:=X.stack=X.env::X.outer/\X.env.frame=some X.env.locals
section
variable{X:Cx}{σ:St}{H:Hp}{s:S9}{e C:Az}{od:O9 Az}{b:Bool}
def aCD(I:Inv X [] σ H s){t:Az}{oT:Obj}{f:Array V9}(e:s.heap.get? t=some oT)(d:oT.data=.fields f):t≠X.env.locals/\(∀ x c,X.env.cells.lookup x=some c->c≠t):=by
 refine ⟨fun z=>?_,fun x c q z=>?_⟩
 .obtain ⟨m,⟨o,es,ep,b,a,_⟩,_⟩:=I.loc
  rw[<-z,e] at b;cases b;rw[d] at a;cases a
 .obtain ⟨v,o,b,a⟩:=I.cell x c q
  rw[z,e] at b;cases b;rw[d] at a;cases a
def wN{Q:Unit->S9->Prop}{E':V9->S9->Prop}(W:aBX X)(I:Inv X [] σ H s)(f:FlyAt X H s.heap e C od b)(h:∀ s',Inv X [] σ H s'->FlyAt X H s'.heap e C od true->Q () s') :
  wpAny (model X.prog X.w) X.A (noteFrame (.ref e) X.env) Q E' s:=by
 obtain ⟨g,y⟩:=W
 obtain ⟨vs,T,Y,J,O,_⟩:=f.tb
 have E:X.A.frames=some (X.env::X.outer):=by rw[<-g];exact I.ok.frames
 have U:s.heap.FunFrames X.base (X.env::X.outer):=by have:=I.stack;rw[g] at this;exact this
 have B:(X.env::X.outer).filterMap (·.frame)=X.env.locals::X.fs:=by rw[EA,y];rfl
 refine SX.aLC (T:=T) E U y Y J fun h' T' G N=>?_
 rw[B] at N
 have trk:∀ c u,H c=some u->c∉X.env.locals::X.fs:=fun c u q z=>by
  have:=I.stkFree c (by unfold frs;rw[g,B];exact z)
  rw[q] at this;cases this
 have P:∀ c u,H c=some u->∀ t,T=some t->c≠t:=fun c u q t e1 z=>by
  have:=(O t e1).1
  rw[<-z,q] at this;cases this
 have l:HOk X.prog X.w H h':=fun c u q=>by
  by_cases d:c=e
  .subst d
   rw[f.tr] at q;cases q
   obtain ⟨j,a,_⟩:=N.exc
   exact aIM a
  .refine (I.hok c u q).stay (fun F v i a=>N.keep F v ?_ ?_ ?_ a) (fun _ q=>q) (fun _ _ q=>q) fun _ _ q=>q
   .rcases i with z|z
    .rw[z];exact trk c u q
    .exact trk F _ z
   .rcases i with z|z
    .rw[z];exact d
    .intro zz;rw[zz,f.tr] at z;cases z
   .rcases i with z|z
    .rw[z];exact P c u q
    .exact P F _ z
 have I':Inv X [] σ H {s with heap:=h',gens:=s.gens,drawn:=s.drawn,toks:=s.toks}:=by
  refine I.step (ch:=T.toList) (fun c d=>?_) (fun c o h1 h2 D q n=>?_) (fun c o h1 h2 D q n=>N.slot c o (AJ _ h2) q) (fun _ _ _ _ n=>n) (fun c o D q=>?_) (fun _ _ q=>q) (fun _ _ _ q=>q) (fun _ _ q=>q) (fun m hm=>?_) l I.bare
  .have e1:T=some c:=by cases T<;>simp at d;rw[d]
   obtain ⟨t1,S,t3⟩:=O c e1
   rw[e1] at J
   obtain ⟨_,_,oT,ts,x,L,M,_⟩:=J
   obtain ⟨a1,V⟩:=aCD I L M
   exact ⟨.inr S,a1,V,fun p K=>t3 p (by simpa using K)⟩
  .refine N.keep c o ?_ ?_ ?_ q
   .intro z
    rcases AT.mp z with z|z
    .exact h1 z
    .exact h2 z
   .intro z;rw[z,f.tr] at n;cases n
   .intro t e1 z;exact D (by rw[e1,z];simp)
  .by_cases d:c=e
   .subst d
    obtain ⟨j,a,_⟩:=N.exc
    exact ⟨_,a⟩
   .by_cases R:c∈X.env.locals::X.fs
    .obtain ⟨sl,a⟩:=N.slot c o R q
     exact ⟨_,a⟩
    .exact ⟨o,N.keep c o R d (fun t e1 z=>D (by rw[e1,z];simp)) q⟩
  .obtain ⟨o,es,ep,ho,r⟩:=hm
   obtain ⟨sl,a⟩:=N.slot _ o AS ho
   exact ⟨_,es,ep,a,r⟩
 refine h _ I' ⟨f.tr,?_⟩
 obtain ⟨j,a,Z⟩:=N.exc
 refine ⟨j,T',a,Z,fun t e1=>?_,fun _=>G⟩
 rcases N.new with ⟨S,e2,k⟩|⟨e2,_⟩
 .rw[e1] at e2;cases e2
  refine ⟨I.hok.fresh k,BR I.sz k,fun p K z=>?_⟩
  have:=AV (I.pin p (CG _ K)).1
  rw[z] at this
  exact absurd (A8 this k) (BW _)
 .exact O t (e2▸e1)
def zD{Q:Unit->S9->Prop}{y:V9->S9->Prop}{fr:O9 Az}{A:U9}(I:Inv X [] σ H s)(f:FlyAt X H s.heap e C od true)(h:∀ s',Inv X [] σ H s'->FlyAt X H s'.heap e C od true->Q () s') :
  wpAny (model X.prog X.w) A (setFlight (.ref e) fr) Q y s:=by
 obtain ⟨vs,T,i,l,z,r⟩:=f.tb
 cases T with
 | none=>exact absurd rfl (r rfl)
 | some t=>
  obtain ⟨k,n,m⟩:=z t rfl
  refine SX.aG4 i l fun h' j d=>?_
  obtain ⟨_,g,oT,F,x,a,c,_⟩:=l
  obtain ⟨v,u⟩:=aCD I a c
  have D:Inv X [] σ H {s with heap:=h'}:=I.turned (t':=s.toks) (it:=t) (fun b o E q=>(j.2 b E).trans q) k v (.inr n) u fun p B=>m p (by simpa using B)
  exact h _ D ⟨f.tr,vs,some t,(j.2 e (BX g)).trans i,d,fun t' e1=>by cases e1;exact ⟨k,n,m⟩,fun _=>by simp⟩
def aIO{Q:V9->S9->Prop}{b:V9->S9->Prop}{A:U9}(f:FlyAt X H s.heap e C od true)(h:∀ t,Q (.ref t) s):wpAny (model X.prog X.w) A (field (.ref e) 1) Q b s:=by
 obtain ⟨vs,T,d,c,g,a⟩:=f.tb
 cases T with
 | none=>exact absurd rfl (a rfl)
 | some t=>exact B2 d rfl c.1 (h t)
def dS{E:XK}(i:aBX X):PassesOwn (model X.prog X.w) X.A X.env (Fly X E):=by
 rintro l s' ⟨e,C,od,σ,H,rfl,I,f,q⟩
 refine wN i I f fun m h g=>?_
 unfold cameBackBy
 refine AA (aIO g fun t=>?_)
 rw[AK (by simp)]
 exact zD h g fun k j d=>⟨e,C,od,σ,H,rfl,j,⟨d.tr,let ⟨vs,T,a,b,c,_⟩:=d.tb;⟨vs,T,a,b,c,fun z=>nomatch z⟩⟩,q⟩
end
def CXe(P:P9)(w:W9):CXT:=fun outer H s E ev s'=>∃ e C od H',ev=.ref e/\s'.os=s.os/\AllBare s'.gens/\Un (frs outer) [] H H' s.heap s'.heap/\HOk P w H' s'.heap/\H' e=some (ExO e C od) /\
 (∃ vs T,s'.heap.get? e=some ⟨.ref C,od,.fields vs,#[]⟩/\SX.wM s'.heap vs e T/\∀ t,T=some t->H' t=none/\s.heap.objs.size<=t)/\E (.ref C) (some e) H'
section
variable{X:Cx}
def b8{E f:XK}(k:∀ c e H,E c e H->f c e H):pB (CXe X.prog X.w) (X.fly f) E:=by
 rintro a5 σ H s m s' I ⟨e,C,od,H',rfl,os,bare,un,hok,he,⟨vs,T,q1,q2,q3⟩,q⟩
 have d:Inv X a5 σ H s:=I.unwish
 have i:Inv X [] σ H s:=d.pins_of fun p a=>absurd a (by simp)
 have j:Inv X [] σ H' s':=i.call' os un hok bare (fun b l=>absurd l (by simp))
 refine ⟨e,C,od,σ,H',rfl,j,⟨he,vs,T,q1,q2,fun t e1=>?_,fun z=>nomatch z⟩,k _ _ _ q⟩
 obtain ⟨h,g⟩:=q3 t e1
 refine ⟨h,BR d.sz g,fun p a z=>?_⟩
 have:=AV (d.pin p (CG _ a)).1
 rw[z] at this
 exact absurd (A8 this g) (BW _)
def PSs.unfly{E:XK}{st:List Stmt}{t:TS}(h:PSs (X.fly E) st t)(hx:∀ e s',Fly X E e s'->X.xe e s'):PSs X st t:=fun a5 s σ H D I a=>
 B0 (h a5 s σ H D (I.wish _) a) (fun f s' q=>SP.unwish q) hx
end
def aA4{P:P9}{w:W9}{K:Frag}{mg:Str->O9 V9}{base:H9}{N:List Str}{qual:Str}{scope:Scope}{f:Az}{cd:V9}{A:U9}{outer:List Env}{s:S9}{H:Hp}{E:XK}{i:V9}{s':S9}
  (h:Fly (lL (CXe P w) P w K mg base N qual scope f cd A outer s H E) E i s'):(lL (CXe P w) P w K mg base N qual scope f cd A outer s H E).xe i s':=by
 obtain ⟨e,C,od,σ,H',rfl,I,j,q⟩:=h
 show wpAny (model P w) _ (leaving _ (.ref e)) _ _ s'
 unfold leaving
 have l:aBX (lL (CXe P w) P w K mg base N qual scope f cd A outer s H E):=⟨rfl,rfl⟩
 refine AA (wN l I j fun o k m=>zD k m fun n d g=>?_)
 obtain ⟨vs,T,a,b,c,_⟩:=g.tb
 exact ⟨e,C,od,H',rfl,d.os,d.bare,d.base,d.hok,g.tr,⟨vs,T,a,b,fun t e1=>⟨(c t e1).1,(c t e1).2.1⟩⟩,q⟩
section
variable{P:P9}{w:W9}{K:Frag}{mg:Str->O9 V9}{base:H9}
def Fun.okX{x qual:Str}{st:Stmt}{f:Az}{fd:FuncData}{N ps:List Str}{k:Nat}{sp:Sp}(F:Fun K x qual st f fd)(S:FnScope N ps (aO st))(len:∀ vs H Q E,sp vs H Q E->vs.length=ps.length)
  (a:∀ (cdv:V9) (A:U9) (outer:List Env) (s:S9) (H:Hp) (vs:List V) (Q:VK) (E:XK),Room k (A.deeper (envOfC qual (aO st) s.heap.objs.size f cdv))->sp vs H Q E->
   ∃ t,PSs ((lL (CXe P w) P w K mg base N qual (aO st) f cdv A outer s H E).fly E) (dR st) t/\t {nx:=fun _ H'=>Q .non H',rt:=Q} (start N vs) H):FnOk P w K mg base (CXe P w) (k+1) f fd ps sp:=by
 obtain ⟨i,od,kV,doc,pm,j,cdv,ct,d,rfl,e,c⟩:=F.ex
 refine aG0 e c S len fun A outer s H vs Q E g b=>?_
 obtain ⟨t,h,q⟩:=a cdv A outer s H vs Q E g b
 exact ⟨t,h.unfly fun _ _ z=>aA4 z,q⟩
end
inductive TyX(K:Frag)(H:Hp):V->V9->Prop where
 | pl {x:V} {t:V9} (h:TyOf K H x t):TyX K H x t
 | exc {a W C:Az} {d:Az} {fs:List (Str×V)} (c:SX.ExcC K W C) (e:H a=some (ExO a C (some d))) (ed:H d=some (.xd fs)):TyX K H (.ref a) (.ref C)
 | exc0 {a W C:Az} (c:SX.ExcC K W C) (e:H a=some (ExO a C none)):TyX K H (.ref a) (.ref C)
def aG5:V->O9 V9
 | .ty n=>some (.type n)
 | .ref a=>some (.ref a)
 | _=>none
def zE{x:V}{u v:V9}(h:aG5 x=some v)(r:bL x u):u=v:=by
 cases x with
 | ty n=>cases h;exact r
 | ref a=>cases h;exact r
 | _=>cases h
def nE{X:Cx}:lG X (.builtin "isinstance") (fun xs H Q=>∃ x c t cv b,xs=[x,c]/\TyX X.K H x t/\aG5 c=some cv/\PySem.W.kitOne X.K t cv=some b/\Q (.bl b) H):=by
 intro a5 s σ H xs us Q I r h
 obtain ⟨x,c,t,cv,b,rfl,g,m,e,q⟩:=h
 obtain ⟨u,v,rfl,f,l⟩:=aGY r
 obtain rfl:=zE m l
 cases g with
 | pl g=>exact aIF I f g e fun tk=>⟨.bl b,H,I.tok _,rfl,q⟩
 | @exc a W C d fs cc ea ed=>
  cases (show u=Value.ref a from f)
  obtain ⟨vs,j⟩:=aIN I.hok ea
  obtain ⟨mA,k,r⟩:=(show cX X.prog X.w H s.heap d (.xd fs) from I.hok d _ ed)
  obtain ⟨od,i,_⟩:=aA0 k
  exact SX.xQ (o:=some od) I.kIn cc ⟨j,rfl,rfl,i⟩ e fun tk=>⟨.bl b,H,I.tok _,rfl,q⟩
 | @exc0 a W C cc ea=>
  cases (show u=Value.ref a from f)
  obtain ⟨vs,j⟩:=aIN I.hok ea
  exact SX.xQ (o:=none) I.kIn cc ⟨j,rfl,rfl,True.intro⟩ e fun tk=>⟨.bl b,H,I.tok _,rfl,q⟩
end L2
namespace SX
open PySem.W
structure ExcAny(K:Frag)(C:Az)(bm:List V9):Prop where
 lk:∃ nm q N bs hd sn sub ab col dd k0 k1 k2 k3 k5 newId,K.lookup C=some (excClassObj nm q C N bs bm hd sn sub ab col dd k0 k1 k2 k3 k5 newId)
 base:bm.contains (.type "BaseException")=true
def ExcC.any{K:Frag}{W C:Az}(c:ExcC K W C):ExcAny K C (.ref W::k8):=by
 obtain ⟨nm,q,N,bs,sn,sub,ab,col,dd,k0,k1,k2,k3,k5,e⟩:=c.lk
 exact ⟨⟨_,_,_,_,_,_,_,_,_,_,_,_,_,_,_,_,e⟩,(aLA W).hasBase⟩
end SX
namespace L2
open PySem.Spec PyProof.Rows
section
variable{X:Cx}
def aIP(t:X.calm=true):lG X (.builtin "all") (fun xs H Q=>∃ (a:Az) (bs:List Bool),xs=[.ref a]/\SqL X.K H a (bs.map V.bl)/\Q (.bl (bs.all id)) H):=by
 intro a5 s σ H xs us Q I r h
 obtain ⟨a,bs,rfl,C,q⟩:=h
 obtain ⟨u,rfl,y⟩:=oM r
 cases (show u=Value.ref a from y)
 obtain ⟨c,l,p,J⟩:=I.list C
 have j:c.length=bs.length:=by rw[<-l.length,AB]
 refine call_all_walk (EV p.isList ?_)
 have m:a≠s.heap.objs.size:=by
  obtain ⟨o,e,_⟩:=p.isList
  exact BP (AV e)
 refine ⟨_,_,_,_,_,_,fun i=>bs.getD i true,rfl,Walks.list (show X.A.in1.handled=none from I.ok.hd t) s.heap.objs.size a m c.toArray,⟨⟨_,A4 _ rfl,rfl,rfl⟩,p.isList.at fun o e=>AE _ e⟩,?_,?_⟩
 .intro i v s' F G f B
  have f:c.toArray[i]? = some v:=f
  have hi:c[i]? = some v:=by simpa using f
  have d:i < bs.length:=by rw[<-j];exact (AI.mp hi).1
  have D:(bs.map V.bl)[i]? = some (V.bl bs[i]):=by simp[d]
  obtain ⟨E,k,g⟩:=l.get D
  rw[hi] at k;cases k
  cases (show v=Value.bool bs[i] from g)
  refine DE ?_
  have e:bs.getD i true=bs[i]:=by rw[AG,AD d];rfl
  rw[<-e];exact B
 .intro h' tk n
  have e:(List.range c.toArray.size).all (fun i=>bs.getD i true)=bs.all id:=by
   rw[BH,j,Bool.eq_iff_iff,BY,BY]
   constructor
   .intro h x w
    obtain ⟨i,hi,rfl⟩:=EK.mp w
    have:=h i (AZ.mpr hi)
    rw[AG,AD hi] at this
    exact this
   .intro h i hi
    have hi:=AZ.mp hi
    rw[AG,AD hi]
    exact h _ (CQ hi)
  rw[e]
  refine ⟨.bl _,H,?_,rfl,q⟩
  exact I.kept (t':=tk) fun b o e=>n b o (fun z=>by
   have:=AV e
   rw[AQ.mp z] at this
   exact BW _ this) (AE _ e)
end
structure Blt(mg:Str->Option V9):Prop where
 b_len:mg "len"=none
 b_isinstance:mg "isinstance"=none
 b_all:mg "all"=none
 b_max:mg "max"=none
 b_min:mg "min"=none
 b_int:mg "int"=none
 b_str:mg "str"=none
 b_bool:mg "bool"=none
 b_tuple:mg "tuple"=none
 b_list:mg "list"=none
 b_range:mg "range"=none
 b_enumerate:mg "enumerate"=none
 b_ValueError:mg "ValueError"=none
structure DefAt(K:Frag)(mg:Str->Option V9)(x:Str)(st:Stmt)(ps:List Str):Prop where
 ex:∃ f fd,Fun K x x st f fd/\lH K fd ps []/\mg x=some (.ref f)
def Calls(P:P9)(w:W9)(K:Frag)(mg:Str->O9 V9)(base:H9)(CX:CXT)(k:Nat)(x:Str)(ps:List Str)(sp:Sp):Prop:=
 ∃ f fd,FnOk P w K mg base CX k f fd ps sp/\lH K fd ps []/\mg x=some (.ref f)/\PySem.W.keepIn K (.ref f)=true
section
variable{P:P9}{w:W9}{K:Frag}{mg:Str->O9 V9}{base:H9}{x:Str}{st:Stmt}{N ps:List Str}{k:Nat}{sp:Sp}
def DefAt.ok(D:DefAt K mg x st ps)(S:FnScope N ps (aO st))(len:∀ vs H Q E,sp vs H Q E->vs.length=ps.length)
  (a:∀ (f:Az) (cdv:V9) (A:U9) (outer:List Env) (s:S9) (H:Hp) (vs:List V) (Q:VK) (E:XK),Room k (A.deeper (envOfC x (aO st) s.heap.objs.size f cdv))->sp vs H Q E->
   ∃ t,PSs (lL CX0 P w K mg base N x (aO st) f cdv A outer s H E).nox (dR st) t/\t {nx:=fun _ H'=>Q .non H',rt:=Q} (start N vs) H):Calls P w K mg base CX0 (k+1) x ps sp:=by
 obtain ⟨f,fd,F,b,m⟩:=D.ex
 exact ⟨f,fd,F.ok S len (a f),b,m,F.kp⟩
def DefAt.okX(D:DefAt K mg x st ps)(S:FnScope N ps (aO st))(len:∀ vs H Q E,sp vs H Q E->vs.length=ps.length)
  (a:∀ (f:Az) (cdv:V9) (A:U9) (outer:List Env) (s:S9) (H:Hp) (vs:List V) (Q:VK) (E:XK),Room k (A.deeper (envOfC x (aO st) s.heap.objs.size f cdv))->sp vs H Q E->
   ∃ t,PSs ((lL (CXe P w) P w K mg base N x (aO st) f cdv A outer s H E).fly E) (dR st) t/\t {nx:=fun _ H'=>Q .non H',rt:=Q} (start N vs) H):Calls P w K mg base (CXe P w) (k+1) x ps sp:=by
 obtain ⟨f,fd,F,b,m⟩:=D.ex
 exact ⟨f,fd,F.okX S len (a f),b,m,F.kp⟩
def Calls.imp{CX:CXT}{a:Sp}(C:Calls P w K mg base CX k x ps sp)(h:∀ vs H Q E,a vs H Q E->sp vs H Q E):Calls P w K mg base CX k x ps a:=by
 obtain ⟨f,fd,F,b,m,c⟩:=C
 exact ⟨f,fd,F.imp h,b,m,c⟩
end
section
variable{X:Cx}{CX:CXT}{k:Nat}{x:Str}{ps:List Str}{sp:Sp}{E:XK}{p pos:Pos}{e:E3}{es:List E3}{t:TA}
def bP(C:Calls X.prog X.w X.K X.mg X.base CX k x ps sp)(g:Room k X.A)(h:Gl X x)(hx:pB CX X E)(c:PA X (e::es) t)(a:(x == ("__debug__":Str))=false:=by decide)
  (he:starEach (e::es) X.env=(false,eval e X.env)::starEach es X.env:=by rfl) (hpl:(backTo pos (starEach es X.env)).any (·.1)=false:=by rfl):PE X (.Call (.Name x p) (e::es) [] pos) (aGZ sp [] E t):=by
 obtain ⟨f,fd,F,b,m,d⟩:=C
 exact aN6 F g h m d b .nil hx c a he hpl
end
def spI(C:Az)(fs:List Str):Sp:=fun vs H Q _=>∃ e xs,vs=.ref e::xs/\xs.length=fs.length/\H e=some (ExN e C none)/\∀ d,H d=none->d≠e->Q .non (upd (upd H e (ExN e C (some d))) d (.xd (fs.zip xs)))
structure ErrAt(P:Program)(w:World)(K:Frag)(mg:Str->Option V9)(base:Heap)(x:Str)(fs:List Str)(W C:Az):Prop where
 c:SX.ExcC K W C
 m:mg x=some (.ref C)
 na:∀ f∈fs,PySem.W.findIn K (.ref C) f=some none
 i:∃ fI fdI,FnOk P w K mg base CX0 1 fI fdI ("self"::fs) (spI C fs)/\PySem.W.findIn K (.ref C) "__init__"=some (some (.ref fI))/\PySem.W.typeIn K (.ref fI)=some (.type "function")/\lH K fdI ("self"::fs) []
def DatV.tup_of{K:Frag}{H:Hp}{v:V}{ds:List Dz}(h:DatV K H v (.tuple ds)):∃ a xs,v=.ref a/\SqT K H a xs/\DatVs K H xs ds:=by
 cases h with
 | tup h1 h2=>exact ⟨_,_,rfl,h1,h2⟩
def DatV.lst_of{K:Frag}{H:Hp}{v:V}{ds:List Dz}(h:DatV K H v (.list ds)):∃ a xs,v=.ref a/\SqL K H a xs/\DatVs K H xs ds:=by
 cases h with
 | lst h1 h2=>exact ⟨_,_,rfl,h1,h2⟩
def DatV.int_of{K:Frag}{H:Hp}{v:V}{i:Int}(h:DatV K H v (.int i)):v=.int i:=by cases h;rfl
def DatV.str_of{K:Frag}{H:Hp}{v:V}{i:Str}(h:DatV K H v (.str i)):v=.str i:=by cases h;rfl
def DatVs.cons_of{K:Frag}{H:Hp}{xs:List V}{d:Dz}{ds:List Dz}(h:DatVs K H xs (d::ds)):∃ x t,xs=x::t/\DatV K H x d/\DatVs K H t ds:=by
 cases h with
 | cons h1 h2=>exact ⟨_,_,rfl,h1,h2⟩
def DatVs.nil_of{K:Frag}{H:Hp}{xs:List V}(h:DatVs K H xs []):xs=[]:=by cases h;rfl
def fJ.nil:fJ [] []:=⟨rfl,fun _ _ h=>by simp at h⟩
def fJ.nil_of{σ:St}(h:fJ [] σ):σ=[]:=List.length_eq_zero_iff.mp h.1
def SqS(K:Frag)(H:Hp)(a:Az)(xs:List V):Prop:=SqL K H a xs\/SqT K H a xs
def PI.or{X:Cx}{tg a:E3}{w1 w2:TI}(h1:PI X tg a w1)(h2:PI X tg a w2):PI X tg a (fun σ H R=>w1 σ H R\/w2 σ H R):=fun a5 s σ H R I h=>h.elim (h1 a5 s σ H R I) (h2 a5 s σ H R I)
def aVQ(K:Frag)(tl:TE):TI:=fun σ H R=>tl σ H fun x H1=>∃ a,x=.ref a/\(((∃ xs,SqL K H1 a xs)/\R (Itl K a) H1)\/((∃ xs,SqT K H1 a xs)/\R (Itt K a) H1))
def aIQ{X:Cx}{tg l:E3}{tl:TE}(n:PE X l tl):PI X tg l (aVQ X.K tl):=by
 intro a5 s σ H R I h
 refine thn (n a5 s σ H _ I h) fun v s1 f=>?_
 obtain ⟨x,H1,c,r1,m⟩:=f
 obtain ⟨a,e,q⟩:=m
 subst e
 cases r1
 rcases q with ⟨⟨xs,g⟩,q⟩|⟨⟨xs,g⟩,q⟩
 .obtain ⟨d,j,p,k⟩:=c.list g
  refine EV p.isList ?_
  refine ⟨s1.heap.objs.size,[s1.heap.objs.size],_,_,H1,rfl,c.kept (t':=s1.toks) fun b o e=>AE _ e,aIC a _,⟨_,A4 _ rfl,rfl,rfl⟩,fun b i=>?_,q⟩
  obtain rfl:=AQ.mp i
  exact c.fpOk (AU _) (c.hok.fresh (AU _))
 .obtain ⟨d,j,p,k⟩:=c.tuple g
  refine wpAny_pyIter_tuple (show s1.heap.IsTuple a d.toArray from p) ?_
  refine ⟨s1.heap.objs.size,[s1.heap.objs.size],_,_,H1,rfl,c.kept (t':=s1.toks) fun b o e=>AE _ e,aGU a _,⟨_,A4 _ rfl,rfl,rfl⟩,fun b i=>?_,q⟩
  obtain rfl:=AQ.mp i
  exact c.fpOk (AU _) (c.hok.fresh (AU _))
def aUG(i j:Int):Prop:=0 < j/\j < 2 ^ 64
def aLD{X:Cx}:OpR X (binaryOp .FloorDiv) (rI aUG fun i j=>.int (i / j)):=opI fun i j _ _ _ _ _ a q=>by
 have h1:(0:Int) < j:=a.1
 have h2:j < 2 ^ 64:=a.2
 have b:j.natAbs < 2 ^ 64:=by omega
 have c:j.natAbs.log2 < 64:=(Nat.log2_lt (by omega)).mpr b
 exact floordiv_int (by omega) (by rw[Int.fdiv_eq_ediv_of_nonneg i (by omega)];exact q) (.inl (PyProof.noPylong_of_log2 (by omega)))
def mB{X:Cx}{P:P9}{w:W9}:pB (CXe P w) X E0:=by
 rintro a5 σ H s a s' I ⟨e,C,od,H',rfl,os,bare,un,hok,he,hv,q⟩
 exact q.elim
section
variable{X:Cx}
def aVR:V->O9 Int->O9 Int->Hp->VK->Prop:=fun x lo hi H Q=>∃ z,x=.str z/\z.length<=sizeLine/\Q (.str (Txt.slice z lo hi)) H
def aFB{v:V9}{o:O9 Int}(h:IsPart v o):∃ l:O9 (Int×Tok),partValue l=v/\l.map (·.1)=o:=by
 cases h with
 | none=>exact ⟨none,rfl,rfl⟩
 | int i t=>exact ⟨some (i,t),rfl,rfl⟩
def aRW:SlR X aVR:=by
 intro a5 s σ H x v n p lo hi sl Q I i m e d h
 obtain ⟨z,rfl,j,q⟩:=h
 obtain ⟨t,rfl⟩:=i
 obtain ⟨l,rfl,k⟩:=aFB e
 obtain ⟨u,rfl,c⟩:=aFB d
 obtain ⟨o,g,f,b⟩:=m
 refine ⟨"str",_,PyProof.Rows.slot_str_getitem.lookup,rfl,?_⟩
 refine wpAny_getItem_str_slice (l:=l) (u:=u) (st:=none) ⟨o,g,f,b⟩ rfl ?_
 have le:=Txt.slice_le z lo hi
 unfold Txt.slice at q le
 unfold sliceMade slicePicked
 rw[k,c]
 simp only[DZ,FX,Option.map_none,GF] at q le ⊢
 by_cases a:((Builtin.Str.strSliceIndices lo hi 1 z.length).length == z.length)=true
 .rw[AL a] at q ⊢
  exact ⟨.str z,H,I,⟨t,rfl⟩,q⟩
 .rw[AK a] at q le ⊢
  exact ⟨BR le j,.str _,H,I.tok _,⟨_,rfl⟩,q⟩
def aIR:V->List V->Hp->VK->Prop:=fun x vs H Q=>∃ z y i rest,x=.str z/\vs=[.str y]/\Builtin.Str.occurrences z y 0 z.length 1=i::rest/\Q (.int i) H
def aLE:MtR X "str.index" aIR:=by
 intro a5 s σ H x vs v us Q I d a h
 obtain ⟨z,y,i,rest,rfl,rfl,c,q⟩:=h
 obtain ⟨t,rfl⟩:=d
 obtain ⟨u,rfl,b,rfl⟩:=a.one
 exact call_gives F.slot_str_index rfl F.entry_str_index (F.args_str_index_2 _ _) (gives_str_index z y t b i rest c) ⟨.int i,H,I.tok _,⟨_,rfl⟩,q⟩
end
def aCE{X:Cx}:lG X (.builtin "isinstance") (fun xs H Q=>∃ a ys c cv b,xs=[.ref a,c]/\SqT X.K H a ys/\aG5 c=some cv/\PySem.W.kitOne X.K (.type "tuple") cv=some b/\Q (.bl b) H):=by
 intro a5 s σ H xs us Q I r h
 obtain ⟨a,ys,c,cv,b,rfl,f,j,e,q⟩:=h
 obtain ⟨u,v,rfl,g,d⟩:=aGY r
 obtain rfl:=zE j d
 cases (show u=Value.ref a from g)
 obtain ⟨i,_,⟨o,h1,h2,_⟩,_⟩:=I.tuple f
 exact CB PySem.W.kitx_tuple I.kIn ⟨o,h1,h2⟩ e (fun z=>nomatch z) fun tk=>⟨.bl b,H,I.tok _,rfl,q⟩
structure RoomH(k:Nat)(A:Around):Prop where
 dp:A.depth+3 * k+5 < recursionLimit
 un:A.units+16 * k+200 < cLine
def Room.h{k:Nat}{A:U9}(r:Room k A):RoomH k A:=⟨r.dp,r.un⟩
structure FnOkH(P:Program)(w:World)(K:Frag)(mg:Str->Option V9)(base:Heap)(k:Nat)(f:Az)(fd:FuncData)(ps:List Str)(sp:Sp):Prop where
 len:∀ vs H Q E,sp vs H Q E->vs.length=ps.length
 run:∀ (A:Around) (outer:List Env) (s:S9) (H:Hp) (args:Args) (us:List V9) (vs:List V) (Q:VK),RoomH k A->Env0 P w K mg base A outer s H->BindsTo s fd args (ps.zip us)->bY vs us->sp vs H Q E0->
  codeAny (model P w) A (.call (.ref f) args) (CR CX0 outer P w H s Q E0) s
theorem FnOkH.ok{P:P9}{w:W9}{K:Frag}{mg:Str->O9 V9}{base:H9}{k:Nat}{f:Az}{fd:FuncData}{ps:List Str}{sp:Sp}(F:FnOkH P w K mg base k f fd ps sp)(a:∀ vs H Q E,sp vs H Q E->sp vs H Q E0):FnOk P w K mg base CX0 k f fd ps sp:=
 ⟨F.len,fun A outer s H args us vs Q E i g c b d=>EH (F.run A outer s H args us vs Q i.h g c b (a _ _ _ _ d)) fun r s' h=>by
  cases r with
  | error e=>exact h
  | ok fl=>cases fl<;>exact h⟩
end L2
namespace Mc
open L2 PyProof.Rows
inductive Tn where
 | n (i:Int)|w (x:Str)
def Tn.v:Tn->V
 | .n i=>.int i
 | .w x=>.str x
def Tn.d:Tn->Dz
 | .n i=>.int i
 | .w x=>.str x
structure Rw where
 l:Tn
 c:List (Int×Int)
 r:Tn
def cJ(c:Int×Int):Dz:=.tuple [.int c.1,.int c.2]
def cB(r:Rw):Dz:=.tuple [r.l.d,.tuple (r.c.map cJ),r.r.d]
def aV(rs:List Rw):Dz:=.tuple (rs.map cB)
inductive CellsAt(K:Frag)(H:Hp):List V->List (Int×Int)->Prop
 | nil:CellsAt K H [] []
 | cons {q:Az} {a b:Int} {xs:List V} {cs:List (Int×Int)} (h:SqS K H q [.int a,.int b]) (t:CellsAt K H xs cs):CellsAt K H (.ref q::xs) ((a,b)::cs)
def aUH(K:Frag)(H:Hp)(v:V)(r:Rw):Prop:=∃ p b cs,v=.ref p/\SqS K H p [r.l.v,.ref b,r.r.v]/\SqS K H b cs/\CellsAt K H cs r.c
inductive RowsAt(K:Frag)(H:Hp):List V->List Rw->Prop
 | nil:RowsAt K H [] []
 | cons {v:V} {r:Rw} {xs:List V} {rs:List Rw} (h:aUH K H v r) (t:RowsAt K H xs rs):RowsAt K H (v::xs) (r::rs)
theorem wD:∀ {xs:List Dz},(∀ x∈xs,x.eqv x=true)->PyData.eqvAll xs xs=true
 | [],_=>by rw[PyData.eqvAll.eq_1]
 | x::t,h=>by rw[PyData.eqvAll.eq_2,h x (AS ..),wD fun y a=>h y (AJ _ a)];rfl
def uV{xs:List Dz}(h:∀ x∈xs,x.eqv x=true):(PyData.tuple xs).eqv (.tuple xs)=true:=by
 show PyData.eqvAll xs xs=true
 exact wD h
def zF(i:Int):(PyData.int i).eqv (.int i)=true:=by rw[PyData.eqv.eq_5];simp
def aFC(i:Str):(PyData.str i).eqv (.str i)=true:=by rw[PyData.eqv.eq_6];simp
def aIS(t:Tn):t.d.eqv t.d=true:=by
 cases t with
 | n i=>exact zF i
 | w x=>exact aFC x
def aLF(c:Int×Int):(cJ c).eqv (cJ c)=true:=uV fun x a=>by
 rcases AT.mp a with z|z
 · rw [z]; exact zF _
 · rw [AQ.mp z]; exact zF _
def aOG(r:Rw):(cB r).eqv (cB r)=true:=uV fun x a=>by
 rcases AT.mp a with z|a
 .rw[z];exact aIS _
 rcases AT.mp a with z|a
 .rw[z]
  refine uV fun y b=>?_
  obtain ⟨c,_,rfl⟩:=AN.mp b
  exact aLF c
 .rw[AQ.mp a];exact aIS _
def aLG(rs:List Rw):(aV rs).eqv (aV rs)=true:=uV fun x a=>by
 obtain ⟨r,_,rfl⟩:=AN.mp a
 exact aOG r
def Tn.ok:Tn->Prop
 | .n _=>True
 | .w x=>PyData.strOk x=true
def Rw.ok(r:Rw):Prop:=r.l.ok/\r.r.ok
theorem zG:∀ {xs:List Dz},(∀ x∈xs,x.canLay0=true)->PyData.canLayAll0 xs=true
 | [],_=>by rfl
 | x::t,h=>by
  show (x.canLay0 && PyData.canLayAll0 t)=true
  rw[h x (AS ..),zG fun y a=>h y (AJ _ a)];rfl
theorem tR{n:Nat}:∀ {xs:List Dz},(∀ x∈xs,x.depth<=n)->PyData.depthAll xs<=n
 | [],_=>CM _
 | x::t,h=>by
  show max x.depth (PyData.depthAll t)<=n
  exact Nat.max_le.mpr ⟨h x (AS ..),tR fun y a=>h y (AJ _ a)⟩
def Sh(n:Nat)(d:Dz):Prop:=d.canLay0=true/\d.depth<=n
def mC{n:Nat}{xs:List Dz}(h:∀ x∈xs,Sh n x):Sh (n+1) (.tuple xs):=⟨zG fun x a=>(h x a).1,by
 have:=tR fun x a=>(h x a).2
 show PyData.depthAll xs+1<=n+1
 omega⟩
def sh_lst{n:Nat}{xs:List Dz}(h:∀ x∈xs,Sh n x):Sh (n+1) (.list xs):=⟨zG fun x a=>(h x a).1,by
 have:=tR fun x a=>(h x a).2
 show PyData.depthAll xs+1<=n+1
 omega⟩
def pD(n:Nat)(i:Int):Sh n (.int i):=⟨rfl,CM _⟩
def aIT(n:Nat){x:Str}(h:PyData.strOk x=true):Sh n (.str x):=⟨h,CM _⟩
def aBY(n:Nat){t:Tn}(h:t.ok):Sh n t.d:=by
 cases t with
 | n i=>exact pD n i
 | w x=>exact aIT n h
def Sh.shaped{n:Nat}{d:Dz}(h:Sh n d)(a:n<=64):SeqAt.shaped d=true:=by
 show (d.canLay0 && decide (d.depth<=64))=true
 rw[h.1,AX (BR h.2 a)];rfl
def aEW{rs:List Rw}(h:∀ r∈rs,r.ok):SeqAt.shaped (aV rs)=true:=by
 refine Sh.shaped (n:=4) (mC fun x a=>?_) (by decide)
 obtain ⟨r,b,rfl⟩:=AN.mp a
 refine mC fun x a=>?_
 rcases AT.mp a with z|a
 .rw[z];exact aBY _ (h r b).1
 rcases AT.mp a with z|a
 .rw[z]
  refine mC fun x a=>?_
  obtain ⟨c,_,rfl⟩:=AN.mp a
  refine mC fun x a=>?_
  rcases AT.mp a with z|z
  · rw [z]; exact pD _ _
  · rw [AQ.mp z]; exact pD _ _
 .rw[AQ.mp a];exact aBY _ (h r b).2
section
variable{K:Frag}{H:Hp}{p q:Az}{xs ys:List V}{o:HO}
inductive NoL:Dz->Prop where
 | int (i:Int):NoL (.int i)
 | str (i:Str):NoL (.str i)
 | tup {ds:List Dz} (h:∀ d∈ds,NoL d):NoL (.tuple ds)
end
section
variable{K:Frag}{H:Hp}
theorem cells_of:∀ {xs:List V} {cs:List (Int×Int)},DatVs K H xs (cs.map cJ)->CellsAt K H xs cs
 | xs,[],h=>by obtain rfl:=h.nil_of;exact .nil
 | xs,c::cs,h=>by
  obtain ⟨x,t,rfl,h1,h2⟩:=h.cons_of
  obtain ⟨a,ys,rfl,b,e⟩:=h1.tup_of
  obtain ⟨k,t0,rfl,i,f⟩:=e.cons_of
  obtain ⟨l,j,rfl,d,g⟩:=f.cons_of
  obtain rfl:=g.nil_of
  obtain rfl:=i.int_of
  obtain rfl:=d.int_of
  exact .cons (.inr b) (cells_of h2)
end
section
variable{K:Frag}{h:H9}{mg:Str->O9 V9}
def bR{x:Str}{st:Stmt}{ps:List Str}{f:Az}{i:V9}{od e:O9 Az}{g:Array (O9 V9)}{kV doc pm d ct:V9}(X:K.In h)(G:h.Ns mainGlobals mg)
  (a:PySem.W.nsIn K mainGlobals x=some (some (.ref f))) (l:K.lookup f=some ⟨i,od,.func (PySem.W.fnOf x x (iZ st) (dR st) (aO st) .none kV doc pm e d ct),g⟩)
  (c:PySem.W.codeIn K d x=true) (k:PySem.W.keepIn K (.ref f)=true)
  (b:∀ (kV doc pm:V9) (e:O9 Az) (d ct:V9) (us:List V9),us.length=ps.length->bindArgs (PySem.W.fnOf x x (iZ st) (dR st) (aO st) .none kV doc pm e d ct) ⟨us,[]⟩=pure (ps.zip us)):DefAt K mg x st ps:=by
 have F:=aIK (st:=st) l c k
 exact ⟨f,_,F,F.binds b,EY X G a⟩
end
section
variable{K:Frag}{h:H9}{mg:Str->O9 V9}
def aOH{W C N:Az}{bs sub:List V9}{nm q:Str}{ab:Bool}{sn:List Str}{col:O9 Bool}{dd:O9 Az}{k0 k1 k2 k3 k5:O9 V9}(l:K.lookup C=some (excClassObj nm q C N bs (.ref W::SX.k8) true sn sub ab col dd k0 k1 k2 k3 k5 "ValueError.__new__"))
 (c:PySem.W.findIn K (.ref C) "__setattr__"=some (some (.builtin "object.__setattr__"))) (f:PySem.W.findIn K (.ref C) "__getattribute__"=some (some (.builtin "BaseException.__getattribute__"))) (e:PySem.W.findIn K (.ref C) "__getattr__"=some none) (cl:PySem.W.findIn K (.ref C) "__class__"=some (some (.builtin "object.__class__")))
 (a:PySem.W.specialIn K (.builtin "object.__class__") "__get__"=some (some (.builtin "getset_descriptor.__get__"))) (b:PySem.W.takesIn K (.builtin "object.__class__")=some true) (d:PySem.W.keepIn K (.ref C)=true):SX.ExcC K W C:=⟨⟨_,_,_,_,_,_,_,_,_,_,_,_,_,_,l⟩,c,f,e,cl,a,b,d⟩
end
def cF(n c:Nat):Bool:=decide (97<=c/\c < 97+n)
def aOI{n:Nat}(h1:1<=n)(h2:n<=3):(Txt.slice "abc" none (some (n:Int))).cps.toList=[97,98,99].take n:=by
 obtain rfl|rfl|rfl:n=1\/n=2\/n=3:=by omega
 all_goals decide +kernel
def aIU{c:Nat}(h:cF 3 c=true):∃ r,Builtin.Str.occurrences "abc" ⟨#[c]⟩ 0 ("abc":Str).length 1=(c - 97)::r:=by
 have h:=BF h
 refine ⟨[],?_⟩
 obtain rfl|rfl|rfl:c=97\/c=98\/c=99:=by omega
 all_goals decide +kernel
end Mc
namespace L2
open PySem.Spec PyProof.Rows
section
variable{κ:Type}[DecidableEq κ]
def nY.getD{o:O9 V}{u:O9 V9}{d:V}{d':V9}(r:nY o u)(a:bL d d'):bL (o.getD d) (u.getD d'):=by
 cases o with
 | none=>cases u with
  | none=>exact a
  | some _=>exact (show False from r).elim
 | some _=>cases u with
  | none=>exact (show False from r).elim
  | some _=>exact r
def KV.any{a:List (κ×V)}{vs:List (κ×V9)}(r:KV a vs)(k:κ):(a.any fun kv=>decide (kv.1=k))=vs.any fun kv=>decide (kv.1=k):=by
 unfold KV at r
 induction r with
 | nil=>rfl
 | cons h t ih=>rw[FY,FY,ih,h.1]
def KV.length{a:List (κ×V)}{vs:List (κ×V9)}(r:KV a vs):a.length=vs.length:=G5 r
end
def aND{P:P9}{w:W9}{k:Key}{u:V9}(r:bL (kV k) u):(dA P w).is k u=true:=by
 cases k with
 | inl i=>obtain ⟨t,e⟩:=(show ∃ t,u=Value.int i t from r);subst e;exact aEU P w i t
 | inr x=>obtain ⟨t,e⟩:=(show ∃ t,u=Value.str x t from r);subst e;exact aEV P w x t
section
variable{X:Cx}{a5:List (Az×Obj)}{σ:St}{H:Hp}{s:S9}{a:Az}{y v:V}{u r:V9}{o:O9 V}{A:U9}{E:V9->S9->Prop}
def Inv.big(I:Inv X a5 σ H s):sysModules < s.heap.objs.size:=by
 have h:mainGlobals < s.heap.objs.size:=(I.mod.glob.keeps I.bk).lt
 exact G7 (by decide) h
def oY{h':H9}{t':Nat}{c:HO}(I:Inv X a5 σ H s)(d:Mut (H a))(f:Heap.SameBut a s.heap h')(g:∃ q,h'.get? a=some q)(new:cX X.prog X.w (upd H a c) h' a c) :
  Inv X a5 σ (upd H a c) {s with heap:=h',toks:=t'}:=
 I.write (x:=a) (e:=a) d (.inl rfl) (fun b q h z=>(f.2 b h).trans z) g new
end
def aRX(i:E3):Prop:=∀ ov iv,subscripted i false ov iv=operate [ov,iv] (getItem ov iv)
def aOJ{prog:P9}{w:W9}{A:U9}{E:V9->S9->Prop}{s:S9}{env:Env}{b a:E3}{pos:Pos}{T id:String}{Q:V9->S9->Prop}
  (k:typeLookup (.type T) "__getitem__"=pure (some (.builtin id))) (l:aRX a)
  (h:wpAny (model prog w) A (eval b env) (fun o s₁=>wpAny (model prog w) A (eval a env) (fun i s₂=>s₂.TypeIs o T/\wpAny (model prog w) A (getItem o i) Q E s₂) E s₁) E s) :
  wpAny (model prog w) A (eval (.Subscript b a pos) env) Q E s:=by
 refine Subscript_ (B0 h (fun o s₁ f=>B0 f (fun i s₂ c=>?_) fun _ _ x=>x) fun _ _ x=>x)
 obtain ⟨j,c⟩:=c
 unfold subscriptTail
 refine AA ?_
 rw[getitemInPython_of_ne j.not_modules]
 refine AA (GR j k ?_)
 have e:wpAny (model prog w) A (subscripted a false o i) (fun r d=>wpAny (model prog w) A (letTemporaryGo b o r >>= fun _=>pure r) Q E d) E s₂:=by
  rw[l o i]
  exact wpAny_operating (B0 c (fun r d g=>AA (wpAny_letTemporaryGo (AH g))) fun _ _ x=>x)
 first
  | exact AH (AA e)
  | exact AA (AH (AA e))
  | exact AA e
structure M1(X:Cx)(o:Expr)(m:Str)(apos:Pos)(e:Expr)(cpos:Pos):Prop where
 base:attributeBase o m X.env (eval o X.env)=eval o X.env
 few:((backTo cpos (starEach [e] X.env)).all (fun x=>!x.1) && (backToKw cpos (keywordEach [] X.env)).all (fun x=>x.1.isSome)
  && decide (([e]:List Expr).length+([]:List Keyword).length+(if ([]:List Keyword).isEmpty then 0 else 1) < 30))=true
 line:(apos.endLine == cpos.line)=true
 trees:backTo cpos (starEach [e] X.env)=[(false,eval e X.env)]
structure M2(X:Cx)(o:Expr)(m:Str)(apos:Pos)(e f:Expr)(cpos:Pos):Prop where
 base:attributeBase o m X.env (eval o X.env)=eval o X.env
 few:((backTo cpos (starEach [e,f] X.env)).all (fun x=>!x.1) && (backToKw cpos (keywordEach [] X.env)).all (fun x=>x.1.isSome)
  && decide (([e,f]:List Expr).length+([]:List Keyword).length+(if ([]:List Keyword).isEmpty then 0 else 1) < 30))=true
 line:(apos.endLine == cpos.line)=true
 trees:backTo cpos (starEach [e,f] X.env)=[(false,eval e X.env),(false,eval f X.env)]
def qM(ks:List (List Key×Az))(k:List Key):Bool:=ks.any fun p=>decide (p.1=k)
def aCF(K:Frag)(H:Hp)(ks:List (List Key×Az)):Prop:=∀ p∈ks,SqT K H p.2 (p.1.map kV)
def SqT.ext{K:Frag}{H:Hp}{a q:Az}{φ:H9->Prop}{o:HO}{xs:List V}(h:SqT K H q xs)(b:H a=some (.ext φ)):SqT K (upd H a o) q xs:=by
 rcases h with (h|⟨u,h⟩)|h
 .refine .inl (.inl ?_)
  rw[aU (fun z=>by rw[z,b] at h;cases h)];exact h
 .refine .inl (.inr ⟨u,?_⟩)
  rw[aU (fun z=>by rw[z,b] at h;cases h)];exact h
 .exact .inr h
def SqL.ext{K:Frag}{H:Hp}{a q:Az}{φ:H9->Prop}{o:HO}{xs:List V}(h:SqL K H q xs)(b:H a=some (.ext φ)):SqL K (upd H a o) q xs:=by
 rcases h with (h|⟨u,h⟩)|h
 .refine .inl (.inl ?_)
  rw[aU (fun z=>by rw[z,b] at h;cases h)];exact h
 .refine .inl (.inr ⟨u,?_⟩)
  rw[aU (fun z=>by rw[z,b] at h;cases h)];exact h
 .exact .inr h
mutual
theorem DatV.ext{K:Frag}{H:Hp}{a:Az}{φ:H9->Prop}{o:HO}(ha:H a=some (.ext φ)):∀ {x:V} {d:Dz},DatV K H x d->DatV K (upd H a o) x d
 | _,_,.non=>.non
 | _,_,.bl b=>.bl b
 | _,_,.int i=>.int i
 | _,_,.str x=>.str x
 | _,_,.lst h ds=>.lst (h.ext ha) (DatVs.ext ha ds)
 | _,_,.tup h ds=>.tup (h.ext ha) (DatVs.ext ha ds)
theorem DatVs.ext{K:Frag}{H:Hp}{a:Az}{φ:H9->Prop}{o:HO}(ha:H a=some (.ext φ)):∀ {xs:List V} {ds:List Dz},DatVs K H xs ds->DatVs K (upd H a o) xs ds
 | _,_,.nil=>.nil
 | _,_,.cons h t=>.cons (DatV.ext ha h) (DatVs.ext ha t)
end
def aCF.ext{K:Frag}{H:Hp}{a:Az}{φ:H9->Prop}{o:HO}{ks:List (List Key×Az)}(h:aCF K H ks)(b:H a=some (.ext φ)):aCF K (upd H a o) ks:=fun p c=>SqT.ext (h p c) b
end L2
namespace Mc
open L2 PyProof.Rows
def Tn.good(n:Int):Tn->Prop
 | .n i=>0<=i/\i < n
 | .w x=>x="by"\/x="out"
def pE(n:Int)(c:Int×Int):Prop:=0<=c.1/\c.1 < n/\(c.2=1\/c.2 = -1)
def Rw.good(n:Int)(r:Rw):Prop:=r.l.good n/\r.r.good n/\∀ c∈r.c,pE n c
def Tn.good.ok{n:Int}{t:Tn}(h:t.good n):t.ok:=by
 cases t with
 | n i=>trivial
 | w x=>
  rcases h with rfl|rfl
  · exact (show PyData.strOk _ = true by decide +kernel)
  · exact (show PyData.strOk _ = true by decide +kernel)
def Rw.good.ok{n:Int}{r:Rw}(h:r.good n):r.ok:=⟨h.1.ok,h.2.1.ok⟩
structure Mach(rs:List Rw)(sg:Nat):Prop where
 len:1<=rs.length
 len2:rs.length<=1000
 sg1:1<=sg
 sg3:sg<=3
 row:∀ r∈rs,r.good rs.length/\r.c.length=sg
def bA(sg:Nat)(z:List Nat):Prop:=z.length<=1000/\∀ c∈z,cF sg c=true
def bB(rs:List Rw)(q:Int):Rw:=rs.getD q.toNat ⟨.n 0,[],.n 0⟩
def bX(rs:List Rw)(z:List Nat)(st:Int×Int):Tn×Int:=
 if st.1=0 then ((bB rs st.2).l,1) else if st.1=(z.length:Int)+1 then ((bB rs st.2).r,-1) else
  (.n ((bB rs st.2).c.getD (z.getD (st.1.toNat - 1) 97 - 97) (0,0)).1,((bB rs st.2).c.getD (z.getD (st.1.toNat - 1) 97 - 97) (0,0)).2)
def fF(rs:List Rw)(z:List Nat)(st:Int×Int):O9 (Int×Int):=
 match (bX rs z st).1 with
 | .w _=>none
 | .n q=>some (st.1+(bX rs z st).2,q)
def j5(rs:List Rw)(z:List Nat)(st:Int×Int):Prop:=0<=st.1/\st.1<=(z.length:Int)+1/\0<=st.2/\st.2 < (rs.length:Int)
def eP{rs:List Rw}{q:Int}(h0:0<=q)(h1:q < rs.length):rs[q.toNat]? = some (bB rs q):=by
 have h:q.toNat < rs.length:=by omega
 unfold bB
 rw[AG,AD h];rfl
def aFD{rs:List Rw}{sg:Nat}{z:List Nat}{st:Int×Int}(S:bA sg z)(V:j5 rs z st)(h0:st.1≠0)(h1:st.1≠(z.length:Int)+1):∃ c,z[st.1.toNat - 1]? = some c/\cF sg c=true/\z.getD (st.1.toNat - 1) 97=c:=by
 obtain ⟨a,b,_,_⟩:=V
 have d:st.1.toNat - 1 < z.length:=by omega
 refine ⟨z[st.1.toNat - 1],by simp[d],S.2 _ (CQ d),by rw[AG,AD d];rfl⟩
def aCG{rs:List Rw}{sg:Nat}{z:List Nat}{st:Int×Int}(M:Mach rs sg)(S:bA sg z)(V:j5 rs z st)(h0:st.1≠0)(h1:st.1≠(z.length:Int)+1) :
  ∃ c,(bB rs st.2).c[z.getD (st.1.toNat - 1) 97 - 97]? = some c/\(bB rs st.2).c.getD (z.getD (st.1.toNat - 1) 97 - 97) (0,0)=c/\pE rs.length c:=by
 obtain ⟨c,_,b,e⟩:=aFD S V h0 h1
 rw[e]
 have b:=BF b
 have d:=M.row _ (AM (eP V.2.2.1 V.2.2.2))
 have a:c - 97 < (bB rs st.2).c.length:=by rw[d.2];omega
 refine ⟨(bB rs st.2).c[c - 97],by simp[a],by rw[AG,AD a];rfl,d.1.2.2 _ (CQ a)⟩
def xR{rs:List Rw}{sg:Nat}{z:List Nat}{st st':Int×Int}(M:Mach rs sg)(S:bA sg z)(V:j5 rs z st)(h:fF rs z st=some st'):j5 rs z st':=by
 have k:=M.row _ (AM (eP V.2.2.1 V.2.2.2))
 obtain ⟨a,b,c,d⟩:=id V
 unfold fF bX at h
 by_cases i:st.1=0
 .simp only[AL i] at h
  have g:=k.1.1
  cases e:(bB rs st.2).l with
  | w x=>rw[e] at h;cases h
  | n q=>
   rw[e] at h g
   cases h
   exact ⟨by show 0<=st.1+1;omega,by show st.1+1<=_;omega,g.1,g.2⟩
 .by_cases h1:st.1=(z.length:Int)+1
  .simp only[AK i,AL h1] at h
   have g:=k.1.2.1
   cases e:(bB rs st.2).r with
   | w x=>rw[e] at h;cases h
   | n q=>
    rw[e] at h g
    cases h
    exact ⟨by show 0<=st.1 + -1;omega,by show st.1 + -1<=_;omega,g.1,g.2⟩
  .obtain ⟨j,_,e,g⟩:=aCG M S V i h1
   simp only[AK i,AK h1] at h
   rw[e] at h
   cases h
   obtain ⟨m,o,f⟩:=g
   refine ⟨?_,?_,m,o⟩
   .show 0<=st.1+j.2;rcases f with f|f<;>omega
   .show st.1+j.2<=_;rcases f with f|f<;>omega
theorem tS:∀ (N:Nat) (l:List Nat),l.Nodup->(∀ x∈l,x < N)->l.length<=N
 | 0,l,_,h=>by
  cases l with
  | nil=>exact AU _
  | cons a t=>exact absurd (h a (by simp)) (by omega)
 | N+1,l,hn,h=>by
  have ih:=tS N (l.erase N) (hn.erase N) (fun x b=>by
   have:=(hn.mem_erase_iff).mp b
   have h2:=h x this.2
   omega)
  have:=List.length_erase (a:=N) (l:=l)
  split at this<;>omega
def rY{rs:List Rw}{z:List Nat}{l:List (Int×Int)}(j:l.Nodup)(g:∀ st∈l,j5 rs z st):l.length<=(z.length+2) * rs.length:=by
 have h:=tS ((z.length+2) * rs.length) (l.map fun st=>st.1.toNat * rs.length+st.2.toNat) ?_ ?_
 .rw[AB] at h;exact h
 .unfold List.Nodup
  rw[List.pairwise_map]
  refine GI (fun {a b} ha hb hab e=>hab ?_) j
  obtain ⟨n,m,k,o⟩:=g a ha
  obtain ⟨q,r,s,t⟩:=g b hb
  have i:0 < rs.length:=by omega
  have e1:(a.1.toNat * rs.length+a.2.toNat) / rs.length=(b.1.toNat * rs.length+b.2.toNat) / rs.length:=by rw[e]
  have e2:(a.1.toNat * rs.length+a.2.toNat) % rs.length=(b.1.toNat * rs.length+b.2.toNat) % rs.length:=by rw[e]
  have d:a.2.toNat < rs.length:=by omega
  have c:b.2.toNat < rs.length:=by omega
  rw[GJ,Nat.mul_add_div i,GJ b.1.toNat,Nat.mul_add_div i,Nat.div_eq_of_lt d,Nat.div_eq_of_lt c] at e1
  rw[GJ,Nat.mul_add_mod,GJ b.1.toNat,Nat.mul_add_mod,Nat.mod_eq_of_lt d,Nat.mod_eq_of_lt c] at e2
  exact Prod.ext (by omega) (by omega)
 .intro x p
  obtain ⟨st,f,rfl⟩:=AN.mp p
  obtain ⟨n,m,k,o⟩:=g st f
  have h1:st.1.toNat+1<=z.length+2:=by omega
  have h2:st.2.toNat < rs.length:=by omega
  calc st.1.toNat * rs.length+st.2.toNat < st.1.toNat * rs.length+rs.length:=by omega
   _=(st.1.toNat+1) * rs.length:=by rw[Nat.add_mul];omega
   _<=(z.length+2) * rs.length:=Nat.mul_le_mul_right _ h1
def uW(rs:List Rw)(z:List Nat):Nat->List (Int×Int)->Int×Int->List (Int×Int)
 | 0,ps,st=>ps++[st]
 | k+1,ps,st=>if st∈ps then ps++[st] else match fF rs z st with
  | none=>ps++[st]
  | some st'=>uW rs z k (ps++[st]) st'
def mD(rs:List Rw)(z:List Nat):Nat:=(z.length+2) * rs.length
def oN(rs:List Rw)(z:List Nat):List (Int×Int):=uW rs z (mD rs z) [] (0,0)
structure Way(rs:List Rw)(z:List Nat)(ps:List (Int×Int))(st:Int×Int)(k:Nat):Prop where
 nd:ps.Nodup
 val:∀ s∈ps++[st],j5 rs z s
 num:ps.length+k=mD rs z
 res:uW rs z k ps st=oN rs z
def Way.start{rs:List Rw}{sg:Nat}{z:List Nat}(M:Mach rs sg):Way rs z [] (0,0) (mD rs z) where
 nd:=CT
 val:=fun s a=>by
  obtain rfl:s=(0,0):=by simpa using a
  have:=M.len
  exact ⟨DJ _,by show (0:Int)<=_;omega,DJ _,by show (0:Int) < _;omega⟩
 num:=by simp
 res:=rfl
def Way.here{rs:List Rw}{z:List Nat}{ps:List (Int×Int)}{st:Int×Int}{k:Nat}(W:Way rs z ps st k):j5 rs z st:=W.val st (by simp)
def Way.stop{rs:List Rw}{z:List Nat}{ps:List (Int×Int)}{st:Int×Int}{k:Nat}(W:Way rs z ps st k)(h:st∈ps):ps++[st]=oN rs z:=by
 rw[<-W.res]
 cases k with
 | zero=>rfl
 | succ k=>unfold uW;rw[AL h]
def Way.more{rs:List Rw}{z:List Nat}{ps:List (Int×Int)}{st:Int×Int}{k:Nat}(W:Way rs z ps st k)(h:st∉ps):∃ j,k=j+1:=by
 have c:(ps++[st]).Nodup:=by
  rw[CW]
  exact ⟨W.nd,by simp,fun a d b f e=>by rw[AQ.mp f] at e;exact h (e▸d)⟩
 have:=rY c W.val
 rw[A5] at this
 have g:=W.num
 unfold mD at g
 simp only[BB,BD] at this
 exact ⟨k - 1,by omega⟩
def Way.ends{rs:List Rw}{z:List Nat}{ps:List (Int×Int)}{st:Int×Int}{k:Nat}(W:Way rs z ps st k)(h:st∉ps)(e:fF rs z st=none):ps++[st]=oN rs z:=by
 obtain ⟨j,rfl⟩:=W.more h
 rw[<-W.res]
 unfold uW
 rw[AK h,e]
def Way.next{rs:List Rw}{sg:Nat}{z:List Nat}{ps:List (Int×Int)}{st st':Int×Int}{k:Nat}(M:Mach rs sg)(S:bA sg z)(W:Way rs z ps st (k+1))(h:st∉ps)(e:fF rs z st=some st'):Way rs z (ps++[st]) st' k where
 nd:=by
  rw[CW]
  exact ⟨W.nd,by simp,fun a c b d e=>by rw[AQ.mp d] at e;exact h (e▸c)⟩
 val:=fun s f=>by
  rcases BK.mp f with q|q
  · exact W.val s q
  · rw [AQ.mp q]; exact xR M S W.here e
 num:=by rw[A5];have:=W.num;simp;omega
 res:=by
  rw[<-W.res]
  conv=>rhs;unfold uW
  rw[AK h,e]
end Mc
namespace L2
open PySem.Spec PyProof.Rows
theorem qV:∀ {ys:List Str} {us:List V9},bY (ys.map V.str) us->StrsAre us ys
 | [],_,.nil=>.nil
 | y::ys,_,.cons r t=>by obtain ⟨t',rfl⟩:=r;exact .cons y t' (qV t)
def aNE(K:Frag):V->List V->Hp->VK->Prop:=fun x vs H Q=>∃ (sep:Str) (a:Az) (ys:List Str),x=.str sep/\vs=[.ref a]/\SqL K H a (ys.map V.str)/\(ys.map fun y=>y.length).sum+ys.length * sep.length<=16777216/\Q (.str (Txt.join sep ys)) H
def aOK{X:Cx}:MtR X "str.join" (aNE X.K):=by
 intro a5 s σ H x vs v us Q I j c h
 obtain ⟨i,a,ys,rfl,rfl,d,f,q⟩:=h
 obtain ⟨t,rfl⟩:=j
 obtain ⟨u,rfl,e⟩:=c.one
 cases (show u=Value.ref a from e)
 obtain ⟨b,r,g,_⟩:=I.list d
 exact join_list (items:=b.toArray) g.isList (by simpa using qV r) f fun l k=>⟨.str _,H,I.tok _,⟨_,rfl⟩,q⟩
end L2
namespace Mc
open L2 PyProof.Rows
def one(c:Nat):Str:=⟨#[c]⟩
def aIV(cs:List Nat):∀ (a:Array Nat),(List.foldl (fun a7 p=>a7++("":Str).cps++p.cps) a (cs.map one)).toList=a.toList++cs:=by
 induction cs with
 | nil=>intro a;simp
 | cons c t ih=>
  intro a
  rw[AY,GS,ih]
  have:("":Str).cps = #[]:=rfl
  rw[this]
  simp[one]
def aLH(cs:List Nat):(Txt.join "" (cs.map one)).cps.toList=cs:=by
 unfold Txt.join Builtin.Str.glued
 cases cs with
 | nil=>rfl
 | cons c t=>
  show (List.foldl _ (one c).cps (t.map one)).toList=_
  rw[aIV];rfl
def aOL(cs:List Nat):((cs.map one).map fun y=>y.length).sum=cs.length:=by
 induction cs with
 | nil=>rfl
 | cons c t ih=>rw[AY,AY,List.sum_cons,ih,BB];show 1+_=_;omega
def aFE{x y:Str}(h:x.cps.toList=y.cps.toList):x=y:=by
 cases x;cases y
 simp only[Str.mk.injEq]
 exact Array.toList_inj.mp h
def aOM(cs:List Nat):Txt.join "" (cs.map one)=⟨cs.toArray⟩:=aFE (by rw[aLH])
def aON{k:Int}{sg:Nat}(h1:1<=sg)(d:sg<=3):∃ c,atI ("abc":Str).cps.toList (k % (sg:Int))=some c/\cF sg c=true:=by
 have b:=C4 k (show (sg:Int)≠0 by omega)
 have h2:=CK k (show (0:Int) < sg by omega)
 obtain ⟨j,a⟩:∃ j:Nat,k % (sg:Int)=j:=⟨(k % (sg:Int)).toNat,by omega⟩
 rw[a] at b h2 ⊢
 refine ⟨97+j,?_,AX (by omega)⟩
 obtain rfl|rfl|rfl:j=0\/j=1\/j=2:=by omega
 all_goals decide +kernel
section
variable{S O:Type}
inductive Ex(st:S->Option (S⊕O)):Nat->S->O->Prop
 | out {s:S} {o:O} (h:st s=some (.inr o)):Ex st 0 s o
 | go {s s':S} {o:O} {n:Nat} (h:st s=some (.inl s')) (t:Ex st n s' o):Ex st (n+1) s o
inductive Rc(st:S->Option (S⊕O)):Nat->S->S->Prop
 | nil {s:S}:Rc st 0 s s
 | cons {s s' s'':S} {n:Nat} (h:st s=some (.inl s')) (t:Rc st n s' s''):Rc st (n+1) s s''
variable{st:S->O9 (S⊕O)}
def Ex.det{n c:Nat}{s:S}{o o':O}(a:Ex st n s o)(b:Ex st c s o'):n=c/\o=o':=by
 induction a generalizing c o' with
 | out h=>
  cases b with
  | out h'=>rw[h] at h';cases h';exact ⟨rfl,rfl⟩
  | go h' t=>rw[h] at h';cases h'
 | go h t ih=>
  cases b with
  | out h'=>rw[h] at h';cases h'
  | go h' t'=>
   rw[h] at h';cases h'
   obtain ⟨e,d⟩:=ih t'
   exact ⟨by omega,d⟩
def Rc.ex{k n:Nat}{s s':S}{o:O}(a:Rc st k s s')(b:Ex st n s o):∃ n',n=n'+k/\Ex st n' s' o:=by
 induction a generalizing n with
 | nil=>exact ⟨n,rfl,b⟩
 | cons h t ih=>
  cases b with
  | out h'=>rw[h] at h';cases h'
  | go h' t'=>
   rw[h] at h';cases h'
   obtain ⟨n',e,q⟩:=ih t'
   exact ⟨n',by omega,q⟩
def Rc.to{k n:Nat}{s s':S}{o:O}(a:Rc st k s s')(b:Ex st n s' o):Ex st (n+k) s o:=by
 induction a with
 | nil=>exact b
 | cons h t ih=>exact .go h (ih b)
def Rc.snoc{k:Nat}{s s' b:S}(a:Rc st k s s')(h:st s'=some (.inl b)):Rc st (k+1) s b:=by
 induction a with
 | nil=>exact .cons h .nil
 | cons h' t ih=>exact .cons h' (ih h)
def Rc.round{m n:Nat}{s:S}{o:O}(a:Rc st (m+1) s s):¬ Ex st n s o:=fun b=>by
 obtain ⟨c,e,q⟩:=a.ex b
 have:=(b.det q).1
 omega
def Res(st:S->O9 (S⊕O))(s:S)(r:O9 O):Prop:=∀ o,r=some o↔∃ n,Ex st n s o
def Res.det{s:S}{r c:O9 O}(a:Res st s r)(b:Res st s c):r=c:=by
 apply Option.ext
 intro o
 exact (a o).trans (b o).symm
def Res.out{s:S}{o:O}(h:st s=some (.inr o)):Res st s (some o):=fun o'=>by
 constructor
 · intro e; cases e; exact ⟨0, .out h⟩
 · rintro ⟨n, q⟩; rw [((Ex.out h).det q).2]
def Res.step{s s':S}{r:O9 O}(h:st s=some (.inl s'))(a:Res st s' r):Res st s r:=fun o=>by
 rw[a o]
 constructor
 .rintro ⟨n,q⟩;exact ⟨n+1,.go h q⟩
 .rintro ⟨n,q⟩
  cases q with
  | out h'=>rw[h] at h';cases h'
  | go h' t=>rw[h] at h';cases h';exact ⟨_,t⟩
def Res.round{s:S}{m:Nat}(a:Rc st (m+1) s s):Res st s none:=fun o=>by
 constructor
 · intro e; cases e
 · rintro ⟨n, q⟩; exact absurd q a.round
open Classical in
def cD(st:S->O9 (S⊕O))(s:S):O9 O:=if h:∃ o n,Ex st n s o then some h.choose else none
def nK(st:S->O9 (S⊕O))(s:S):Res st s (cD st s):=fun o=>by
 unfold cD
 by_cases h:∃ o n,Ex st n s o
 .rw[dif_pos h]
  obtain ⟨n,q⟩:=h.choose_spec
  constructor
  · intro e; cases e; exact ⟨n, q⟩
  · rintro ⟨n', q'⟩; rw [(q.det q').2]
 .rw[dif_neg h]
  constructor
  · intro e; cases e
  · rintro ⟨n, q⟩; exact absurd ⟨o, n, q⟩ h
def Res.eq{s:S}{r:O9 O}(a:Res st s r):r=cD st s:=a.det (nK st s)
def wE{a:Type}{st':a->O9 (a⊕O)}{s:S}{s':a}(h:∀ o,(∃ n,Ex st n s o)↔∃ n,Ex st' n s' o):cD st s=cD st' s':=
 Option.ext fun o=>((nK st s) o).trans ((h o).trans ((nK st' s') o).symm)
structure Und2(st:S->Option (S⊕O))(s0:S)(ps:List S)(s:S):Prop where
 nd:ps.Nodup
 back:∀ p∈ps,∃ m,Rc st (m+1) p s
 res:∀ r,Res st s r->Res st s0 r
def Und2.start{a:S}:Und2 st a [] a:=⟨CT,fun p b=>by simp at b,fun r h=>h⟩
def Und2.next{c s s':S}{ps:List S}(U:Und2 st c ps s)(d:s∉ps)(h:st s=some (.inl s')):Und2 st c (ps++[s]) s' where
 nd:=by
  rw[CW]
  exact ⟨U.nd,by simp,fun a f b g e=>by rw[AQ.mp g] at e;exact d (e▸f)⟩
 back:=fun p i=>by
  rcases BK.mp i with q|q
  · obtain ⟨m, r⟩ := U.back p q; exact ⟨m + 1, r.snoc h⟩
  · rw [AQ.mp q]; exact ⟨0, .cons h .nil⟩
 res:=fun r a=>U.res r (a.step h)
def Und2.met{a s:S}{ps:List S}(U:Und2 st a ps s)(h:s∈ps):cD st a=none:=by
 obtain ⟨m,r⟩:=U.back s h
 exact ((U.res _ (Res.round r)).eq).symm
def Und2.outs{a s:S}{ps:List S}{o:O}(U:Und2 st a ps s)(h:st s=some (.inr o)):cD st a=some o:=((U.res _ (Res.out h)).eq).symm
end
abbrev Th:=O9 (Int×Int)
structure Tb where
 f:List Th
 a:List Th
def Tb.at(t:Tb)(w q:Int):Th:=(if w=1 then t.f else t.a).getD q.toNat none
def aCH(m:Nat):Th->Prop
 | none=>True
 | some (d,q)=>(d=1\/d = -1)/\0<=q/\q < (m:Int)
structure Tb.good(m:Nat)(t:Tb):Prop where
 lf:t.f.length=m
 la:t.a.length=m
 gf:∀ x∈t.f,aCH m x
 ga:∀ x∈t.a,aCH m x
theorem Tb.good.at{m:Nat}{t:Tb}(h:t.good m){w q:Int}(h0:0<=q)(h1:q < m):(if w=1 then t.f else t.a)[q.toNat]? = some (t.at w q)/\aCH m (t.at w q):=by
 have c:q.toNat < (if w=1 then t.f else t.a).length:=by
  split
  · rw [h.lf]; omega
  · rw [h.la]; omega
 have e:(if w=1 then t.f else t.a)[q.toNat]? = some (t.at w q):=by
  unfold Tb.at
  rw[AG,AD c];rfl
 refine ⟨e,?_⟩
 have b:=AM e
 split at b
 .exact h.gf _ b
 .exact h.ga _ b
def aXC(k n:Int)(s:Int×Int×Int):Int×Int×Int:=(if s.1 < k then s.1 else if s.1=k then (if s.2.1=1 then k else k+n - 1) else s.1+n - 1,s.2.1,s.2.2)
def pW{S:Type}(f:S->Nat)(N:Nat)(l:List S)(c:l.Nodup)(i:∀ s∈l,f s < N)(hi:∀ a∈l,∀ b∈l,f a=f b->a=b):l.length<=N:=by
 have h:=tS N (l.map f) ?_ ?_
 .rw[AB] at h;exact h
 .unfold List.Nodup
  rw[List.pairwise_map]
  exact GI (fun {a b} ha hb hab e=>hab (hi a ha b hb e)) c
 .intro x g
  obtain ⟨s,d,rfl⟩:=AN.mp g
  exact i s d
def pX{S O:Type}{st:S->O9 (S⊕O)}{s:S}{o:O}(h:st s=some (.inr o)):cD st s=some o:=((Res.out h).eq).symm
end Mc
namespace L2
open PySem.Spec PyProof.Rows
def Its(z:Str):It:=⟨fun i _=>i < z.cps.size,fun i H x H'=>H'=H/\∃ c,z.cps[i]? = some c/\x=.str ⟨#[c]⟩,fun i _=>i=z.cps.size⟩
def aCI{P:P9}{w:W9}{K:Frag}{tg:E3}(z:Str)(t:Tok)(T:String)(G:∀ A:U9,A.handled=none->∀ it,Walks P w A it [it] [it] z.cps.size (SignAt z) fun i h=>h.IsStrIter it T z t i)
  (a:∀ (A:U9) (it:Az) (i:Nat) (s:S9) (Q E:V9->S9->Prop),s.heap.IsStrIter it T z t i->Q (.ref it) s->wpAny (model P w) A (pyIter (.ref it)) Q E s)
  (u:["enumerate","zip","dict_itemiterator","dict_reverseitemiterator","odict_iterator","itertools.zip_longest","itertools.pairwise"].contains T=false) (it:Az):Turn P w K tg (Its z) [it] it (fun i h=>h.IsStrIter it T z t i) where
 mem:=by simp
 obj:=fun i h st b f=>by
  obtain rfl:b=it:=by simpa using f
  obtain ⟨o,e,c,d⟩:=st
  exact ⟨o,e,fun v z=>by rw[d] at z;cases z⟩
 keep:=fun i h h' st k=>by
  obtain ⟨o,e,c,d⟩:=st
  exact ⟨o,k it (by simp) o e,c,d⟩
 item:=by
  intro X B m p q i a5 s σ H E I l st g
  subst B m p
  obtain ⟨x,F,N,C,D,r⟩:=l it (by simp)
  refine (G X.A (I.ok.hd q) it).item i s _ E g st fun v h' tk J j n=>?_
  obtain ⟨c,tc,y,rfl⟩:=J
  have M:Inv X a5 σ H {s with heap:=h',toks:=tk}:=I.turned (t':=tk) (it:=it) (fun b o f e=>n b o (by simpa using f) e) x F C D r
  obtain ⟨o,e,L,d⟩:=id j
  exact ⟨_,rfl,aBW (s:={s with heap:=h',toks:=tk}) e L d u ⟨.str ⟨#[c]⟩,H,M,⟨_,rfl⟩,⟨rfl,c,y,rfl⟩,j,fun b f=>(l b f).1⟩⟩
 done:=by
  intro X B m p q i a5 s σ H E I l st g
  subst B m p
  obtain ⟨x,F,N,C,D,r⟩:=l it (by simp)
  have g:i=z.cps.size:=g
  subst g
  exact (G X.A (I.ok.hd q) it).done s _ E st fun h' tk n=>⟨rfl,I.turned (t':=tk) (it:=it) (fun b o f e=>n b o (by simpa using f) e) x F C D r⟩
 self:=fun A i s Q E st h=>a A it i s Q E st h
def aVS(te:TE):TI:=fun σ H R=>te σ H fun x H1=>∃ z,x=.str z/\R (Its z) H1
def aIW{X:Cx}{tg l:E3}{tl:TE}(n:PE X l tl):PI X tg l (aVS tl):=by
 intro a5 s σ H R I h
 refine thn (n a5 s σ H _ I h) fun v s1 k=>?_
 obtain ⟨x,H1,j,r1,p⟩:=k
 obtain ⟨z,e,q⟩:=p
 subst e
 obtain ⟨t,rfl⟩:=r1
 refine wpAny_pyIter_strU ?_
 have d:Inv X a5 σ H1 {s1 with heap:=s1.heap.push {cls:=.type (strIterType z),data:=.fields #[.str z t,.int 0 0]}}:=j.kept (t':=s1.toks) fun b o e=>AE _ e
 have st:(s1.heap.push {cls:=.type (strIterType z),data:=.fields #[.str z t,.int 0 0]}).IsStrIter s1.heap.objs.size (strIterType z) z t 0:=⟨_,A4 _ rfl,rfl,rfl⟩
 have c:∀ b∈[s1.heap.objs.size],k7 X a5 H1 b:=fun b r=>by
  obtain rfl:=AQ.mp r
  exact j.fpOk (AU _) (j.hok.fresh (AU _))
 by_cases m:(z.cps.all fun x=>decide (x < 128))=true
 .have g:strIterType z="str_ascii_iterator":=by unfold strIterType;rw[AL m]
  rw[g] at st d ⊢
  exact ⟨s1.heap.objs.size,[s1.heap.objs.size],_,_,H1,rfl,d,aCI z t "str_ascii_iterator" (fun A f a=>Walks.strAscii f a z t) (fun A a i s Q E st h=>wpAny_pyIter_striter_ascii st h) (by decide) _,st,c,q⟩
 .have g:strIterType z="str_iterator":=by unfold strIterType;rw[AK m]
  rw[g] at st d ⊢
  exact ⟨s1.heap.objs.size,[s1.heap.objs.size],_,_,H1,rfl,d,aCI z t "str_iterator" (fun A f a=>Walks.strWide f a z t) (fun A a i s Q E st h=>wpAny_pyIter_striter_wide st h) (by decide) _,st,c,q⟩
structure InK(env:Env)(s₀:S9)(m cm:Str->Option V9)(s:S9):Prop where
 ic:InCall s₀ env.locals m s
 cell:∀ n c,env.cells.lookup n=some c->s.heap.IsCell c (cm n)
 inj:∀ n n' c,env.cells.lookup n=some c->env.cells.lookup n'=some c->n=n'
 ne:∀ n c,env.cells.lookup n=some c->c≠env.locals
 up:∀ n c,env.kindOf n=some .cell->env.cells.lookup n=some c->env.locals < c
section
variable{M:Model}{A:U9}{E:V9->S9->Prop}{s₀ s:S9}{m cm:Str->O9 V9}{env:Env}
def InK.stL{n:Str}{v:V9}{Q:Unit->S9->Prop}(x:InK env s₀ m cm s)(j:env.scope.kind=.function)(i:env.kindOf n=some .local)
  (h:∀ s',InK env s₀ (fun y=>if y=n then some v else m y) cm s'->Q () s'):wpAny M A (storeName env n v) Q E s:=by
 refine wpAny_storeName_local i x.ic.ns (fun h' d a=>h _ ⟨⟨?_,d,fun b o e=>?_,x.ic.fresh⟩,fun k c g=>?_,x.inj,x.ne,x.up⟩) (by rw[j];rfl)
 .obtain ⟨f,tk,rfl⟩:=x.ic.same
  exact ⟨h',_,rfl⟩
 .exact a.extBut b o (BP (A8 (AV e) x.ic.fresh)) (x.ic.keep b o e)
 .exact (x.cell k c g).sameBut a (x.ne k c g)
def InK.stC{n:Str}{c:Az}{v:V9}{Q:Unit->S9->Prop}(x:InK env s₀ m cm s)(r:env.scope.kind=.function)(l:env.kindOf n=some .cell)
  (i:env.cells.lookup n=some c)
  (h:∀ s',InK env s₀ m (fun y=>if y=n then some v else cm y) s'->Q () s'):wpAny M A (storeName env n v) Q E s:=by
 have g:=x.up n c l i
 refine wpAny_storeName_cell r l i (x.cell n c i) fun h' j d=>h _ ⟨⟨?_,x.ic.ns.sameBut d (BP g),fun b o e=>?_,x.ic.fresh⟩,fun k p a=>?_,x.inj,x.ne,x.up⟩
 .obtain ⟨q,tk,rfl⟩:=x.ic.same
  exact ⟨h',_,rfl⟩
 .exact d.extBut b o (BP (G7 (A8 (AV e) x.ic.fresh) g)) (x.ic.keep b o e)
 .by_cases f:k=n
  .subst f
   rw[i] at a;cases a
   simpa using j
  .rw[AK f]
   exact (x.cell k p a).sameBut d fun e=>f (x.inj k n p a (e▸i))
theorem InK.binds(f:Str×V9->PUnit->Sem (ForInStep PUnit))(i:∀ n v u,f (n,v) u=(do storeName env n v;pure (.yield ⟨⟩)))(g:env.scope.kind=.function) :
  ∀ (binds:List (Str×V9)) (m cm:Str->O9 V9) (s:S9) (Q:PUnit->S9->Prop),InK env s₀ m cm s->
   (∀ x∈binds,env.kindOf x.1=some .local\/(env.kindOf x.1=some .cell/\(env.cells.lookup x.1).isSome=true))->
   (∀ s',InK env s₀ (bindL env.kindOf binds m) (bindC env.kindOf binds cm) s'->Q ⟨⟩ s')->wpAny M A (forIn binds ⟨⟩ f) Q E s
 | [],m,cm,s,Q,x,_,h=>by rw[FN];exact AH (h s x)
 | (n,v)::r,m,cm,s,Q,x,hkind,h=>by
  rw[C3,i]
  have hr:∀ y∈r,env.kindOf y.1=some .local\/(env.kindOf y.1=some .cell/\(env.cells.lookup y.1).isSome=true):=fun y l=>hkind y (AJ _ l)
  rcases hkind (n,v) AS with d|⟨d,j⟩
  .refine AA (AA (x.stL g d fun s' k=>AH (InK.binds f i g r _ _ s' Q k hr fun b a=>h b ?_)))
   unfold bindL bindC;rw[AL d,AL d];exact a
  .obtain ⟨c,j⟩:=GD.mp j
   have e:¬ env.kindOf n=some .local:=by rw[d];decide
   refine AA (AA (x.stC g d j fun s' k=>AH (InK.binds f i g r _ _ s' Q k hr fun b a=>h b ?_)))
   unfold bindL bindC;rw[AK e,AK e];exact a
end
theorem lU:∀ (names:List (Str×NameKind)) (n:Nat) (a7:List (Str×Az)),cellsFrom n names a7=cellsFrom n names []++a7
 | [],_,_=>rfl
 | (x,k)::r,n,a7=>by
  unfold cellsFrom
  split
  · rw [lU r (n + 1) ((x, n) :: a7), lU r (n + 1) [(x, n)], List.append_assoc]; rfl
  · exact lU r n a7
theorem pY:∀ (names:List (Str×NameKind)) (n:Nat) {x:Str} {c:Az},(x,c)∈cellsFrom n names []->(x,NameKind.cell)∈names
 | [],_,_,_,h=>by simp[cellsFrom] at h
 | (y,k)::r,n,x,c,h=>by
  unfold cellsFrom at h
  split at h
  .rename_i hk
   rw[lU] at h
   rcases BK.mp h with h|h
   .exact AJ _ (pY r _ h)
   .have:(x,c)=(y,n):=by simpa using h
    cases this
    rw[E1 hk];exact AS
  .exact AJ _ (pY r _ h)
theorem rZ{α:Type}{x:Str}:∀ {l l':List (Str×α)},(l++l').lookup x=(l.lookup x).or (l'.lookup x)
 | [],l'=>by simp
 | (y,v)::r,l'=>by
  rw[BZ,BQ,BQ]
  cases x == y with
  | true=>rfl
  | false=>exact rZ
def aIX{α:Type}{x:Str}{l:List (Str×α)}(h:∀ v,(x,v)∉l):l.lookup x=none:=by
 cases e:l.lookup x with
 | none=>rfl
 | some v=>exact absurd (BN e) (h v)
def dG(qual:Str)(scope:Scope)(L f:Az)(cd:V9)(cl:List (Str×Az)):Env:=newEnv scope L mainGlobals (cellsFrom (L+1) scope.names cl) (qual++".<locals>.") (some f) cd none builtinsNs
structure ClAt(h:Heap)(scope:Scope)(cl:List (Str×Az))(cm:Str->Option V9):Prop where
 cell:∀ n c,cl.lookup n=some c->h.IsCell c (cm n)
 inj:∀ n n' c,cl.lookup n=some c->cl.lookup n'=some c->n=n'
 off:∀ y∈scope.names,y.2=.cell->cl.lookup y.1=none
section
variable{M:Model}{A:U9}{E:V9->S9->Prop}{s:S9}
def aFF{scope:Scope}{binds:List (Str×V9)}{qual:Str}{f:Az}{cd:V9}{cl:List (Str×Az)}{cm:Str->O9 V9}{Q:Env->S9->Prop}
  (z:scope.kind=.function) (C:ClAt s.heap scope cl cm)
  (k:∀ x∈binds,scope.names.lookup x.1=some .local\/scope.names.lookup x.1=some .cell)
  (y:∀ s',InK (dG qual scope s.heap.objs.size f cd cl) s (bindL (dG qual scope s.heap.objs.size f cd cl).kindOf binds fun _=>none) (bindC (dG qual scope s.heap.objs.size f cd cl).kindOf binds fun n=>if (cl.lookup n).isSome then cm n else none) s'->Q (dG qual scope s.heap.objs.size f cd cl) s') :
  wpAny M A (newFunctionEnv scope mainGlobals cl binds (qual++".<locals>.") (some f) cd none builtinsNs) Q E s:=by
 simp only[newFunctionEnv,Option.isSome_none,CH,DU]
 refine AA (wpAny_alloc ?_)
 refine AA (wpAny_layCells _ (fun name kind cells=>by cases m:kind == NameKind.cell<;>simp[m]) _ _ _ _ ?_)
 have ok:=cellsFrom_ok scope.names (s.heap.push {cls:=.type "frame",data:=.dict #[]}) (s.heap.objs.size+1) [] ⟨fun _ _ u=>(nomatch u),List.Pairwise.nil⟩ (by rw[B6];exact AU _)
 rw[B6] at ok
 rw[show ({s with heap:=s.heap.push {cls:=.type "frame",data:=.dict #[]}}:S9).heap.objs.size=s.heap.objs.size+1 from B6 ..]
 have j:∀ b o,s.heap.get? b=some o->(pushCells (s.heap.push {cls:=.type "frame",data:=.dict #[]}) scope.names).get? b=some o:=fun b o e=>pushCells_keeps _ _ b o (AE _ e)
 have h:(dG qual scope s.heap.objs.size f cd cl).cells=cellsFrom (s.heap.objs.size+1) scope.names []++cl:=lU _ _ _
 have i:∀ n c,(dG qual scope s.heap.objs.size f cd cl).cells.lookup n=some c->((cellsFrom (s.heap.objs.size+1) scope.names []).lookup n=some c/\cl.lookup n=none)\/((cellsFrom (s.heap.objs.size+1) scope.names []).lookup n=none/\cl.lookup n=some c):=fun n c e=>by
  rw[h,rZ] at e
  cases q:(cellsFrom (s.heap.objs.size+1) scope.names []).lookup n with
  | none=>rw[q] at e;exact .inr ⟨rfl,by simpa using e⟩
  | some d=>
   rw[q] at e
   have p:some d=some c:=by simpa using e
   cases p
   exact .inl ⟨rfl,C.off (n,.cell) (pY _ _ (BN q)) rfl⟩
 have big:∀ n c,(cellsFrom (s.heap.objs.size+1) scope.names []).lookup n=some c->s.heap.objs.size < c:=fun n c e=>(ok.empty n c (BN e)).2
 have g:∀ n c,cl.lookup n=some c->c < s.heap.objs.size:=fun n c e=>(C.cell n c e).lt
 refine AA (InK.binds (s₀:=s) (env:=dG qual scope s.heap.objs.size f cd cl)
  _ (fun _ _ _=>rfl) z binds (fun _=>none) (fun n=>if (cl.lookup n).isSome then cm n else none) _ _
  ⟨⟨⟨_,_,rfl⟩,(Heap.Ns.new s.heap (.type "frame")).keeps (pushCells_keeps _ _),j,AU _⟩,fun n c e=>?_,fun n t c e p=>?_,fun n c e=>?_,fun n c v e=>?_⟩
  (fun x w=>?_) fun s' x=>AH (y s' x))
 .rcases i n c e with ⟨q,a⟩|⟨q,a⟩
  .rw[a];exact (ok.empty n c (BN q)).1
  .rw[a];exact (C.cell n c a).keeps j
 .rcases i n c e with ⟨q,a⟩|⟨q,a⟩<;>rcases i t c p with ⟨r,l⟩|⟨r,l⟩
  .exact name_of_addr ok.apart (BN q) (BN r)
  .exact absurd (big _ _ q) (Nat.not_lt.mpr (DA (g _ _ l)))
  .exact absurd (big _ _ r) (Nat.not_lt.mpr (DA (g _ _ a)))
  .exact C.inj n t c a l
 .show c≠s.heap.objs.size
  rcases i n c e with ⟨q,a⟩|⟨q,a⟩
  .exact DB (big _ _ q)
  .exact BP (g _ _ a)
 .show s.heap.objs.size < c
  rcases i n c e with ⟨q,a⟩|⟨q,a⟩
  .exact big _ _ q
  .rw[C.off (n,.cell) (BN v) rfl] at a;cases a
 .rcases k x w with q|q
  .exact .inl q
  .refine .inr ⟨q,?_⟩
   obtain ⟨c,e⟩:=pC (n:=s.heap.objs.size+1) q
   rw[h,rZ,e];rfl
end
def hid(cs:List Az)(H:Hp):Hp:=fun b=>if b∈cs then none else H b
def shw(cs:List Az)(H H':Hp):Hp:=fun b=>if b∈cs then H b else H' b
def qW{cs:List Az}{H:Hp}{b:Az}(h:b∈cs):hid cs H b=none:=AL h
def cH{cs:List Az}{H:Hp}{b:Az}(h:b∉cs):hid cs H b=H b:=AK h
def tT{cs:List Az}{H H':Hp}{b:Az}(h:b∈cs):shw cs H H' b=H b:=AL h
def fS{cs:List Az}{H H':Hp}{b:Az}(h:b∉cs):shw cs H H' b=H' b:=AK h
def kD{cs:List Az}{H:Hp}{b:Az}(h:H b=none):hid cs H b=none:=by
 by_cases q:b∈cs
 · exact qW q
 · rw [cH q]; exact h
def r6{cs:List Az}{H:Hp}{b:Az}{o:HO}(h:hid cs H b=some o):H b=some o/\b∉cs:=by
 by_cases q:b∈cs
 · rw [qW q] at h; cases h
 · rw [cH q] at h; exact ⟨h, q⟩
def FnO(f:Az)(o:Obj):HO:=.ext fun h=>h.get? f=some o
def fU(c:Az)(o:Obj)(v:V):HO:=.frz o (.ext fun h=>∃ u,bL v u/\h.IsCell c (some u))
section
variable{P:P9}{w:W9}{H:Hp}{h:H9}
def FnO.get{f:Az}{o:Obj}(x:HOk P w H h)(e:H f=some (FnO f o)):h.get? f=some o:=(x f _ e).1
def fU.get{c:Az}{o:Obj}{v:V}(x:HOk P w H h)(e:H c=some (fU c o v)):h.get? c=some o/\∃ u,bL v u/\h.IsCell c (some u):=⟨(x c _ e).1,(x c _ e).2.1⟩
def FnO.ok{f:Az}{o:Obj}(e:h.get? f=some o):cX P w H h f (FnO f o):=⟨e,⟨o,e⟩,fun h1 h2 q k=>k o q⟩
def fU.ok{c:Az}{o:Obj}{v:V}{u:V9}(r:bL v u)(e:h.get? c=some o)(a:o.data=.cell (some u)):cX P w H h c (fU c o v):=
 ⟨e,⟨u,r,o,e,a⟩,⟨o,e⟩,fun h1 h2 ⟨u,r,o,b,a⟩ k=>⟨u,r,o,k o b,a⟩⟩
end
def Celd(cs:List Az)(H:Hp):Prop:=∀ c∈cs,∃ o v,H c=some (fU c o v)
def Celd.out{cs:List Az}{H:Hp}(h:Celd cs H){b:Az}{o:HO}(e:H b=some o)(n:∀ o' v,o≠fU b o' v):b∉cs:=fun z=>by
 obtain ⟨o',v,q⟩:=h b z
 rw[q] at e;cases e
 exact n o' v rfl
theorem HOk.hid{P:P9}{w:W9}{H:Hp}{h:H9}{cs:List Az}(x:HOk P w H h)(a:Celd cs H):HOk P w (hid cs H) h:=fun b u e=>by
 obtain ⟨e1,_⟩:=r6 e
 exact (x b u e1).stay (fun _ _ _ q=>q) (fun c q=>by rw[cH (a.out q fun _ v z=>nomatch z)];exact q) (fun c _ q=>by rw[cH (a.out q fun _ v z=>nomatch z)];exact q) fun c _ q=>by rw[cH (a.out q fun _ v z=>nomatch z)];exact q
structure CloScope(N ps fr:List Str)(sc:Scope):Prop where
 kind:sc.kind=.function
 co:sc.isCoroutine=false
 gen:sc.isGenerator=false
 nd:N.Nodup
 pre:N.take (ps++fr).length=ps++fr
 par:∀ x∈ps,sc.names.lookup x=some .local\/sc.names.lookup x=some .cell
 cap:∀ x∈fr,sc.names.lookup x=some .free
 only:∀ y∈sc.names,y.2=.free->y.1∈fr
 off:∀ y∈sc.names,y.2=.cell->y.1∉fr
structure CapAt(H:Hp)(fr:List Str)(cl:List (Str×Az))(vs:List V):Prop where
 len:vs.length=fr.length
 only:∀ n c,cl.lookup n=some c->n∈fr
 inj:∀ n n' c,cl.lookup n=some c->cl.lookup n'=some c->n=n'
 at':∀ (i:Nat) x v,fr[i]? = some x->vs[i]? = some v->∃ c o,cl.lookup x=some c/\H c=some (fU c o v)
def CapAt.get{H:Hp}{fr:List Str}{cl:List (Str×Az)}{vs:List V}(a:CapAt H fr cl vs){n:Str}{c:Az}(e:cl.lookup n=some c):∃ o v,H c=some (fU c o v):=by
 obtain ⟨i,hi,d⟩:=EK.mp (a.only n c e)
 obtain ⟨f,o,b,q⟩:=a.at' i n (vs[i]'(by rw[a.len];exact hi)) (by rw[AD hi,d]) (AD _)
 rw[e] at b;cases b
 exact ⟨_,_,q⟩
def bK(fr:List Str)(cl:List (Str×Az)):List Az:=fr.filterMap fun x=>cl.lookup x
def CapAt.celd{H:Hp}{fr:List Str}{cl:List (Str×Az)}{vs:List V}(a:CapAt H fr cl vs):Celd (bK fr cl) H:=fun c b=>by
 obtain ⟨x,_,e⟩:=DK.mp b
 exact a.get e
def CapAt.same{H H':Hp}{fr:List Str}{cl:List (Str×Az)}{vs:List V}(a:CapAt H fr cl vs)(s:aR H H'):CapAt H' fr cl vs:=⟨a.len,a.only,a.inj,fun i x v h1 h2=>let ⟨c,o,e,q⟩:=a.at' i x v h1 h2;⟨c,o,e,s _ _ q⟩⟩
def kR(CX:CXT)(P:P9)(w:W9)(K:Frag)(mg:Str->O9 V9)(base:H9)(N fr:List Str)(qual:Str)(scope:Scope)(f:Az)(cd:V9)(cl:List (Str×Az))(A:U9)(outer:List Env)(s:S9)(H:Hp)(E:XK):Cx where
 prog:=P
 w:=w
 K:=K
 mg:=mg
 base:=base
 A:=A.deeper (dG qual scope s.heap.objs.size f cd cl)
 N:=N
 s₀:=s
 H₀:=hid (bK fr cl) H
 env:=dG qual scope s.heap.objs.size f cd cl
 outer:=outer
 stack:=dG qual scope s.heap.objs.size f cd cl::outer
 ex:=[]
 calm:=true
 fn:=fun x=>(cl.lookup x).isNone
 pn:=[]
 xe:=fun e s'=>wpAny (model P w) (A.deeper (dG qual scope s.heap.objs.size f cd cl)) (leaving (dG qual scope s.heap.objs.size f cd cl) e) (fun _ s''=>CX outer H s E e s'') (fun e' s''=>CX outer H s E e' s'') s'
section
variable{CX:CXT}{P:P9}{w:W9}{K:Frag}{mg:Str->O9 V9}{base:H9}{N ps fr:List Str}{qual:Str}{scope:Scope}{f:Az}{cd:V9}{cl:List (Str×Az)}{A:U9}{outer:List Env}{s s1:S9}{H:Hp}{E:XK}{us:List V9}{vs cvs:List V}
def aFG{h:H9}(hok:HOk P w H h)(C:CapAt H fr cl cvs):∃ cm:Str->O9 V9,(∀ n c,cl.lookup n=some c->∃ v u,(∃ o,H c=some (fU c o v))/\bL v u/\cm n=some u/\h.IsCell c (some u)):=by
 have key:∀ n,∃ x:O9 V9,∀ c,cl.lookup n=some c->∃ v u,(∃ o,H c=some (fU c o v))/\bL v u/\x=some u/\h.IsCell c (some u):=fun n=>by
  cases e:cl.lookup n with
  | none=>exact ⟨none,fun c z=>nomatch z⟩
  | some c=>
   obtain ⟨o,v,q⟩:=C.get e
   obtain ⟨_,u,r,z⟩:=fU.get hok q
   exact ⟨some u,fun b a=>by cases a;exact ⟨v,u,⟨o,q⟩,r,rfl,z⟩⟩
 exact ⟨fun n=>(key n).choose,fun n c e=>(key n).choose_spec c e⟩
def r9{n:Str}{L:Nat}:(dG qual scope L f cd cl).cells.lookup n=((cellsFrom (L+1) scope.names []).lookup n).or (cl.lookup n):=by
 rw[show (dG qual scope L f cd cl).cells=cellsFrom (L+1) scope.names []++cl from lU _ _ _,rZ]
def uX{n:Str}{c:Az}{L:Nat}(S:CloScope N ps fr scope)(C:CapAt H fr cl cvs)(e:cl.lookup n=some c):(dG qual scope L f cd cl).cells.lookup n=some c:=by
 rw[r9,aIX fun v a=>S.off (n,.cell) (pY _ _ a) rfl (C.only n c e)]
 simpa using e
def xS{cm:Str->O9 V9}(S:CloScope N ps fr scope)(C:CapAt H fr cl cvs)(Q:A.handled=none)(e0:Env0 P w K mg base A outer s H)(M:vs.length=ps.length)(r:bY vs us)
  (aa:∀ n c,cl.lookup n=some c->∃ v u,(∃ o,H c=some (fU c o v))/\bL v u/\cm n=some u/\s.heap.IsCell c (some u))
  (x:InK (dG qual scope s.heap.objs.size f cd cl) s (bindL (dG qual scope s.heap.objs.size f cd cl).kindOf (ps.zip us) fun _=>none) (bindC (dG qual scope s.heap.objs.size f cd cl).kindOf (ps.zip us) fun n=>if (cl.lookup n).isSome then cm n else none) s1) :
  Inv (kR CX P w K mg base N fr qual scope f cd cl A outer s H E) [] (start N (vs++cvs)) (hid (bK fr cl) H) s1:=by
 have R:(ps++fr).length<=N.length:=by have:=CL List.length S.pre;rw[BO] at this;omega
 have V:(vs++cvs).length=(ps++fr).length:=by rw[A5,A5,M,C.len]
 obtain ⟨h1,tk,rfl,J⟩:=x.ic.done
 have l:∀ b:Az,b∉(kR CX P w K mg base N fr qual scope f cd cl A outer s H E).ex:=fun b z=>absurd (show b∈([]:List Az) from z) (by simp)
 have D:∀ y c,cl.lookup y=none->(dG qual scope s.heap.objs.size f cd cl).cells.lookup y=some c->s.heap.objs.size < c:=fun y c n e=>by
  rw[r9,n] at e
  have m:(cellsFrom (s.heap.objs.size+1) scope.names []).lookup y=some c:=by simpa using e
  have ok:=cellsFrom_ok scope.names (s.heap.push {cls:=.type "frame",data:=.dict #[]}) (s.heap.objs.size+1) [] ⟨fun _ _ Y=>(nomatch Y),List.Pairwise.nil⟩ (by rw[B6];exact AU _)
  rw[B6] at ok
  exact (ok.empty y c (BN m)).2
 refine ⟨⟨e0.mod,S.kind,rfl,rfl,AU _,fun y z c h1 h2=>x.inj y z c h1 h2,fun y g=>?_,fun y c I h=>?_,fun _=>Q,Around.frames_deeper e0.frames,.inr ⟨rfl,rfl⟩,fun b z=>absurd z (l b),fun b o e=>⟨(e0.bs b o e).1,kD (e0.bs b o e).2⟩,e0.bsz,fun b _ _=>l b,fun b z=>absurd z (l b),e0.funs,fun b W=>kD (e0.frf b W)⟩,
  rfl,e0.bare,Un.kept J,⟨_,x.ic.ns,fun i y v h1 h2 h3=>?_⟩,fun y c h=>⟨_,x.cell y c h⟩,kD (e0.hok.fresh (AU _)),fun y c h=>?_,fun p d=>absurd (show p∈([]:List (Az×Obj)) from d) (by simp),(e0.hok.hid C.celd).kept J,?_⟩
 .have g:scope.names.lookup y=some .cell\/scope.names.lookup y=some .free:=g
  rcases g with g|g
  .obtain ⟨c,e⟩:=pC (n:=s.heap.objs.size+1) g
   exact ⟨c,by show (dG qual scope s.heap.objs.size f cd cl).cells.lookup y=_;rw[r9,e];rfl⟩
  .obtain ⟨i,hi,Z⟩:=EK.mp (S.only _ (BN g) rfl)
   obtain ⟨c,_,e,_⟩:=C.at' i y (cvs[i]'(by rw[C.len];exact hi)) (by rw[AD hi,Z]) (AD _)
   exact ⟨c,uX S C e⟩
 .have I:(cl.lookup y).isNone=true:=I
  exact DA (D y c (Option.isNone_iff_eq_none.mp I) h)
 .have hi:i < (vs++cvs).length:=by
   unfold start at h2
   by_cases hi:i < (vs++cvs).length
   .exact hi
   .rw[CF (by simpa using hi)] at h2
    rw[EU] at h2
    split at h2<;>cases h2
  have t:(vs++cvs)[i]? = some v:=by
   unfold start at h2
   rw[B1 (by simpa using hi),AC] at h2
   cases e:(vs++cvs)[i]? with
   | none=>rw[e] at h2;cases h2
   | some a=>rw[e] at h2;cases h2;rfl
  have d:(ps++fr)[i]? = some y:=by
   rw[<-S.pre,EQ (by omega)];exact h1
  have G:(ps++fr).Nodup:=by rw[<-S.pre];exact S.nd.sublist (List.take_sublist _ _)
  have B:ps.Nodup:=(CW.mp G).1
  by_cases F:i < ps.length
  .rw[B1 (by omega)] at t
   rw[B1 F] at d
   obtain ⟨u,O,T⟩:=r.get t
   refine ⟨u,T,?_⟩
   rcases S.par y (AM d) with k|k
   .exact .inl ⟨k,tO B d O k⟩
   .obtain ⟨c,e⟩:=pC (n:=s.heap.objs.size+1) k
    have m:(dG qual scope s.heap.objs.size f cd cl).cells.lookup y=some c:=by rw[r9,e];rfl
    refine .inr ⟨.inl k,c,m,?_⟩
    have q:=x.cell y c m
    rw[tP B d O (by show scope.names.lookup y≠_;rw[k];decide)] at q
    exact q
  .rw[CF (by omega)] at t
   rw[CF (by omega)] at d
   rw[M] at t
   obtain ⟨c,o,e,q⟩:=C.at' _ y v d t
   obtain ⟨_,U,r2,X⟩:=fU.get e0.hok q
   have m:=uX (qual:=qual) (f:=f) (cd:=cd) (L:=s.heap.objs.size) S C e
   have j:scope.names.lookup y=some .free:=S.cap y (AM d)
   refine ⟨U,r2,.inr ⟨.inr j,c,m,?_⟩⟩
   exact X.keeps J
 .cases e:cl.lookup y with
  | none=>exact kD (e0.hok.fresh (DA (D y c e h)))
  | some c'=>
   have h':=uX (qual:=qual) (f:=f) (cd:=cd) (L:=s.heap.objs.size) S C e
   have h:(dG qual scope s.heap.objs.size f cd cl).cells.lookup y=some c:=h
   rw[h] at h';cases h'
   exact qW (DK.mpr ⟨y,C.only y c e,e⟩)
 .unfold start
  show _=N.length
  rw[A5,AB,EI]
  omega
def wO{a5:List (Az×Obj)}{σ:St}{H':Hp}{s':S9}(S:CloScope N ps fr scope)(C:CapAt H fr cl cvs)(e0:Env0 P w K mg base A outer s H)(J:Inv (kR CX P w K mg base N fr qual scope f cd cl A outer s H E) a5 σ H' s') :
  (∀ c∈bK fr cl,H' c=none)/\Un (frs outer) [] H (shw (bK fr cl) H H') s.heap s'.heap/\HOk P w (shw (bK fr cl) H H') s'.heap:=by
 have un:Un (frs outer) [] (hid (bK fr cl) H) H' s.heap s'.heap:=J.base
 have d:∀ c∈bK fr cl,H' c=none:=fun c k=>by
  obtain ⟨x,_,e⟩:=DK.mp k
  exact J.freeC x c (uX S C e)
 have out:∀ b,H b=none->b∉bK fr cl:=fun b n z=>by
  obtain ⟨o,v,q⟩:=C.celd b z
  rw[n] at q;cases q
 refine ⟨d,⟨fun b o e n h1 h2=>un.keep b o e (kD n) h1 h2,fun b o e n h1 h2=>un.slot b o e (kD n) h1 h2,fun b o e n h2=>by rw[fS (out b n)];exact un.free b o e (kD n) h2,un.there,
  fun b xs q=>?_,fun b o u q=>?_,fun b ps q=>?_⟩,fun b u e=>?_⟩
 .have a:=C.celd.out q fun _ v z=>nomatch z
  rw[fS a];exact un.tups b xs (by rw[cH a];exact q)
 .by_cases a:b∈bK fr cl
  .rw[tT a];exact q
  .rw[fS a];exact un.frzs b o u (by rw[cH a];exact q)
 .have a:=C.celd.out q fun _ v z=>nomatch z
  rw[fS a];exact un.tbls b ps (by rw[cH a];exact q)
 .by_cases a:b∈bK fr cl
  .rw[tT a] at e
   obtain ⟨o,v,q⟩:=C.celd b a
   rw[q] at e;cases e
   obtain ⟨i,u,r,l,g,j⟩:=fU.get e0.hok q
   rw[i] at g;cases g
   exact fU.ok r (un.keep b o i (qW a) (fun z=>by have:=e0.frf b z;rw[q] at this;cases this) (by simp)) j
  .rw[fS a] at e
   have h:∀ c o,H' c=some o->c∉bK fr cl:=fun c o q z=>by rw[d c z] at q;cases q
   exact (J.hok b u e).stay (fun _ _ _ q=>q) (fun c q=>by rw[fS (h c _ q)];exact q) (fun c _ q=>by rw[fS (h c _ q)];exact q) fun c _ q=>by rw[fS (h c _ q)];exact q
end
section
variable{P:P9}{w:W9}{K:Frag}{mg:Str->O9 V9}{base:H9}{N ps fr:List Str}{qual:Str}{scope:Scope}{f:Az}{cd:V9}{cl:List (Str×Az)}{A:U9}{outer:List Env}{s:S9}{H:Hp}{E:XK}{cvs:List V}
def xT{j:V9}{s':S9}(S:CloScope N ps fr scope)(C:CapAt H fr cl cvs)(e0:Env0 P w K mg base A outer s H)
  (h:Fly (kR (CXe P w) P w K mg base N fr qual scope f cd cl A outer s H E) (fun c e H'=>(∀ a∈bK fr cl,H' a=none)->E c e (shw (bK fr cl) H H')) j s'):(kR (CXe P w) P w K mg base N fr qual scope f cd cl A outer s H E).xe j s':=by
 obtain ⟨e,p,od,σ,H',rfl,I,k,q⟩:=h
 show wpAny (model P w) _ (leaving _ (.ref e)) _ _ s'
 unfold leaving
 have n:aBX (kR (CXe P w) P w K mg base N fr qual scope f cd cl A outer s H E):=⟨rfl,rfl⟩
 refine AA (wN n I k fun x l r=>zD l r fun u i g=>?_)
 obtain ⟨vs,T,a,b,c,_⟩:=g.tb
 obtain ⟨d,un,hok⟩:=wO S C e0 i
 have m:∀ c o,H' c=some o->c∉bK fr cl:=fun c o q z=>by rw[d c z] at q;cases q
 refine ⟨e,p,od,_,rfl,i.os,i.bare,un,hok,by rw[fS (m _ _ g.tr)];exact g.tr,⟨vs,T,a,b,fun t e1=>⟨?_,(c t e1).2.1⟩⟩,q d⟩
 rw[fS]
 .exact (c t e1).1
 .intro z
  obtain ⟨o,v,q⟩:=C.celd t z
  exact absurd (A8 (e0.hok.lt q) (c t e1).2.1) (BW _)
end
structure ClSt where
 name:Str
 qual:Str
 params:Arguments
 body:FuncBody
 scope:Scope
def ClSt.fd(S:ClSt)(cl:List (Str×Az))(doc pm:V9)(c:Az)(ct:V9):FuncData:=
 {name:=S.name,qualname:=S.qual,params:=S.params,body:=S.body,scope:=S.scope,globals:=mainGlobals,closure:=cl,defaults:=.none,kwdefaults:=.none,doc:=doc,pyModule:=pm,annotations:=none,code:=.ref c,closureTuple:=ct,builtins:=builtinsNs}
abbrev ClSt.obj(S:ClSt)(cl:List (Str×Az))(doc pm:V9)(c:Az)(ct:V9):Obj:={cls:=.type "function",data:=.func (S.fd cl doc pm c ct)}
section
variable{P:P9}{w:W9}{K:Frag}{mg:Str->O9 V9}{base:H9}{N ps fr:List Str}{S:ClSt}{f c:Az}{cl:List (Str×Az)}{A:U9}{outer:List Env}{s:S9}{H:Hp}{E:XK}{Q:VK}{cvs vs:List V}{us:List V9}{args:Args}{doc pm ct:V9}{k:Nat}
def aCJ(Sc:CloScope N ps fr S.scope):∀ y∈ps.zip us,S.scope.names.lookup y.1=some .local\/S.scope.names.lookup y.1=some .cell:=fun ⟨n,v⟩ a=>Sc.par n (E6 a).1
def aIY{h:H9}(hok:HOk P w H h)(Sc:CloScope N ps fr S.scope)(C:CapAt H fr cl cvs){cm:Str->O9 V9}(a:∀ n c,cl.lookup n=some c->∃ v u,(∃ o,H c=some (fU c o v))/\bL v u/\cm n=some u/\h.IsCell c (some u)):ClAt h S.scope cl cm where
 cell:=fun n c e=>by
  obtain ⟨v,u,_,_,e1,z⟩:=a n c e
  rw[e1];exact z
 inj:=C.inj
 off:=fun y b d=>by
  cases e:cl.lookup y.1 with
  | none=>rfl
  | some c=>exact absurd (C.only _ _ e) (Sc.off y b d)
def aIZ{body:List Stmt}(T:S.body=.stmts body)(O:H f=some (FnO f (S.obj cl doc pm c ct)))(L:H c=some (.cod S.qual))(Sc:CloScope N ps fr S.scope)(C:CapAt H fr cl cvs)(B:Room (k+1) A)
  (e0:Env0 P w K mg base A outer s H) (y:BindsTo s (S.fd cl doc pm c ct) args (ps.zip us)) (r:bY vs us) (G:vs.length=ps.length)
  (g:Room k (A.deeper (dG S.qual S.scope s.heap.objs.size f (.ref c) cl))->∃ t,PSs ((kR (CXe P w) P w K mg base N fr S.qual S.scope f (.ref c) cl A outer s H E).fly fun c e H'=>(∀ a∈bK fr cl,H' a=none)->E c e (shw (bK fr cl) H H')) body t /\
   t {nx:=fun _ H'=>(∀ a∈bK fr cl,H' a=none)->Q .non (shw (bK fr cl) H H'),rt:=fun v H'=>(∀ a∈bK fr cl,H' a=none)->Q v (shw (bK fr cl) H H')} (start N (vs++cvs)) (hid (bK fr cl) H)) :
  codeAny (model P w) A (.call (.ref f) args) (CR (CXe P w) outer P w H s Q E) s:=by
 have l:s.heap.NoLimit:=e0.mod.nolimit.keeps fun b o e=>(e0.bs b o e).1
 obtain ⟨cm,j⟩:=aFG e0.hok C
 have m:s.heap.CodeRec (.ref c) S.qual:=e0.hok c _ L
 refine codeAny_call_function B.depth (FnO.get e0.hok O) rfl Sc.co Sc.gen T m (y _ _ _ _ ?_)
 refine aFF (cm:=cm) Sc.kind (aIY e0.hok Sc C j) (aCJ Sc) fun s1 x=>?_
 refine ⟨l.keeps x.ic.keep,codeAny_func ?_⟩
 obtain ⟨t,M,R⟩:=g (B.deeper _)
 have I:Inv (kR (CXe P w) P w K mg base N fr S.qual S.scope f (.ref c) cl A outer s H E) [] (start N (vs++cvs)) (hid (bK fr cl) H) s1:=xS Sc C B.hd e0 G r j x
 have n:=M.unfly fun _ _ z=>xT Sc C e0 z
 refine B0 (n [] s1 _ _ _ I R) (fun D s' h=>?_) fun e s' h=>h
 have i:∀ {d:St} {H':Hp} {v:V} {u:V9},Inv (kR (CXe P w) P w K mg base N fr S.qual S.scope f (.ref c) cl A outer s H E) [] d H' s'->bL v u->((∀ a∈bK fr cl,H' a=none)->Q v (shw (bK fr cl) H H'))->CE outer P w H s Q u s':=
  fun {d H' v u} J p q=>by
   obtain ⟨F,un,hok⟩:=wO Sc C e0 J
   exact ⟨v,_,J.os,J.bare,un,hok,p,q F⟩
 cases D with
 | ret u=>
  obtain ⟨v,d,H',J,p,q⟩:=h
  exact i J p q
 | next=>
  obtain ⟨d,H',J,q⟩:=h
  exact i (v:=V.non) (u:=Value.none) J rfl q
 | brk=>
  obtain ⟨_,_,_,q⟩:=h
  exact False.elim q
 | cont=>
  obtain ⟨_,_,_,q⟩:=h
  exact False.elim q
def aLI{body:E3}(G:S.body=.expr body)(D:H f=some (FnO f (S.obj cl doc pm c ct)))(y:H c=some (.cod S.qual))(Sc:CloScope N ps fr S.scope)(C:CapAt H fr cl cvs)(m:Room (k+1) A)
  (e0:Env0 P w K mg base A outer s H) (j:BindsTo s (S.fd cl doc pm c ct) args (ps.zip us)) (r:bY vs us) (p:vs.length=ps.length)
  (d:Room k (A.deeper (dG S.qual S.scope s.heap.objs.size f (.ref c) cl))->∃ t,PE ((kR (CXe P w) P w K mg base N fr S.qual S.scope f (.ref c) cl A outer s H E).fly fun c e H'=>(∀ a∈bK fr cl,H' a=none)->E c e (shw (bK fr cl) H H')) body t /\
   t (start N (vs++cvs)) (hid (bK fr cl) H) fun v H'=>(∀ a∈bK fr cl,H' a=none)->Q v (shw (bK fr cl) H H')) :
  codeAny (model P w) A (.call (.ref f) args) (CR (CXe P w) outer P w H s Q E) s:=by
 have h:s.heap.NoLimit:=e0.mod.nolimit.keeps fun b o e=>(e0.bs b o e).1
 obtain ⟨cm,g⟩:=aFG e0.hok C
 have i:s.heap.CodeRec (.ref c) S.qual:=e0.hok c _ y
 refine PySem.W.kla_callFunE m.depth (FnO.get e0.hok D) rfl Sc.co Sc.gen G i (j _ _ _ _ ?_)
 refine aFF (cm:=cm) Sc.kind (aIY e0.hok Sc C g) (aCJ Sc) fun s1 x=>?_
 refine ⟨h.keeps x.ic.keep,PySem.W.kla_codeExpr ?_⟩
 obtain ⟨t,B,F⟩:=d (m.deeper _)
 have I:Inv (kR (CXe P w) P w K mg base N fr S.qual S.scope f (.ref c) cl A outer s H E) [] (start N (vs++cvs)) (hid (bK fr cl) H) s1:=xS Sc C m.hd e0 p r g x
 refine B0 (B [] s1 _ _ _ (I.wish _) F) (fun u s' l=>?_) fun e s' l=>xT Sc C e0 l
 obtain ⟨v,H',J,z,q⟩:=l
 obtain ⟨n,un,hok⟩:=wO Sc C e0 J.unwish
 exact ⟨v,_,J.os,J.bare,un,hok,z,q n⟩
end
def aG6{env:Env}:∀ (names:List (Str×NameKind)) (a7:List (Str×Az)),(∀ x∈names,x.2=.free->∃ c,env.cells.lookup x.1=some c)->
  (∀ x c,a7.lookup x=some c->env.cells.lookup x=some c)->
  ∃ cl,(forIn names a7 fun x r=>(if (x.2 == NameKind.free)=true then (do let a <-cellOf env x.1;pure (ForInStep.yield ((x.1,a)::r))) else pure (ForInStep.yield r)):Sem (List (Str×Az)))=pure cl /\
   (∀ x c,cl.lookup x=some c->env.cells.lookup x=some c)/\(∀ x∈names,x.2=.free->∃ c,cl.lookup x.1=some c)/\(∀ x c,a7.lookup x=some c->∃ c',cl.lookup x=some c') /\
   (∀ x c,cl.lookup x=some c->(∃ c',a7.lookup x=some c')\/(x,NameKind.free)∈names):=by
 intro names
 induction names with
 | nil=>intro a7 _ h;exact ⟨a7,rfl,h,fun x p=>absurd p (by simp),fun x c e=>⟨c,e⟩,fun x c e=>.inl ⟨c,e⟩⟩
 | cons x r ih=>
  intro a7 l h
  obtain ⟨n,k⟩:=x
  by_cases o:k=.free
  .subst o
   obtain ⟨c,i⟩:=l (n,.free) AS rfl
   have i:env.cells.lookup n=some c:=i
   obtain ⟨cl,e1,e2,m,g,j⟩:=ih ((n,c)::a7) (fun y f=>l y (AJ _ f)) (fun y d e=>by
    rw[BQ] at e
    cases q:y == n with
    | true=>rw[q] at e;cases e;have:=E1 q;subst this;exact i
    | false=>rw[q] at e;exact h y d e)
   refine ⟨cl,?_,e2,fun y f b=>?_,fun y d e=>?_,fun y d e=>?_⟩
   .rw[C3]
    simp only[DZ,CD]
    unfold cellOf
    simp only[i,pure_bind]
    exact e1
   .rcases AT.mp f with z|z
    .subst z
     exact g n c (by rw[BQ];simp)
    .exact m y z b
   .by_cases q:y=n
    .subst q;exact g y c (by rw[BQ];simp)
    .exact g y d (by rw[BQ,DC q];exact e)
   .rcases j y d e with ⟨c',z⟩|z
    .by_cases q:y=n
     .subst q;exact .inr AS
     .rw[BQ,DC q] at z
      exact .inl ⟨c',z⟩
    .exact .inr (AJ _ z)
  .obtain ⟨cl,e1,e2,m,g,j⟩:=ih a7 (fun y f=>l y (AJ _ f)) h
   refine ⟨cl,?_,e2,fun y f b=>?_,g,fun y d e=>(j y d e).imp id fun z=>AJ _ z⟩
   .rw[C3]
    have:(k == NameKind.free)=false:=by simpa using o
    simp only[this,CH,DU,pure_bind]
    exact e1
   .rcases AT.mp f with z|z
    .subst z;exact absurd b o
    .exact m y z b
structure ClOf(cells:List (Str×Az))(sc:Scope)(cl:List (Str×Az)):Prop where
 of:∀ x c,cl.lookup x=some c->cells.lookup x=some c
 all:∀ x∈sc.names,x.2=.free->∃ c,cl.lookup x.1=some c
 only:∀ x c,cl.lookup x=some c->(x,NameKind.free)∈sc.names
def aCK{env:Env}{scope:Scope}(d:∀ x∈scope.names,x.2=.free->∃ c,env.cells.lookup x.1=some c) :
  ∃ cl,closureFor scope env=pure cl/\ClOf env.cells scope cl:=by
 obtain ⟨cl,e1,e2,a,_,b⟩:=aG6 scope.names [] d (fun x c e=>by simp at e)
 refine ⟨cl,?_,e2,a,fun x c e=>?_⟩
 .unfold closureFor
  first
   | exact e1
   | (rw[<-e1];rfl)
   | (simp only[bind_pure];exact e1)
 .rcases b x c e with ⟨f,z⟩|z
  .simp at z
  .exact z
def aI0{pos:Pos}{r:List V9}(l:List V9)(h:TriplesOk l):codeAmong pos (l++r)=(codeAmong pos l).or (codeAmong pos r):=by
 fun_induction TriplesOk l with
 | case1=>simp[codeAmong]
 | case2 a t b u x rest ih=>
  simp only[BZ,codeAmong]
  split
  · rfl
  · exact ih h
 | case3 l h1 h2=>exact h.elim
structure Tb(mg:Str->Option V9)(base:Heap)(c0 P0:Az):Prop where
 hd:PySem.W.CodeHd base c0 P0
 bt:∃ bm ob,mg "__builtins__"=some (.ref bm)/\bm≠builtinsNs/\base.get? bm=some ob/\ob.cls=.type "module"/\ob.dict=some builtinsNs/\ob.data=.plain
section
variable{X:Cx}{a5:List (Az×Obj)}{σ:St}{H:Hp}{s:S9}{c0 P0:Az}{qs:List (Pos×Str)}{pos:Pos}{q:Str}
def aI1{ps:Array V9}{c:Az}{h h':H9}(D:HOk X.prog X.w H h)(j:H P0=some (.tbl qs))(C:h.get? P0=some (PySem.W.tabObj ps))(o:TriplesOk ps.toList)(g:∀ p∈qs,codeAmong p.1 ps.toList=none\/∃ c,codeAmong p.1 ps.toList=some (.ref c)/\H c=some (.cod p.2))
  (B:∀ p∈qs,p.1.line=pos.line->p.1.col=pos.col->p.2=q) (A:codeAmong pos ps.toList=none) (a:H c=none) (hx:Heap.ExtBut P0 h h') (k:h'.CodeRec (.ref c) q) (l:h'.get? P0=some (PySem.W.tabObj (ps ++ #[rawInt pos.line,rawInt pos.col,.ref c]))) :
  HOk X.prog X.w (upd H c (.cod q)) h':=fun b u e=>by
 have y:P0≠c:=fun z=>by rw[<-z,j] at a;cases a
 by_cases t:b=c
 .subst t;rw[bN] at e;cases e;exact k
 .rw[aU t] at e
  by_cases f:b=P0
  .subst f
   rw[j] at e;cases e
   refine ⟨_,l,?_,fun p s=>?_⟩
   .rw[FK];exact TriplesOk_snoc _ _ _ _ o
   .rw[FK,aI0 _ o]
    rcases g p s with z|⟨d,z,m⟩
    .rw[z]
     show (codeAmong p.1 [rawInt pos.line,rawInt pos.col,.ref c])=none\/_
     by_cases i:p.1.line=pos.line/\p.1.col=pos.col
     .refine .inr ⟨c,?_,?_⟩
      .show codeAmong p.1 [rawInt pos.line,rawInt pos.col,.ref c]=_
       rw[<-i.1,<-i.2]
       exact codeAmong_snoc [] trivial rfl
      .rw[B p s i.1 i.2];exact bN
     .refine .inl ?_
      simp only[codeAmong,rawInt]
      rw[AK]
      simp only[A3,G4]
      intro n
      exact i ⟨by omega,by omega⟩
    .refine .inr ⟨d,by rw[z];rfl,?_⟩
     rw[aU (bT m a)];exact m
  .refine (D b u e).stay (fun d v x r=>hx d v ?_ r) (fun d r=>by rw[aU (bT r a)];exact r) (fun d _ r=>by rw[aU (bT r a)];exact r) fun d _ r=>by rw[aU (bT r a)];exact r
   rcases x with z|z
   .rw[z];exact f
   .intro n;rw[n,j] at z;cases z
def Mkd(H:Hp)(q:Str)(c:Az)(H1:Hp):Prop:=(H c=some (.cod q)/\H1=H)\/(H c=none/\H1=upd H c (.cod q))
def aFH {S : ClSt} {M : Model} {A : U9} {E : V9 -> S9 -> Prop} {Q : V9 -> S9 -> Prop} {i : Nat} (I : Inv X a5 σ H s) (d : X.env.code = .ref c0) (T : Tb X.mg X.base c0 P0) (hP : H P0 = some (.tbl qs)) (hq : (pos, S.qual) ∈ qs)
    (hu : ∀ p ∈ qs, p.1.line = pos.line -> p.1.col = pos.col -> p.2 = S.qual) (v : ∀ x ∈ S.scope.names, x.2 = .free -> ∃ c, X.env.cells.lookup x.1 = some c)
    (h : ∀ f c cl doc pm ct H1 s', Mkd H S.qual c H1 -> H1 f = none -> ClOf X.env.cells S.scope cl -> Inv X a5 σ (upd H1 f (FnO f (S.obj cl doc pm c ct))) s' -> Q (.ref f) s') :
    wpAny M A (makeFunction S.name S.qual S.params S.body S.scope X.env [] [] [] pos i) Q E s := by
  obtain ⟨cl, q, G⟩ := aCK v
  obtain ⟨ps, g, J, t⟩ := (show cX X.prog X.w H s.heap P0 (.tbl qs) from I.hok P0 _ hP)
  have C : PySem.W.CodeHd s.heap c0 P0 := T.hd.keeps I.bk
  have D : s.heap.Ns mainGlobals X.mg := I.mod.glob.keeps I.bk
  have O : mainGlobals ≠ P0 := fun z => by
    obtain ⟨o, es, ep, e, hd, _⟩ := D
    rw [z, g] at e; cases e; cases hd
  obtain ⟨bm, ob, b1, b2, b3, b4, b5, Y⟩ := T.bt
  have l := I.bk _ _ b3
  have Z : bm ≠ P0 := fun z => by rw [z, g] at l; cases l; cases b4
  have aa : bm ≠ mainGlobals := fun z => by
    obtain ⟨o, es, ep, e, hd, _⟩ := D
    rw [z, e] at l; cases l; rw [hd] at Y; cases Y
  have U : s.heap.BuiltinsAt X.mg P0 := ⟨bm, ob, b1, b2, aa, Z, l, b4, b5, Y⟩
  rcases t _ hq with B | ⟨c, hf, hc⟩
  · have m : ∀ (j : Az) (a doc : V9) (h' : H9) (tk : Tok), Heap.ExtBut P0 s.heap h' -> s.heap.objs.size <= j -> j < h'.objs.size -> h'.CodeRec (.ref j) S.qual -> h'.get? P0 = some (PySem.W.tabObj (ps ++ #[rawInt pos.line, rawInt pos.col, .ref j])) ->
        Q (.ref h'.objs.size) { s with heap := h'.push (S.obj cl doc ((X.mg "__name__").getD .none) j a), toks := tk } := by
      intro j a doc h' tk R y K N L
      have V : H j = none := I.hok.fresh y
      have r : HOk X.prog X.w (upd H j (.cod S.qual)) h' := aI1 I.hok hP g J t hu B V R N L
      have k : (upd H j (.cod S.qual)) h'.objs.size = none := r.fresh (AU _)
      refine h h'.objs.size j cl doc ((X.mg "__name__").getD .none) a _ _ (.inr ⟨V, rfl⟩) k G ?_
      have F : ∀ b o, H b = some o -> b ≠ j /\ b ≠ h'.objs.size := fun b o e => ⟨bT e V, fun z => by
        rw [z] at e
        rw [aU (DB K), e] at k; cases k⟩
      have nP : ∀ b, H b = none -> b ≠ P0 := fun b n z => by rw [z, hP] at n; cases n
      refine I.un ⟨fun b o e n _ _ => AE _ (R b o (nP b n) e), fun b o e n _ _ => ⟨o.slots, AE _ (R b o (nP b n) e)⟩, fun b o e n _ => ?_, fun b o e _ => ?_, fun b xs e => ?_, fun b o u e => ?_, fun b qs e => ?_⟩ ?_
      · have hb := AV e
        rw [aU (BP (A8 hb (BR y (DA K)))), aU (BP (A8 hb y))]; exact n
      · by_cases z : b = P0
        · subst z; exact ⟨_, AE _ L⟩
        · exact ⟨o, AE _ (R b o z e)⟩
      · rw [aU (F b _ e).2, aU (F b _ e).1]; exact e
      · rw [aU (F b _ e).2, aU (F b _ e).1]; exact e
      · rw [aU (F b _ e).2, aU (F b _ e).1]; exact e
      · exact r.laid (fun b u e => AE _ e) (AU _) (FnO.ok (A4 _ rfl))
    obtain ⟨name, qual, params, body, scope⟩ := S
    cases body with
    | stmts body => exact PySem.W.makeFunction_K q I.ok.glob D d C g J B O U m
    | expr body => exact PySem.W.kla_makeFunction q I.ok.glob D d C g J B O U fun j a h' tk => m j a .none h' tk
  · have m : ∀ (a doc : V9) (h' : H9) (tk : Tok), (∀ b o, s.heap.get? b = some o -> h'.get? b = some o) -> s.heap.objs.size <= h'.objs.size ->
        Q (.ref h'.objs.size) { s with heap := h'.push (S.obj cl doc ((X.mg "__name__").getD .none) c a), toks := tk } := by
      intro a doc h' tk hk P
      refine h h'.objs.size c cl doc ((X.mg "__name__").getD .none) a H _ (.inl ⟨hc, rfl⟩) (I.hok.fresh P) G ?_
      exact I.laid (fun b u e => AE _ (hk b u e)) P (FnO.ok (A4 _ rfl))
    obtain ⟨name, qual, params, body, scope⟩ := S
    cases body with
    | stmts body => exact PySem.W.makeFunction_hit q I.ok.glob D d C g J hf U m
    | expr body => exact PySem.W.kla_makeFunctionHit q I.ok.glob D d C g J hf U fun a h' tk => m a .none h' tk
def tMk(cells:List (Str×Az))(S:ClSt)(P0:Az)(qs:List (Pos×Str)):TE:=fun σ H Q=>H P0=some (.tbl qs)/\∀ f c cl doc pm ct H1,Mkd H S.qual c H1->H1 f=none->ClOf cells S.scope cl->Q (.ref f) (upd H1 f (FnO f (S.obj cl doc pm c ct)))
def aI2{i:Nat}{x:Str}{params:Arguments}{body:List Stmt}{scope:Scope}(b:X.env.code=.ref c0)(T:Tb X.mg X.base c0 P0)(d:qualnameIn X.env x x=q)(B:(pos,q)∈qs)
  (t:∀ p∈qs,p.1.line=pos.line->p.1.col=pos.col->p.2=q) (a:∀ y∈scope.names,y.2=.free->X.env.kindOf y.1=some .cell\/X.env.kindOf y.1=some .free)
  (e:params.defaults=[]) (j:params.kw_defaults=[]) (n:annTrees params none X.env=[])
  (z:X.N.Nodup) (hi:X.N[i]? = some x) (hx:Loc X.env.scope x) (A:X.fn x=true\/X.env.scope.names.lookup x=some .local:=by exact .inl rfl) :
  PS X (.FunctionDef x params body [] none [] scope none x pos) (nZ (tMk X.env.cells ⟨x,q,params,.stmts body,scope⟩ P0 qs) (l9 i)):=by
 intro a5 s σ H D I h
 obtain ⟨l,h⟩:=h
 refine PySem.W.nestDef_K e j n ?_
 rw[d]
 refine aFH (S:=⟨x,q,params,.stmts body,scope⟩) I b T l B t (fun y o g=>I.ok.has _ (a y o g)) fun f c cl doc pm ct H1 s' r m u C=>?_
 exact wK C z hi hx (v:=.ref f) rfl (fun w k=>⟨_,_,k,h f c cl doc pm ct H1 r m u⟩) A
def aRY{params:Arguments}{body:E3}{scope:Scope}(b:X.env.code=.ref c0)(T:Tb X.mg X.base c0 P0)(e:X.env.qual++("<lambda>":Str)=q)(o:(pos,q)∈qs)
  (m:∀ p∈qs,p.1.line=pos.line->p.1.col=pos.col->p.2=q) (a:∀ y∈scope.names,y.2=.free->X.env.kindOf y.1=some .cell\/X.env.kindOf y.1=some .free)
  (d:defaultsOf params X.env=([],[])) :
  PE X (.Lambda params body scope pos) (tMk X.env.cells ⟨"<lambda>",q,params,.expr body,scope⟩ P0 qs):=by
 intro a5 s σ H Q I h
 obtain ⟨i,h⟩:=h
 refine PySem.W.kla_eval d ?_
 rw[e]
 exact aFH (S:=⟨"<lambda>",q,params,.expr body,scope⟩) I b T i o m (fun y k g=>I.ok.has _ (a y k g)) fun f c cl doc pm ct H1 s' l j n r=>⟨.ref f,_,r,rfl,h f c cl doc pm ct H1 l j n⟩
end
abbrev Cv:=List (Az×Obj×V)
def pub(cv:Cv)(H:Hp):Hp:=fun b=>match cv.lookup b with
 | some p=>some (fU b p.1 p.2)
 | none=>H b
def eI(cv:Cv):List Az:=cv.map (·.1)
def j2{c:Cv}{b:Az}:b∈eI c↔∃ p,c.lookup b=some p:=by
 unfold eI
 induction c with
 | nil=>simp
 | cons a r ih=>
  obtain ⟨x,p⟩:=a
  rw[AY,AT,ih,BQ]
  by_cases h:b=x
  .subst h;simp
  .rw[DC h]
   simp[h]
def tU{a:Cv}{H:Hp}{b:Az}{p:Obj×V}(h:a.lookup b=some p):pub a H b=some (fU b p.1 p.2):=by unfold pub;rw[h]
def fV{a:Cv}{H:Hp}{b:Az}(h:b∉eI a):pub a H b=H b:=by
 unfold pub
 cases e:a.lookup b with
 | none=>rfl
 | some p=>exact absurd (j2.mpr ⟨p,e⟩) h
def mP{a:Cv}{H:Hp}(c:∀ b∈eI a,H b=none):aR H (pub a H):=fun b o e=>by
 rw[fV fun z=>by rw[c b z] at e;cases e];exact e
def aNF{P:P9}{w:W9}{fs:List Az}{d:Cv}{H H1:Hp}{h h':H9}(k:∀ b∈eI d,H b=none)(l:HOk P w (pub d H) h)(un:Un fs [] (pub d H) H1 h h')(hk1:HOk P w H1 h') :
  Un fs [] H (hid (eI d) H1) h h'/\HOk P w (hid (eI d) H1) h':=by
 have inn:∀ b,b∈eI d->∃ o v,h.get? b=some o/\h'.get? b=some o/\H1 b=some (fU b o v):=fun b a=>by
  obtain ⟨⟨o,v⟩,e⟩:=j2.mp a
  have z:=tU (H:=H) e
  have g:=un.frzs b o _ z
  exact ⟨o,v,(fU.get l z).1,(fU.get hk1 g).1,g⟩
 have out:∀ b u,H b=some u->b∉eI d:=fun b u e z=>by rw[k b z] at e;cases e
 refine ⟨⟨fun b o e n h1 h2=>?_,fun b o e n h1 h2=>?_,fun b o e n h2=>?_,un.there,fun b xs q=>?_,fun b o u q=>?_,fun b ps q=>?_⟩,fun b u e=>?_⟩
 .by_cases a:b∈eI d
  .obtain ⟨o',v,f,j,_⟩:=inn b a
   rw[e] at f;cases f;exact j
  .exact un.keep b o e (by rw[fV a];exact n) h1 h2
 .by_cases a:b∈eI d
  .obtain ⟨o',v,f,j,_⟩:=inn b a
   rw[e] at f;cases f;exact ⟨o.slots,j⟩
  .exact un.slot b o e (by rw[fV a];exact n) h1 h2
 .by_cases a:b∈eI d
  .exact qW a
  .rw[cH a];exact un.free b o e (by rw[fV a];exact n) h2
 .have a:=out b _ q
  rw[cH a];exact un.tups b xs (by rw[fV a];exact q)
 .have a:=out b _ q
  rw[cH a];exact un.frzs b o u (by rw[fV a];exact q)
 .have a:=out b _ q
  rw[cH a];exact un.tbls b ps (by rw[fV a];exact q)
 .obtain ⟨e1,a⟩:=r6 e
  have i:∀ c o,H1 c=some o->(∀ o' v,o≠fU c o' v)->c∉eI d:=fun c o q n z=>by
   obtain ⟨o',v,_,_,g⟩:=inn c z
   rw[q] at g;cases g;exact n o' v rfl
  exact (hk1 b u e1).stay (fun _ _ _ q=>q) (fun c q=>by rw[cH (i c _ q fun _ _ z=>nomatch z)];exact q) (fun c _ q=>by rw[cH (i c _ q fun _ _ z=>nomatch z)];exact q) fun c _ q=>by rw[cH (i c _ q fun _ _ z=>nomatch z)];exact q
structure PubRel(X:Cx)(σ:St)(H:Hp)(js:List Nat)(cv:Cv):Prop where
 at':∀ b o v,cv.lookup b=some (o,v)->∃ x j,j∈js/\X.N[j]? = some x/\X.env.cells.lookup x=some b/\σ[j]? = some (some v)
 all:∀ j∈js,∃ x c o v,X.N[j]? = some x/\X.env.cells.lookup x=some c/\σ[j]? = some (some v)/\cv.lookup c=some (o,v)
 free:∀ b∈eI cv,H b=none
 inj:∀ x y c,X.env.cells.lookup x=some c->X.env.cells.lookup y=some c->x=y
section
variable{X:Cx}{a5:List (Az×Obj)}{σ:St}{H:Hp}{s:S9}
def aCL(X:Cx)(σ:St)(j:Nat):Prop:=∃ x v,X.N[j]? = some x/\X.env.kindOf x=some .cell/\X.fn x=true/\σ[j]? = some (some v)
theorem aI3(I:Inv X a5 σ H s):∀ (js:List Nat),(∀ j∈js,aCL X σ j)->∃ cv,PubRel X σ H js cv/\∀ b o v,cv.lookup b=some (o,v)->(∃ u,s.heap.get? b=some o/\o.data=.cell (some u)/\bL v u)/\X.s₀.heap.objs.size<=b/\∃ x,X.env.cells.lookup x=some b
 | [],_=>⟨[],⟨fun b o v e=>by simp at e,fun j hj=>by simp at hj,fun b hb=>by simp[eI] at hb,I.ok.inj⟩,fun b o v e=>by simp at e⟩
 | j::js,hj=>by
  obtain ⟨cv,R,ok⟩:=aI3 I js fun E h'=>hj E (AJ _ h')
  obtain ⟨x,v,p,f,S,n⟩:=hj j AS
  obtain ⟨m,T,G⟩:=I.loc
  obtain ⟨u,r,l⟩:=G j x v p n (.inr (.inl f))
  rcases l with ⟨h,_⟩|⟨_,c,d,o,M,F⟩
  .rw[f] at h;cases h
  .have i:=I.ok.cab x c S d
   by_cases g:c∈eI cv
   .obtain ⟨⟨o',a⟩,e⟩:=j2.mp g
    obtain ⟨q,E,N,D,A,y⟩:=R.at' c o' a e
    have B:x=q:=I.ok.inj x q c d A
    subst B
    refine ⟨cv,⟨fun b o v e=>?_,fun k f=>?_,R.free,R.inj⟩,ok⟩
    .obtain ⟨x,j,h1,h2⟩:=R.at' b o v e
     exact ⟨x,j,AJ _ h1,h2⟩
    .rcases AT.mp f with z|z
     .subst z
      obtain ⟨U,r2,V⟩:=G E x a D y (.inr (.inl (by assumption)))
      obtain ⟨⟨O,K,L,P⟩,_⟩:=ok c o' a e
      rw[M] at K;cases K
      rw[F] at L
      have:u=O:=by cases L;rfl
      subst this
      have C:v=a:=bL.inj r P
      subst C
      exact ⟨x,c,_,v,p,d,n,e⟩
     .exact R.all k z
   .refine ⟨(c,o,v)::cv,⟨fun b o' a e=>?_,fun k f=>?_,fun b hb=>?_,R.inj⟩,fun b o' a e=>?_⟩
    .rw[BQ] at e
     by_cases hb:b=c
     .subst hb
      simp only[DZ] at e
      cases e
      exact ⟨x,j,AS,p,d,n⟩
     .rw[DC hb] at e
      obtain ⟨x,j,h1,h2⟩:=R.at' b o' a e
      exact ⟨x,j,AJ _ h1,h2⟩
    .rcases AT.mp f with z|z
     .subst z
      exact ⟨x,c,o,v,p,d,n,by rw[BQ];simp⟩
     .obtain ⟨q,J,o',a,h1,h2,Q,w⟩:=R.all k z
      refine ⟨q,J,o',a,h1,h2,Q,?_⟩
      rw[BQ,DC (show J≠c from fun z=>by rw[z] at w;exact g (j2.mpr ⟨_,w⟩))];exact w
    .have t:b=c\/b∈eI cv:=by simpa[eI] using hb
     rcases t with z|z
     .subst z;exact I.freeC x b d
     .exact R.free b z
    .rw[BQ] at e
     by_cases hb:b=c
     .subst hb
      simp only[DZ] at e
      cases e
      exact ⟨⟨u,M,F,r⟩,i,x,d⟩
     .rw[DC hb] at e
      exact ok b o' a e
def aOO(I:Inv X a5 σ H s){js:List Nat}{d:Cv}(R:PubRel X σ H js d)(ok:∀ b o v,d.lookup b=some (o,v)->(∃ u,s.heap.get? b=some o/\o.data=.cell (some u)/\bL v u)/\X.s₀.heap.objs.size<=b/\∃ x,X.env.cells.lookup x=some b) :
  Env0 X.prog X.w X.K X.mg X.base X.A X.stack s (pub d H) where
 frames:=I.ok.frames
 mod:=I.ok.mod
 bs:=fun b o e=>⟨(I.bs b o e).1,by
  rw[fV]
  .exact (I.bs b o e).2
  .intro z
   obtain ⟨⟨o',v⟩,q⟩:=j2.mp z
   have h1:=(ok b o' v q).2.1
   have h2:=AV e
   exact absurd (A8 h2 (BR I.ok.bsz h1)) (BW _)⟩
 bsz:=BR I.ok.bsz I.sz
 funs:=I.stack
 frf:=fun b a=>by
  rw[fV]
  .exact I.stkFree b a
  .intro z
   obtain ⟨⟨o',v⟩,q⟩:=j2.mp z
   obtain ⟨_,h1,x,g⟩:=ok b o' v q
   rcases AT.mp (I.stkSub b a) with f|f
   .exact I.cne x b g f
   .obtain ⟨_,o,i,_⟩:=I.ok.funs.mem f
    exact absurd (A8 (AV i) h1) (BW _)
 hok:=fun b u e=>by
  by_cases a:b∈eI d
  .obtain ⟨⟨o,v⟩,q⟩:=j2.mp a
   rw[tU q] at e;cases e
   obtain ⟨⟨u,h1,h2,h⟩,_⟩:=ok b o v q
   exact fU.ok h h1 h2
  .rw[fV a] at e
   exact (I.hok b u e).stay (fun _ _ _ q=>q) (fun c q=>mP R.free _ _ q) (fun c _ q=>mP R.free _ _ q) fun c _ q=>mP R.free _ _ q
 bare:=I.bare
def aI4(X:Cx)(js:List Nat)(sp:Sp)(E:XK)(t:TA):TE:=fun σ H Q=>t σ H fun vs H1=>(∀ j∈js,aCL X σ j)/\∀ cv,PubRel X σ H1 js cv->sp vs (pub cv H1) (fun v H2=>Q v (hid (eI cv) H2)) (fun c e H2=>E c e (hid (eI cv) H2)/\∀ a,e=some a->a∉eI cv)
def aI5{k:Nat}{x:Str}{ps:List Str}{sp:Sp}{E:XK}{p pos:Pos}{e:E3}{es:List E3}{t:TA}{js:List Nat}(C:Calls X.prog X.w X.K X.mg X.base (CXe X.prog X.w) k x ps sp)(Y:Room k X.A)(P:Gl X x)(hx:pB (CXe X.prog X.w) X E)(U:PA X (e::es) t)(o:(x == ("__debug__":Str))=false:=by decide)
  (he:starEach (e::es) X.env=(false,eval e X.env)::starEach es X.env:=by rfl) (hpl:(backTo pos (starEach es X.env)).any (·.1)=false:=by rfl):PE X (.Call (.Name x p) (e::es) [] pos) (aI4 X js sp E t):=by
 obtain ⟨f,fd,F,b,m,L⟩:=C
 intro a5 s σ H Q I h
 refine CP (uU I P m ?_ o)
 refine EO (h₀:=X.base) I.ok.mod.kin L (thn (U pos a5 s σ H _ I h) fun us s1 ⟨vs,H1,g,r,n,q⟩=>⟨g.kIn,?_⟩) he hpl
 obtain ⟨l,R,ok⟩:=aI3 g js n
 have i:=q l R
 have e0:=aOO g R ok
 have G:us.length=ps.length:=by rw[<-r.length];exact F.len _ _ _ _ i
 have B:=b s1 us g.kIn (by simpa using G)
 rw[DP] at B
 refine ES (EH (F.run X.A X.stack s1 _ ⟨us,[]⟩ us vs _ _ Y e0 B r i) fun S s' j=>?_)
 cases S with
 | error ev=>
  obtain ⟨e,C,od,H',rfl,os,c,un,hok,z,⟨y,T,O,W,D⟩,J,M⟩:=j
  obtain ⟨d,a⟩:=aNF R.free e0.hok un hok
  refine hx a5 σ H1 s1 (.ref e) s' g ⟨e,C,od,hid (eI l) H',rfl,os,c,d,a,?_,⟨y,T,O,W,fun t e1=>?_⟩,J⟩
  .rw[cH (M e rfl)];exact z
  .exact ⟨kD (D t e1).1,(D t e1).2⟩
 | ok fl=>
  cases fl with
  | ret u=>
   obtain ⟨v,H',os,c,un,hok,N,V⟩:=j
   obtain ⟨d,a⟩:=aNF R.free e0.hok un hok
   exact g.after ⟨v,hid (eI l) H',os,c,d,a,N,V⟩
  | next=>exact False.elim j
  | brk=>exact False.elim j
  | cont=>exact False.elim j
end
def aCM(Ps:List Az)(qs:List (Pos×Str)):Hp:=fun b=>if b∈Ps then some (.tbl qs) else none
def aCN(mg:Str->O9 V9)(h base:H9)(T:Hp)(qs:List (Pos×Str))(xs:List Str):Prop:=
 ∀ x∈xs,∃ c0 P0,T P0=some (.tbl qs)/\Tb mg base c0 P0/\∀ f o fd,mg x=some (.ref f)->h.get? f=some o->o.data=.func fd->fd.code=.ref c0
def aI6{P:P9}{w:W9}{K:Frag}{mg mb:Str->O9 V9}{CX:CXT}{k:Nat}{fa a:Az}{fd:FuncData}{x:Str}{c:S9}{vs:List V9}{ns:List Int}{qs:List (Pos×Str)}{xs:List Str}{tb:Str->Az×Az}
  (hT:∀ x∈xs,PySem.W.CodeHd c.heap (tb x).1 (tb x).2/\c.heap.get? (tb x).2=some (PySem.W.tabObj #[])) (af:∀ x∈xs,∀ f o fd,mg x=some (.ref f)->c.heap.get? f=some o->o.data=.func fd->fd.code=.ref (tb x).1)
  (ah:∃ bm ob,mg "__builtins__"=some (.ref bm)/\bm≠builtinsNs/\c.heap.get? bm=some ob/\ob.cls=.type "module"/\ob.dict=some builtinsNs/\ob.data=.plain) (hNT:PySem.W.noTabs K=true)
  (KX:K.In c.heap) (O:c.heap.Ns mainGlobals mg) (g:c.heap.Ns builtinsNs mb) (aj:∀ x:Str,x≠"__name__"->mb x=bootBuiltins x) (M:c.heap.NoLimit) (hg:c.gens = #[])
  (Z:c.heap.get? a=some {cls:=.type "list",data:=.seq vs.toArray}) (hi:IntsAre vs ns) (hl:ns.length<=sizeLine) (hr:Room k callerA)
  (F:∀ (base:H9) (T:Hp),K.In base->base.Ns mainGlobals mg->aCN mg c.heap base T qs xs->∃ sp,FnOk P w K mg base CX k fa fd [x] sp/\∀ H:Hp,aR T H->SqL K H a (ns.map V.int)->sp [.ref a] H (fun v _=>v=.bl true) fun _ _ _=>False) (hbind:∀ (s:S9) (u:V9),BindsTo s fd ⟨[u],[]⟩ [(x,u)])
  (hCX:∀ H e s',CX [] H c (fun _ _ _=>False) e s'->False) :
  codeAny (model P w) callerA (.call (.ref fa) ⟨[.ref a],[]⟩) (fun r s'=>r=.ok (.ret (.bool true))/\OldK c.heap s'.heap/\s'.os=c.os/\AllBare s'.gens) c:=by
 have rv:=aA3 hi
 have X:=hi.length
 let Ps:List Az:=xs.map fun x=>(tb x).2
 have t:∀ b∈Ps,c.heap.get? b=some (PySem.W.tabObj #[])/\isCodeTable c.heap b:=fun b g=>by
  obtain ⟨y,G,rfl⟩:=AN.mp g
  exact ⟨(hT y G).2,((hT y G).1.tab (hT y G).2).isCodeTable⟩
 have L:a∉Ps:=fun z=>by have:=(t a z).1;rw[Z] at this;cases this
 have ae:∀ b∈Ps,K.lookup b=none:=fun b g=>by
  cases e:K.lookup b with
  | none=>rfl
  | some o=>
   have e2:=KX b o e
   rw[(t b g).1] at e2
   cases e2
   have h2:=BY.mp hNT (b,_) (PySem.W.mem_of_lookupK e)
   exact absurd (show false=true from h2) B9
 have E:∀ H:Hp,(∀ b∈Ps,H b=some (.tbl qs))->(∀ b,H b≠none->b=a\/b∈Ps)->(H a=none\/∃ o xs,H a=some (.frz o (.lst xs)))->SqL K H a (ns.map V.int)->HOk P w H c.heap->(H a≠none->K.lookup a=none)->
   codeAny (model P w) callerA (.call (.ref fa) ⟨[.ref a],[]⟩) (fun r s'=>r=.ok (.ret (.bool true))/\OldK c.heap s'.heap/\s'.os=c.os/\AllBare s'.gens) c:=by
  intro H hP hA hO hS U hK
  have i:∀ {b:Az} {o:Obj},c.heap.get? b=some o->H b=none->(qL c.heap H).get? b=some o:=fun e n=>aK0 e n
  have j:∀ {b:Az} {o:Obj},c.heap.get? b=some o->(∀ vs,o.data≠.seq vs)->o≠PySem.W.tabObj #[]->H b=none:=fun {b o} e d d2=>by
   cases q:H b with
   | none=>rfl
   | some u=>
    rcases hA b (by rw[q];simp) with J|J
    .subst J
     rw[Z] at e;cases e
     exact absurd rfl (d _)
    .rw[(t b J).1] at e;cases e;exact absurd rfl d2
  have ag:∀ {b:Az} {o:Obj} {es:Array DictEntry} {ep:Nat},c.heap.get? b=some o->o.data=.dict es ep->H b=none:=fun {b o es ep} e d=>j e (fun vs z=>by rw[d] at z;cases z) fun z=>by rw[z] at d;cases d
  have C:∀ {b:Az} {m:Str->O9 V9},c.heap.Ns b m->(qL c.heap H).Ns b m:=fun {b m} ⟨o,es,ep,e,d,r⟩=>⟨o,es,ep,i e (ag e d),d,r⟩
  have Y:K.In (qL c.heap H):=fun b o e=>i (KX b o e) (by
   cases q:H b with
   | none=>rfl
   | some u=>
    rcases hA b (by rw[q];simp) with J|J
    .subst J
     rw[hK (by rw[q];simp)] at e;cases e
    .rw[ae b J] at e;cases e)
  have hM:Mod K mg (qL c.heap H):=⟨Y,C O,⟨mb,C g,aj⟩,let ⟨mc,h1,h2⟩:=M;⟨mc,C h1,h2⟩⟩
  have e0:Env0 P w K mg (qL c.heap H) callerA [] c H:=⟨rfl,hM,fun b o e=>aN1 e,E8 (aIA _ _),trivial,fun b g=>absurd (show b∈([]:List Az) from g) (by simp),U,.of_eq hg⟩
  have ai:aCN mg c.heap (qL c.heap H) (aCM Ps qs) qs xs:=fun y G=>by
   refine ⟨(tb y).1,(tb y).2,AL (AN.mpr ⟨y,G,rfl⟩),⟨?_,?_⟩,af y G⟩
   .obtain ⟨o,vs,S,tf,I,tg,aa,R,tt,e1,r1,r2,r3⟩:=(hT y G).1
    exact ⟨o,vs,S,tf,I,tg,aa,R,tt,i e1 (j e1 (fun vs z=>by rw[r2] at z;cases z) fun z=>by rw[z] at r1;cases r1),r1,r2,r3⟩
   .obtain ⟨bm,ob,b1,b2,b3,b4,b5,b6⟩:=ah
    exact ⟨bm,ob,b1,b2,i b3 (j b3 (fun vs z=>by rw[b6] at z;cases z) fun z=>by rw[z] at b4;cases b4),b4,b5,b6⟩
  have ad:aR (aCM Ps qs) H:=fun b o e=>by
   unfold aCM at e
   split at e
   .rename_i g;cases e;exact hP b g
   .cases e
  obtain ⟨sp,FO,ac⟩:=F _ _ Y (C O) ai
  refine EH (FO.run callerA [] c H ⟨[.ref a],[]⟩ [.ref a] [.ref a] _ _ hr e0 (hbind c (.ref a)) (.cons rfl .nil) (ac H ad hS)) fun r s' h=>?_
  cases r with
  | error e=>exact (hCX H e s' h).elim
  | ok fl=>
   cases fl with
   | next=>exact False.elim h
   | brk=>exact False.elim h
   | cont=>exact False.elim h
   | ret u=>
    obtain ⟨v,H',os,Q,un,A,r',q⟩:=h
    have q':v=.bl true:=q
    subst q'
    obtain rfl:u=Value.bool true:=r'
    have kept:∀ b o,c.heap.get? b=some o->b∉Ps->s'.heap.get? b=some o:=fun b o e g=>by
     cases q:H b with
     | none=>exact un.keep b o e q (by intro z;exact absurd (show b∈([]:List Az) from z) (by simp)) (by simp)
     | some u=>
      rcases hA b (by rw[q];simp) with z|z
      .subst z
       rcases hO with z|⟨ob,xs,z⟩
       .rw[q] at z;cases z
       .have N:=un.frzs b ob _ z
        obtain ⟨e1,_⟩:=U b _ z
        obtain ⟨e2,_⟩:=A b _ N
        rw[e] at e1;cases e1
        exact e2
      .exact absurd z g
    refine ⟨rfl,⟨fun b o e=>?_,fun b o e=>?_⟩,os,Q⟩
    .by_cases g:b∈Ps
     .obtain ⟨ps,e2,_⟩:=(show cX P w H' s'.heap b (.tbl qs) from A b _ (un.tbls b _ (hP b g)))
      have e1:=(t b g).1
      rw[e] at e1;cases e1
      exact .inr (.inl ⟨(t b g).2,rfl,#[],ps,rfl,by rw[Array.empty_append];exact e2⟩)
     .exact .inl (kept b o e g)
    .by_cases g:b∈Ps
     .obtain ⟨ps,e2,_⟩:=(show cX P w H' s'.heap b (.tbl qs) from A b _ (un.tbls b _ (hP b g)))
      exact ⟨_,e2⟩
     .exact ⟨o,kept b o e g⟩
 have B:∀ (H:Hp) b,b∈Ps->cX P w H c.heap b (.tbl qs):=fun H b g=>⟨#[],(t b g).1,trivial,fun p _=>.inl rfl⟩
 cases hk:K.lookup a with
 | some o=>
  have e:=KX a o hk
  rw[Z] at e
  cases e
  refine E (aCM Ps qs) (fun b g=>AL g) (fun b z=>?_) (.inl (AK L)) (.inr ⟨_,vs.toArray,_,hk,rfl,rfl,rfl,by rw[BH,X];exact hl,by simpa using rv⟩) (fun b u z=>?_) fun z=>absurd (AK L) z
  .by_cases g:b∈Ps
   .exact .inr g
   .exact absurd (AK g) z
  .by_cases g:b∈Ps
   .have D:=(AL g).symm.trans z
    cases D
    exact B _ b g
   .have D:=(AK g).symm.trans z
    cases D
 | none=>
  refine E (fun b=>if b=a then some (.frz {cls:=.type "list",data:=.seq vs.toArray} (.lst (ns.map V.int))) else aCM Ps qs b) (fun b g=>?_) (fun b z=>?_) (.inr ⟨_,_,AL rfl⟩) (.inl (.inr ⟨{cls:=.type "list",data:=.seq vs.toArray},AL rfl⟩)) (fun b u z=>?_) fun _=>hk
  .rw[AK (show ¬ b=a from fun z=>L (by rw[<-z];exact g))];exact AL g
  .by_cases g:b=a
   .exact .inl g
   .rw[AK g] at z
    by_cases l:b∈Ps
    .exact .inr l
    .exact absurd (AK l) z
  .by_cases g:b=a
   .have D:=(AL g).symm.trans z
    cases D
    subst g
    exact ⟨Z,by rw[AB];exact hl,vs,_,rv,Z⟩
   .have D:=(AK g).symm.trans z
    by_cases l:b∈Ps
    .have N:=(AL l).symm.trans D
     cases N
     exact B _ b l
    .have N:=(AK l).symm.trans D
     cases N
def aOP{p:P9}{b:List Str}{e:ExcName->O9 V9}{mg r:Str->O9 V9}{h:H9}(T:Top p b e mg r h)(xs:List Str)(hx:∀ x∈xs,∃ d∈recsOf p,d.name=x) :
  ∃ tb:Str->Az×Az,(∀ x∈xs,PySem.W.CodeHd h (tb x).1 (tb x).2/\h.get? (tb x).2=some (PySem.W.tabObj #[]))/\∀ x∈xs,∀ f o fd,mg x=some (.ref f)->h.get? f=some o->o.data=.func fd->fd.code=.ref (tb x).1:=by
 have key:∀ x,∃ t:Az×Az,x∈xs->(PySem.W.CodeHd h t.1 t.2/\h.get? t.2=some (PySem.W.tabObj #[]))/\∀ f o fd,mg x=some (.ref f)->h.get? f=some o->o.data=.func fd->fd.code=.ref t.1:=fun x=>by
  by_cases g:x∈xs
  .obtain ⟨d,k,rfl⟩:=hx x g
   obtain ⟨a,o,fd,c,m,h1,h2,q,l,s,i⟩:=T.tab d k
   refine ⟨(c,m),fun _=>⟨⟨PySem.W.CodeHd.of s i,i.2⟩,fun f o' n e1 e2 j=>?_⟩⟩
   rw[h1] at e1;cases e1
   rw[h2] at e2;cases e2
   rw[q] at j;cases j
   exact l
  .exact ⟨(0,0),fun z=>absurd z g⟩
 exact ⟨fun x=>(key x).choose,fun x hx=>((key x).choose_spec hx).1,fun x hx=>((key x).choose_spec hx).2⟩
def walk_ofT{l:PySem.W.OpenLaw}{n k:Nat}{q:P9}{j:List Str}{L:(Str->O9 V9)->H9->Prop}{C:W9->H9->Prop}{d:DefRec}{K:Params->Frag}{CX:W9->CXT}{x:Str}{qs:List (Pos×Str)}{xs:List Str}
  (y:∀ x∈xs,∃ d∈recsOf q,d.name=x) (hNT:∀ w:W9,PySem.W.noTabs (K w.params)=true)
  (E:l.most=some n) (B:n<=sizeLine) (z:d.params.defaults=[]) (X:Room k callerA)
  (S:∀ (w:W9) (h:H9),C w h->(K w.params).In h)
  (F:∀ (w:W9) (mg:Str->O9 V9) (fa:Az) (h:H9),(K w.params).In h->h.Ns mainGlobals mg->mg d.name=some (.ref fa)->
   ∃ fd:FuncData,(∀ (s:S9) (u:V9),BindsTo s fd ⟨[u],[]⟩ [(x,u)]) /\
    ∀ (base:H9) (T:Hp),(K w.params).In base->base.Ns mainGlobals mg->aCN mg h base T qs xs->∃ sp,FnOk l.prog w (K w.params) mg base (CX w) k fa fd [x] sp /\
     ∀ (H:Hp) (a:Az) (ns:List Int),ns.length<=n->aR T H->SqL (K w.params) H a (ns.map V.int)->sp [.ref a] H (fun v _=>v=.bl true) fun _ _ _=>False)
  (r:∀ (w:W9) (H:Hp) (s:S9) (e:V9) (s':S9),CX w [] H s (fun _ _ _=>False) e s'->False) :
  PySem.W.WalkO q j L C l.row.toRowW d [] (fun f vs=>PySem.call f vs):=by
 refine Att.attach_call E z fun w s₀ p mg mb fa o pm cd doc a vs ns G Y ho hd Z t m i c M=>?_
 have D:=S w _ Y
 obtain ⟨fd,N,P⟩:=F w mg fa _ D G.T.g t
 obtain ⟨tb,U,A⟩:=aOP G.T xs y
 refine aI6 (qs:=qs) U A G.T.bmain (hNT w) D G.T.g G.T.b G.T.builtins G.T.nolimit M m i (BR c B) X (fun base T I R Q=>?_) N fun H e s'=>r w H p e s'
 obtain ⟨sp,J,O⟩:=P base T I R Q
 exact ⟨sp,J,fun H h1 h2=>O H a ns c h1 h2⟩
end L2
namespace Fl
open L2 PyProof.Rows
mutual
def keyD:Dz->Bool
 | .none=>true
 | .int _=>true
 | .str x=>PyData.strOk x
 | .tuple xs=>dW xs
 | _=>false
def dW:List Dz->Bool
 | []=>true
 | x::t=>keyD x && dW t
end
mutual
def j6(w:W9):Dz->Int
 | .none=>reduceHash 0xFCA86420
 | .int i=>hashInt i
 | .str x=>hashStr w x
 | .tuple xs=>reduceHash (Builtin.Tuple.tupleHashOf (oZ w xs))
 | _=>0
def oZ(w:W9):List Dz->List Int
 | []=>[]
 | x::t=>j6 w x::oZ w t
end
mutual
def i6:Dz->Nat
 | .tuple xs=>pF xs+1
 | _=>1
def pF:List Dz->Nat
 | []=>0
 | x::t=>i6 x+pF t
end
mutual
theorem uY:∀ {d:Dz},keyD d=true->d.canLay0=true
 | .none,_=>rfl
 | .int _,_=>rfl
 | .str x,h=>h
 | .tuple xs,h=>by
  have h':dW xs=true:=h
  exact aCO h'
theorem aCO:∀ {xs:List Dz},dW xs=true->PyData.canLayAll0 xs=true
 | [],_=>rfl
 | x::t,h=>by
  have h':(keyD x && dW t)=true:=h
  rw[A3] at h'
  show (x.canLay0 && PyData.canLayAll0 t)=true
  rw[uY h'.1,aCO h'.2];rfl
end
mutual
theorem zH:∀ {d e:Dz},keyD d=true->keyD e=true->(PyData.eqv d e=true↔d=e)
 | .none,e,_,he=>by cases e<;>simp[PyData.eqv]<;>cases he
 | .int i,e,_,he=>by cases e<;>simp[PyData.eqv]<;>cases he
 | .str x,e,_,he=>by cases e<;>simp[PyData.eqv]<;>cases he
 | .tuple xs,e,hd,he=>by
  have hd':dW xs=true:=hd
  cases e with
  | tuple ys=>
   have a:dW ys=true:=he
   have:=aCP hd' a
   show PyData.eqvAll xs ys=true↔_
   rw[this]
   exact ⟨fun z=>by rw[z],fun z=>by cases z;rfl⟩
  | _=>simp[PyData.eqv]<;>cases he
theorem aCP:∀ {xs ys:List Dz},dW xs=true->dW ys=true->(PyData.eqvAll xs ys=true↔xs=ys)
 | [],ys,_,_=>by cases ys<;>simp[PyData.eqvAll]
 | x::t,ys,hx,hy=>by
  have hx':(keyD x && dW t)=true:=hx
  rw[A3] at hx'
  cases ys with
  | nil=>simp[PyData.eqvAll]
  | cons y u=>
   have c:(keyD y && dW u)=true:=hy
   rw[A3] at c
   rw[PyData.eqvAll,A3,zH hx'.1 c.1,aCP hx'.2 c.2]
   exact ⟨fun ⟨a,b⟩=>by rw[a,b],fun z=>by cases z;exact ⟨rfl,rfl⟩⟩
end
noncomputable instance decPyData:DecidableEq Dz:=fun a b=>Classical.propDecidable (a=b)
def aOQ{d e:Dz}(a:keyD d=true)(b:keyD e=true):PyData.eqv d e=decide (d=e):=by
 by_cases h:d=e
 .rw[AX h,(zH a b).mpr h]
 .rw[BA h]
  cases q:PyData.eqv d e with
  | false=>rfl
  | true=>exact absurd ((zH a b).mp q) h
def aG7(xs:List Dz):i6 (.tuple xs)=pF xs+1:=by rw[i6]
def aA5(A:U9):A.in1.units=A.units+1:=rfl
def nL(prog:P9)(w:W9)(E:V9->S9->Prop)(d:Dz):Prop:=∀ (v:V9) (as:List Az) (A:U9) (s:S9) (Q:Int->S9->Prop),keyD d=true->Reads s.heap v d as->A.units+d.depth < cLine->Q (j6 w d) {s with toks:=s.toks+i6 d}->
 wpAny (model prog w) A (pyHash v) Q E s
def aRZ{prog:P9}{w:W9}{E:V9->S9->Prop}:∀ (xs:List Dz) (ih:∀ x∈xs,nL prog w E x) (vs:List V9) (as:List Az) (A:U9) (s:S9) (b:Array Int) (Q:Array Int->S9->Prop),dW xs=true->ReadsAll s.heap vs xs as->A.units+PyData.depthAll xs < cLine->
  (∀ b',b'.toList=b.toList++oZ w xs->Q b' {s with toks:=s.toks+pF xs})->
  wpAny (model prog w) A (forIn vs b fun x r=>do let h <-pyHash x;pure PUnit.unit;pure (ForInStep.yield (r.push h))) Q E s:=by
 intro xs
 induction xs with
 | nil=>
  intro ih vs as A s b Q _ x _ h
  cases x
  exact AH (h b (by simp[oZ]))
 | cons k xs ih0=>
  intro ih vs as A s b Q g x d h
  cases x with
  | @cons v vs _ _ as bs x1 x2=>
   have a:(keyD k && dW xs)=true:=g
   rw[A3] at a
   have c:A.units+max k.depth (PyData.depthAll xs) < cLine:=d
   rw[C3]
   refine AA (AA (ih k AS _ _ A s _ a.1 x1 (by omega) ?_))
   refine AA (AH (AH ?_))
   refine ih0 (fun x f=>ih x (AJ _ f)) _ _ A {s with toks:=s.toks+i6 k} _ Q a.2 x2 (by omega) fun b' e=>?_
   have q:=h b' (by rw[e];simp[oZ])
   rw[show pF (k::xs)=i6 k+pF xs by rw[pF],<-Nat.add_assoc] at q
   exact q
def aA6(w:W9)(i:Int):j6 w (.int i)=hashInt i:=by rw[j6]
def aA7(w:W9)(i:Str):j6 w (.str i)=hashStr w i:=by rw[j6]
def aI7(w:W9)(xs:List Dz):j6 w (.tuple xs)=reduceHash (Builtin.Tuple.tupleHashOf (oZ w xs)):=by rw[j6]
def aG8(i:Int):i6 (.int i)=1:=by unfold i6;rfl
def aG9(i:Str):i6 (.str i)=1:=by unfold i6;rfl
def aLJ{prog:P9}{w:W9}{E:V9->S9->Prop}(i:Int):nL prog w E (.int i):=fun v a A s Q _ r _ h=>by
 rw[aA6,aG8] at h
 cases r
 exact wpAny_pyHash_int h
def aLK{prog:P9}{w:W9}{E:V9->S9->Prop}(i:Str):nL prog w E (.str i):=fun v a A s Q _ r _ h=>by
 rw[aA7,aG9] at h
 cases r
 exact wpAny_pyHash_str h
def aLL{prog:P9}{w:W9}{E:V9->S9->Prop}(xs:List Dz)(e:∀ x∈xs,nL prog w E x):nL prog w E (.tuple xs):=fun v d A s Q j r g h=>by
 rw[aI7,aG7] at h
 cases r with
 | @tuple a o vs n _ d h1 h2 h3 h4=>
  have c:dW xs=true:=j
  have f:A.units+(PyData.depthAll xs+1) < cLine:=g
  refine PySem.W.pyHash_slot (T:="tuple") ⟨o,h1,h2⟩ F.slot_tuple_hash F.entry_tuple_hash (F.args_tuple_hash_1 _) (beq_builtin_none _) (.inr (by omega)) ?_
  show wpAny _ _ (Builtin.Tuple.tupleItemsOf (.ref a) >>= _) _ _ s
  refine AA (wpAny_tupleItemsOf h1 h3 ?_)
  refine AA ?_
  rw[<-Array.forIn_toList]
  refine aRZ xs e vs.toList d A.in1 s #[] _ c h4 (by rw[aA5];omega) fun b i=>?_
  show wpAny _ _ (retInt (Builtin.Tuple.tupleHashOf b.toList)) _ _ _
  rw[i]
  exact AA (wpAny_mkInt (AH ⟨_,_,rfl,h⟩))
def aHA(w:W9):j6 w .none=reduceHash 0xFCA86420:=by rw[j6]
def aEX:i6 .none=1:=by unfold i6;rfl
def aLM{prog:P9}{w:W9}{E:V9->S9->Prop}:nL prog w E .none:=fun v b A s Q _ r c h=>by
 rw[aHA,aEX] at h
 generalize a:reduceHash 0xFCA86420=g at h
 cases r
 refine PySem.W.pyHash_slot (T:="NoneType") rfl F.slot_NoneType_hash F.entry_NoneType_hash (F.args_NoneType_hash_1 _) (beq_builtin_none _) (.inr (by omega)) (AA (AH (AA (wpAny_mkInt (AH ⟨0xFCA86420,_,rfl,?_⟩)))))
 rw[a]
 exact h
def aR0{prog:P9}{w:W9}{E:V9->S9->Prop}:∀ (n:Nat) (d:Dz),sizeOf d<=n->nL prog w E d:=by
 intro n
 induction n with
 | zero=>intro d h;cases d<;>simp at h
 | succ n ih=>
  intro d h
  cases d with
  | none=>exact aLM
  | int i=>exact aLJ i
  | str x=>exact aLK x
  | tuple xs=>
   refine aLL xs fun x e=>ih x ?_
   have:=List.sizeOf_lt_of_mem e
   simp only[PyData.tuple.sizeOf_spec] at h
   omega
  | bool b=>exact fun v c A s Q a=>nomatch a
  | list xs=>exact fun v c A s Q a=>nomatch a
  | dict xs=>exact fun v c A s Q a=>nomatch a
def aR1{prog:P9}{w:W9}{E:V9->S9->Prop}(d:Dz):nL prog w E d:=aR0 (sizeOf d) d (AU _)
def aOR{M:Model}{A:U9}{E:V9->S9->Prop}{s:S9}:∀ (n:Nat) (d:Dz) (v:V9) (as:List Az) (Q:Bool->S9->Prop),keyD d=true->Reads s.heap v d as->d.depth<=n->Q true s->wpAny M A (eqIsQuiet n v) Q E s:=by
 intro n
 induction n with
 | zero=>
  intro d v as Q c r f h
  cases d with
  | none=>cases r;rw[DX _ rfl];exact AH h
  | int i=>cases r;rw[DX _ rfl];exact AH h
  | str x=>cases r;rw[DX _ rfl];exact AH h
  | tuple xs=>
   have j:PyData.depthAll xs+1<=0:=f
   omega
  | bool b=>exact nomatch c
  | list xs=>exact nomatch c
  | dict xs=>exact nomatch c
 | succ n ih=>
  intro d v as Q c r f h
  cases d with
  | none=>cases r;rw[DX _ rfl];exact AH h
  | int i=>cases r;rw[DX _ rfl];exact AH h
  | str x=>cases r;rw[DX _ rfl];exact AH h
  | bool b=>exact nomatch c
  | list xs=>exact nomatch c
  | dict xs=>exact nomatch c
  | tuple xs=>
   cases r with
   | @tuple a o vs m _ as h1 h2 h3 h4=>
    have g:dW xs=true:=c
    have j:PyData.depthAll xs+1<=n+1:=f
    have k:s.TypeIs (.ref a) "tuple":=⟨o,h1,h2⟩
    unfold eqIsQuiet
    refine AA (GR k F.slot_tuple_eq.lookup ?_)
    show wpAny _ _ (isInstance (.ref a) (.type "tuple") >>= _) _ _ s
    refine AA (EL k isSubtype_tuple_tuple ?_)
    simp only[G6,CH,DU]
    refine AA (C7 h1 h3 ?_)
    refine AA ?_
    show wpAny _ _ (forIn vs _ _) _ _ s
    rw[<-Array.forIn_toList]
    refine wpAny_forIn_list _ (fun rest r s'=>r.1=none/\s'=s/\∃ ys bs,dW ys=true/\PyData.depthAll ys<=n/\ReadsAll s.heap rest ys bs) _ ?_ ?_ _ _ ⟨rfl,rfl,xs,_,g,by omega,h4⟩
    .rintro v rest r s' ⟨hr,rfl,ys,bs,hy,hdy,ry⟩
     cases ry with
     | @cons _ _ y yt cs ds r1 r2=>
      have e:(keyD y && dW yt)=true:=hy
      rw[A3] at e
      have l:max y.depth (PyData.depthAll yt)<=n:=hdy
      refine AA (ih y v _ _ e.1 r1 (by omega) ?_)
      simp only[G6,CH,DU]
      exact AH ⟨rfl,rfl,yt,_,e.2,by omega,r2⟩
    .rintro ⟨r1,r2⟩ s' ⟨hr,rfl,_⟩
     simp only at hr
     subst hr
     exact AH h
def aVT(h:H9)(d:Dz)(a:Az):Prop:=keyD d=true/\d.depth<=8/\∃ as,Reads h (.ref a) d as
def aHB{h h':H9}{a:Az}{o:Obj}{es:Array DictEntry}{ep:Nat}(q:h.get? a=some o)(m:o.data=.dict es ep)(u:Heap.SameBut a h h'){v:V9}{d:Dz}{e:List Az}(c:keyD d=true)(r:Reads h v d e):Reads h' v d e:=by
 refine Reads.rec (motive_1:=fun v d e _=>keyD d=true->Reads h' v d e) (motive_2:=fun vs xs e _=>dW xs=true->ReadsAll h' vs xs e) ?_ ?_ ?_ ?_ ?_ ?_ ?_ ?_ ?_ r c
 .exact fun _=>.none
 .intro b c;cases c
 .exact fun i t _=>.int i t
 .exact fun i t _=>.str i t
 .intro b o' vs n xs e h1 h2 f k j c;cases c
 .intro b o' vs n xs e h1 h2 f k j c
  exact .tuple ((u.2 b (fun z=>by subst z;rw[q] at h1;cases h1;rw[m] at f;cases f)).trans h1) h2 f (j c)
 .intro b o' s n p e bs h1 h2 f k w l g c;cases c
 .exact fun _=>.nil
 .intro v vs d ds e bs r1 r2 l g c
  exact .cons (l ((A3 ..).mp c).1) (g ((A3 ..).mp c).2)
def lM(prog:P9)(w:W9):HeapKind prog w Dz where
 is:=aVT
 hash:=j6 w
 draws:=i6
 room:=fun A=>A.units+9 < cLine
 inj:=fun {h a x y} hx hy=>by
  obtain ⟨k1,_,as,r1⟩:=hx
  obtain ⟨k2,_,bs,r2⟩:=hy
  exact PySem.SeqAt.Reads.unique x y _ _ _ (uY k1) r1 r2
 keeps:=fun {h h' k a d o es ep} hx ho hd hs=>by
  obtain ⟨k1,k2,as,r1⟩:=hx
  exact ⟨k1,k2,as,aHB ho hd hs k1 r1⟩
 pyHash:=fun {A E s k a Q} hu hk h=>by
  obtain ⟨k1,k2,as,r1⟩:=hk
  exact aR1 k _ as A s Q k1 r1 (by omega) h
 eqBool:=fun {A E s x y a b Q} hu hx hy h=>by
  obtain ⟨k1,k2,as,r1⟩:=hx
  obtain ⟨l1,l2,bs,r2⟩:=hy
  refine PySem.SeqAt.eqAt_reads x y A s _ _ as bs r1 r2 (uY k1) (uY l1) ?_ prog w E Q ?_
  .have:min x.depth y.depth<=8:=BR (Nat.min_le_left _ _) k2
   omega
  .rw[aOQ k1 l1];exact h
 quiet:=fun {A E s k a Q} hk h=>by
  obtain ⟨k1,k2,as,r1⟩:=hk
  exact aOR 8 k _ as Q k1 r1 k2 h
abbrev Ent:=Dz×V×V
def sA(w:W9)(p:Ent)(en:DictEntry):Prop:=en.hash=j6 w p.1/\bL p.2.1 en.key/\bL p.2.2 en.val
def eM(w:W9)(a:Az)(es:List Ent)(ep:Nat):HO:=.ext fun h=>(a == sysModules)=false/\∃ o ar,h.get? a=some o/\o.ExactDict/\o.data=.dict ar ep/\Paired (sA w) es ar.toList
def lV{P:P9}{w:W9}{H:Hp}{h:H9}{a:Az}{es:List Ent}{ep:Nat}(c:(a == sysModules)=false)(b:∃ o ar,h.get? a=some o/\o.ExactDict/\o.data=.dict ar ep/\Paired (sA w) es ar.toList):cX P w H h a (eM w a es ep):=
 ⟨⟨c,b⟩,let ⟨o,_,e,_⟩:=b;⟨o,e⟩,fun h1 h2 ⟨q,o,es,e,r⟩ d=>⟨q,o,es,d _ e,r⟩⟩
def gQ:Dz->Bool
 | .tuple xs=>keyD (.tuple xs) && decide ((PyData.tuple xs).depth<=8)
 | _=>false
def pG:Dz->Bool
 | .int _=>true
 | .str _=>true
 | _=>false
def cK(k:Dz)(ks:List Dz):Bool:=(gQ k && ks.all gQ) || (pG k && ks.all pG)
def aOS{d:Dz}(h:gQ d=true):∃ xs,d=.tuple xs/\keyD d=true/\d.depth<=8:=by
 cases d with
 | tuple xs=>
  have h':(keyD (.tuple xs) && decide ((PyData.tuple xs).depth<=8))=true:=h
  rw[A3] at h'
  exact ⟨xs,rfl,h'.1,BF h'.2⟩
 | _=>cases h
def j7:Key->Dz
 | .inl i=>.int i
 | .inr x=>.str x
def aFI{d:Dz}(h:pG d=true):∃ k,d=j7 k:=by
 cases d with
 | int i=>exact ⟨.inl i,rfl⟩
 | str i=>exact ⟨.inr i,rfl⟩
 | _=>cases h
def aA8{a b:Key}(h:j7 a=j7 b):a=b:=by
 cases a<;>cases b<;>cases h<;>rfl
def aFJ{K:Frag}{H:Hp}{v:V}{k:Key}(h:DatV K H v (j7 k)):v=kV k:=by
 cases k with
 | inl i=>exact h.int_of
 | inr x=>exact h.str_of
def aCQ{P:P9}{w:W9}(k:Key):j6 w (j7 k)=(dA P w).hash k:=by
 cases k with
 | inl i=>exact aA6 w i
 | inr x=>exact aA7 w x
def zI:Ent->(Dz×Az×V9)->Prop:=fun e x=>e.1=x.1/\e.2.1=.ref x.2.1/\bL e.2.2 x.2.2
def zJ:Ent->(Key×V9)->Prop:=fun e x=>e.1=j7 x.1/\e.2.1=kV x.1/\bL e.2.2 x.2
theorem aI8{P:P9}{w:W9}:∀ {es:List Ent} {ens:List DictEntry},Paired (sA w) es ens->(∀ e∈es,∃ b,e.2.1=.ref b)->∃ xs,ens=xs.map (entryOfKey (lM P w))/\Paired zI es xs
 | _,_,.nil,_=>⟨[],rfl,.nil⟩
 | e::es,en::ens,.cons h t,hb=>by
  obtain ⟨xs,h1,h2⟩:=aI8 (P:=P) t fun e j=>hb e (AJ _ j)
  obtain ⟨b,a⟩:=hb e AS
  obtain ⟨k,i,l⟩:=h
  rw[a] at i
  obtain ⟨c,key,g⟩:=en
  have f:key=Value.ref b:=i
  have d:c=j6 w e.1:=k
  subst f d
  exact ⟨(e.1,b,g)::xs,by rw[AY,h1];rfl,.cons ⟨rfl,a,l⟩ h2⟩
theorem sB{P:P9}{w:W9}:∀ {es:List Ent} {xs:List (Dz×Az×V9)},Paired zI es xs->Paired (sA w) es (xs.map (entryOfKey (lM P w)))
 | _,_,.nil=>.nil
 | _,_,.cons h t=>.cons ⟨by rw[h.1];rfl,by rw[h.2.1];rfl,h.2.2⟩ (sB t)
theorem aI9{P:P9}{w:W9}:∀ {es:List Ent} {ens:List DictEntry},Paired (sA w) es ens->(∀ e∈es,∃ k,e.1=j7 k/\e.2.1=kV k)->∃ xs,Pairs (dA P w) ens xs/\Paired zJ es xs/\∀ en∈ens,∃ k,(dA P w).is k en.key=true/\en.hash=(dA P w).hash k
 | _,_,.nil,_=>⟨[],.nil,.nil,fun _ h=>by cases h⟩
 | e::es,en::ens,.cons h t,hb=>by
  obtain ⟨xs,h1,h2,h3⟩:=aI9 (P:=P) t fun e g=>hb e (AJ _ g)
  obtain ⟨k,a,b⟩:=hb e AS
  obtain ⟨f,i,j⟩:=h
  have hi:(dA P w).is k en.key=true:=aND (by rw[<-b];exact i)
  refine ⟨(k,en.val)::xs,.cons hi rfl h1,.cons ⟨a,b,j⟩ h2,fun c d=>?_⟩
  rcases AT.mp d with z|z
  · subst z; exact ⟨k, hi, by rw [f, a, aCQ (P := P)]⟩
  · exact h3 c z
def aOT{P:P9}{w:W9}{k:Key}{v:V9}(h:(dA P w).is k v=true):bL (kV k) v:=by
 rcases keyIs_shape h with ⟨i,t,rfl,rfl⟩|⟨x,t,rfl,rfl⟩
 · exact ⟨t, rfl⟩
 · exact ⟨t, rfl⟩
theorem sC{P:P9}{w:W9}:∀ {es:List Ent} {xs:List (Key×V9)} {ens:List DictEntry},Paired zJ es xs->Pairs (dA P w) ens xs->(∀ en∈ens,∃ k,(dA P w).is k en.key=true/\en.hash=(dA P w).hash k)->Paired (sA w) es ens
 | _,_,_,.nil,.nil,_=>.nil
 | _,_,_,.cons h t,.cons p1 p2 ps,hk=>by
  obtain ⟨k,hk1,hk2⟩:=hk _ AS
  obtain rfl:=(dA P w).inj _ _ _ hk1 p1
  refine .cons ⟨by rw[hk2,h.1,aCQ (P:=P)],by rw[h.2.1];exact aOT hk1,by rw[p2];exact h.2.2⟩ (sC t ps fun en a=>hk en (AJ _ a))
def atE(es:List Ent)(k:Dz):O9 V:=(es.find? fun e=>decide (e.1=k)).map (·.2.2)
def pH(es:List Ent)(k:Dz)(kv v:V):List Ent:=if (atE es k).isSome then es.map (fun e=>if e.1=k then (e.1,e.2.1,v) else e) else es++[(k,kv,v)]
theorem qX{k:Dz}:∀ {es:List Ent} {xs:List (Dz×Az×V9)},Paired zI es xs->nY (atE es k) ((atKey xs k).map (·.2))
 | _,_,.nil=>trivial
 | e::es,x::xs,.cons h t=>by
  have ih:=qX (k:=k) t
  unfold atE atKey at ih ⊢
  rw[DD,DD,h.1]
  by_cases q:x.1=k
  · rw [AX q]; exact h.2.2
  · rw [BA q]; exact ih
theorem qY{k:Key}:∀ {es:List Ent} {xs:List (Key×V9)},Paired zJ es xs->nY (atE es (j7 k)) (valueAt xs k)
 | _,_,.nil=>trivial
 | e::es,x::xs,.cons h t=>by
  have ih:=qY (k:=k) t
  unfold atE valueAt at ih ⊢
  rw[DD,DD,h.1]
  by_cases q:x.1=k
  · rw [AX q, AX (by rw [q])]; exact h.2.2
  · rw [BA q, BA (fun z => q (aA8 z))]; exact ih
def lW{o:O9 V}{u:O9 V9}(h:nY o u):o.isSome=u.isSome:=by
 cases o<;>cases u<;>first|rfl|exact h.elim
theorem sD{α β:Type}{f:α->β->Prop}{g:α->α}{k:β->β}(hg:∀ a b,f a b->f (g a) (k b)):∀ {xs:List α} {ys:List β},Paired f xs ys->Paired f (xs.map g) (ys.map k)
 | _,_,.nil=>.nil
 | _,_,.cons h t=>.cons (hg _ _ h) (sD hg t)
theorem sE{α β:Type}{f:α->β->Prop}{a:α}{b:β}(h:f a b):∀ {xs:List α} {ys:List β},Paired f xs ys->Paired f (xs++[a]) (ys++[b])
 | _,_,.nil=>.cons h .nil
 | _,_,.cons q t=>.cons q (sE h t)
def aHC{k:Dz}{b:Az}{v:V}{u:V9}{es:List Ent}{xs:List (Dz×Az×V9)}(r:bL v u)(h:Paired zI es xs):Paired zI (pH es k (.ref b) v) (storedH xs k b u):=by
 have q:=lW (qX (k:=k) h)
 rw[EW] at q
 unfold pH storedH
 rw[q]
 cases (atKey xs k).isSome with
 | true=>
  rw[AL rfl,AL rfl]
  refine sD (fun e x a=>?_) h
  unfold putAt
  rw[a.1]
  by_cases z:x.1=k
  · rw [AL z, AL z]; exact ⟨rfl, a.2.1, r⟩
  · rw [AK z, AK z]; exact a
 | false=>rw[AK (by decide),AK (by decide)];exact sE ⟨rfl,rfl,r⟩ h
theorem aNG{k:Key}:∀ {xs:List (Key×V9)},xs.any (fun kv=>decide (kv.1=k))=(valueAt xs k).isSome
 | []=>rfl
 | x::xs=>by
  have ih:=aNG (k:=k) (xs:=xs)
  unfold valueAt at ih ⊢
  rw[FY,DD]
  by_cases q:x.1=k
  · rw [AX q]; rfl
  · rw [BA q, Bool.false_or]; exact ih
def aHD{k:Key}{v:V}{u:V9}{es:List Ent}{xs:List (Key×V9)}(r:bL v u)(h:Paired zJ es xs):Paired zJ (pH es (j7 k) (kV k) v) (stored xs k u):=by
 have q:=lW (qY (k:=k) h)
 unfold pH stored
 rw[q,aNG]
 cases (valueAt xs k).isSome with
 | true=>
  rw[AL rfl,AL rfl]
  refine sD (fun e x a=>?_) h
  by_cases z:x.1=k
  · rw [AL z, AL (by rw [a.1, z])]; exact ⟨by rw [a.1], a.2.1, r⟩
  · rw [AK z, AK (fun y => z (aA8 (a.1.symm.trans y)))]; exact a
 | false=>rw[AK (by decide),AK (by decide)];exact sE ⟨rfl,rfl,r⟩ h
section
variable{X:Cx}{a5:List (Az×Obj)}{σ:L2.St}{H:Hp}{s:S9}{a:Az}{es:List Ent}{k:Dz}{kv v:V}{ku u:V9}{A:U9}{E:V9->S9->Prop}
structure DicAt(X:Cx)(H:Hp)(a:Az)(es:List Ent)(k:Dz)(kv:V):Prop where
 o:∃ ep,H a=some (eM X.w a es ep)
 ks:∀ e∈es,DatV X.K H e.2.1 e.1
 nd:(es.map (·.1)).Nodup
 dk:DatV X.K H kv k
 one:cK k (es.map (·.1))=true
theorem xU{α β:Type}{f:α->β->Prop}{y:β}:∀ {xs:List α} {ys:List β},Paired f xs ys->y∈ys->∃ x,x∈xs/\f x y
 | _,_,.nil,h=>by cases h
 | _,_,.cons q t,h=>by
  rcases AT.mp h with z|z
  .subst z;exact ⟨_,AS,q⟩
  .obtain ⟨x,h1,h2⟩:=xU t z
   exact ⟨x,AJ _ h1,h2⟩
theorem sG{α β γ:Type}{f:α->β->Prop}{g:α->γ}{k:β->γ}(h:∀ a b,f a b->g a=k b):∀ {xs:List α} {ys:List β},Paired f xs ys->xs.map g=ys.map k
 | _,_,.nil=>rfl
 | _,_,.cons q t=>by rw[AY,AY,h _ _ q,sG h t]
theorem aA9{α β:Type}{f:α->β}:∀ {xs:List α},(xs.map f).Nodup->xs.Nodup
 | [],_=>CT
 | x::t,h=>by
  rw[AY,C0] at h
  exact C0.mpr ⟨fun z=>h.1 (EB z),aA9 h.2⟩
theorem DicAt.cases (D : DicAt X H a es k kv) (I : Inv X a5 σ H s) (G : bL kv ku) : (a == sysModules) = false /\
    ((∃ b xs, kv = .ref b /\ ku = .ref b /\ Paired zI es xs /\ (lM X.prog X.w).is s.heap k b /\ s.heap.DictOfH (lM X.prog X.w) a xs) \/
     (∃ kk xs, k = j7 kk /\ kv = kV kk /\ Paired zJ es xs /\ (dA X.prog X.w).is kk ku = true /\ s.heap.DictOf (dA X.prog X.w) a xs)) := by
  obtain ⟨ep, L⟩ := D.o
  obtain ⟨⟨y, o, ar, h1, h2, J, F⟩, _, _⟩ := (show cX X.prog X.w H s.heap a (eM X.w a es ep) from I.hok a _ L)
  refine ⟨y, ?_⟩
  have f := D.one
  unfold cK at f
  rw [DR, A3, A3, BY, BY] at f
  rcases f with ⟨C, t⟩ | ⟨C, t⟩
  · have key : ∀ (d : Dz) (v : V), gQ d = true -> DatV X.K H v d -> ∃ j, v = .ref j /\ (lM X.prog X.w).is s.heap d j := fun d v y E => by
      obtain ⟨ws, rfl, M, R⟩ := aOS y
      obtain ⟨j, vs, rfl, _, _⟩ := E.tup_of
      obtain ⟨Q, r⟩ := E.reads I (u := .ref j) rfl
      exact ⟨j, rfl, M, R, Q, r⟩
    obtain ⟨b, rfl, B⟩ := key _ _ C D.dk
    cases (show ku = Value.ref b from G)
    obtain ⟨xs, l, c⟩ := aI8 (P := X.prog) F fun e i => by
      obtain ⟨j, e1, _⟩ := key e.1 e.2.1 (t _ (EB i)) (D.ks e i)
      exact ⟨j, e1⟩
    refine .inl ⟨b, xs, rfl, rfl, c, B, o, ar, ep, h1, h2, J, l, fun x S => ?_, ?_⟩
    · obtain ⟨e, i, p⟩ := xU c S
      obtain ⟨j, e1, q⟩ := key e.1 e.2.1 (t _ (EB i)) (D.ks e i)
      rw [p.2.1] at e1
      cases e1
      rw [<- p.1]; exact q
    · rw [<- sG (g := fun e : Ent => e.1) (fun a b h => h.1) c]; exact D.nd
  · obtain ⟨kk, rfl⟩ := aFI C
    have n := aFJ D.dk
    obtain ⟨xs, l, c, A⟩ := aI9 (P := X.prog) F fun e i => by
      obtain ⟨N, m⟩ := aFI (t _ (EB i))
      have q := D.ks e i
      rw [m] at q
      exact ⟨N, m, aFJ q⟩
    refine .inr ⟨kk, xs, rfl, n, c, aND (by rw [<- n]; exact G), o, ar, ep, h1, h2, J, fun O z => A O (by simpa using z), l, ?_⟩
    have : es.map (·.1) = (xs.map (·.1)).map j7 := by rw [A6]; exact sG (g := fun e : Ent => e.1) (fun a b h => h.1) c
    have nd := D.nd
    rw [this] at nd
    exact aA9 nd
def nM{A:U9}(a:A.units+64 < cLine):(lM X.prog X.w).room A.in1:=by show A.in1.units+9 < cLine;rw[aA5];omega
def aR2{Q:V9->S9->Prop}(i:A.units+64 < cLine)(D:DicAt X H a es k kv)(I:Inv X a5 σ H s)(g:bL kv ku)(h:∀ s',Inv X a5 σ H s'->Q (.bool (atE es k).isSome) s'):wpAny (model X.prog X.w) A (compareOp .In ku (.ref a)) Q E s:=by
 obtain ⟨e,⟨b,xs,rfl,rfl,c,d,dd⟩|⟨f,xs,rfl,rfl,c,d,dd⟩⟩:=D.cases I g
 .refine wpAny_in_heap (nM i) d e dd ?_
  have q:=lW (qX (k:=k) c)
  rw[EW] at q
  rw[<-q];exact h _ (I.tok _)
 .refine wpAny_in_of d e dd.mapOf ?_
  rw[<-lW (qY (k:=f) c)];exact h _ (I.tok _)
def aOU{Q:V9->S9->Prop}(i:A.units+64 < cLine)(D:DicAt X H a es k kv)(I:Inv X a5 σ H s)(g:bL kv ku)(h:∀ s',Inv X a5 σ H s'->Q (.bool (!(atE es k).isSome)) s'):wpAny (model X.prog X.w) A (compareOp .NotIn ku (.ref a)) Q E s:=by
 obtain ⟨e,⟨b,xs,rfl,rfl,c,d,dd⟩|⟨f,xs,rfl,rfl,c,d,dd⟩⟩:=D.cases I g
 .refine wpAny_notIn_heap (nM i) d e dd ?_
  have q:=lW (qX (k:=k) c)
  rw[EW] at q
  rw[<-q];exact h _ (I.tok _)
 .refine wpAny_notIn_of d e dd.mapOf ?_
  rw[<-lW (qY (k:=f) c)];exact h _ (I.tok _)
def aOV{Q:V9->S9->Prop}(n:A.units+64 < cLine)(D:DicAt X H a es k kv)(I:Inv X a5 σ H s)(m:bL kv ku)(i:atE es k=some v)(h:∀ w' s',Inv X a5 σ H s'->bL v w'->Q w' s'):wpAny (model X.prog X.w) A (getItem (.ref a) ku) Q E s:=by
 obtain ⟨o,⟨b,xs,rfl,rfl,f,g,dd⟩|⟨l,xs,rfl,rfl,f,g,dd⟩⟩:=D.cases I m
 .have q:=qX (k:=k) f
  rw[i] at q
  obtain ⟨w',d,c⟩:=nY.some_of q
  obtain ⟨p,j,e⟩:=Option.map_eq_some_iff.mp d
  refine wpAny_getItem_heap (nM n) g dd j ?_
  rw[e];exact h w' _ (I.tok _) c
 .have q:=qY (k:=l) f
  rw[i] at q
  obtain ⟨w',d,c⟩:=nY.some_of q
  exact wpAny_getItem_of g dd.mapOf d (h w' _ (I.tok _) c)
def aOW{Q:Unit->S9->Prop}(z:A.units+64 < cLine)(D:DicAt X H a es k kv)(I:Inv X a5 σ H s)(y:bL kv ku)(t:bL v u)(hz:es.length<=sizeLine)(h:∀ ep s',Inv X a5 σ (upd H a (eM X.w a (pH es k kv v) ep)) s'->Q () s') :
  wpAny (model X.prog X.w) A (setItem (.ref a) ku u) Q E s:=by
 obtain ⟨r,⟨b,xs,rfl,rfl,e,n,dd⟩|⟨C,xs,rfl,rfl,e,n,dd⟩⟩:=D.cases I y
 .have i:xs.length<=sizeLine:=by rw[<-Paired.length e];exact hz
  refine wpAny_setItem_heap (hsz:=i) (nM z) n dd fun h' c q=>?_
  obtain ⟨d,ar,ep,f,h2,p,l,_,x⟩:=c
  obtain ⟨g,j⟩:=D.o
  refine h ep _ (oY I (by rw[j];exact True.intro) q ⟨d,f⟩ (lV r ⟨d,ar,f,h2,p,?_⟩))
  rw[l]
  exact sB (aHC t e)
 .have i:xs.length<=sizeLine:=by rw[<-Paired.length e];exact hz
  refine wpAny_setItem_pairs (hsz:=i) n dd fun h' c q=>?_
  obtain ⟨d,ar,ep,f,h2,p,l,x,_⟩:=c
  obtain ⟨g,j⟩:=D.o
  refine h ep _ (oY I (by rw[j];exact True.intro) q ⟨d,f⟩ (lV r ⟨d,ar,f,h2,p,?_⟩))
  exact sC (aHD t e) x fun B m=>l B (by simpa using m)
end
structure Er where
 c:Str
 fs:List (Str×Dz)
inductive R(α:Type) where
 | bad|ok (a:α)|ex (e:Er)
def R.bind{α β:Type}:R α->(α->R β)->R β
 | .bad,_=>.bad
 | .ok a,f=>f a
 | .ex e,_=>.ex e
@[simp] theorem R.bind_ok{α β:Type}(a:α)(f:α->R β):(R.ok a).bind f=f a:=id rfl
@[simp] theorem R.bind_bad{α β:Type}(f:α->R β):(R.bad:R α).bind f=.bad:=id rfl
@[simp] theorem R.bind_ex{α β:Type}(e:Er)(f:α->R β):(R.ex e:R α).bind f=.ex e:=id rfl
inductive A where
 | d (x:Dz)|l (xs:List Dz)|m (a6:List (Dz×Dz))|x (e:Er)|g (k n:Nat) (f:List Dz->R Dz)|k (q:Str)|f (a6:List (Dz×Dz))
abbrev Sg:=List (O9 A)
structure Gb where
 B:Az->Hp->Nat->Nat->(List Dz->R Dz)->Prop
 T:Hp
 w:World
structure Ct where
 K:Frag
 mg:Str->Option V9
 w:World
 F0:Hp
 H0:Hp
 g:Gb
 cells:List (Str×Az)
 cls:Str->Option ClSt
def aCR{w:W9}{p:Az}{es:List Ent}{ep:Nat}{q:Str}(h:eM w p es ep=.cod q):False:=by unfold eM at h;cases h
def cT(H:Hp):aR H H:=fun _ _ h=>h
def cL{H H':Hp}(s:aR H H'){a:Az}(h:H' a=none):H a=none:=by
 cases e:H a with
 | none=>rfl
 | some o=>rw[s a o e] at h;cases h
def pZ(H:Hp)(a:Az):Prop:=H a=none\/∃ q,H a=some (.cod q)
def pZ.back{H H1:Hp}{a:Az}(s:aR H H1)(h:pZ H1 a):pZ H a:=by
 cases e:H a with
 | none=>exact .inl e
 | some o=>
  have e1:=s a o e
  rcases h with z|⟨q,z⟩
  · rw [e1] at z; cases z
  · rw [e1] at z; cases z; exact .inr ⟨q, e⟩
structure Ext(F H F' H':Hp):Prop where
 hh:aR H H'
 ff:aR F F'
 fh:aR F' H'
 nw:∀ a,F a=none->F' a≠none->pZ H a
def Ext.refl{F H:Hp}(h:aR F H):Ext F H F H:=⟨cT H,cT F,h,fun a e n=>absurd e n⟩
def Ext.trans{F H c H1 d H2:Hp}(a:Ext F H c H1)(b:Ext c H1 d H2):Ext F H d H2:=
 ⟨fun x o e=>b.hh x o (a.hh x o e),fun x o e=>b.ff x o (a.ff x o e),b.fh,fun x e n=>by
  cases q:c x with
  | none=>exact (b.nw x q n).back a.hh
  | some o=>exact a.nw x e (by rw[q];exact fun z=>nomatch z)⟩
def Ext.stay{F H a H':Hp}(s:Ext F H a H'){p:Az}{o:HO}(c:F p=none)(h2:H p=some o)(b:∀ q,o≠.cod q):a p=none:=by
 cases q:a p with
 | none=>rfl
 | some o=>
  rcases s.nw p c (by rw[q];exact fun z=>nomatch z) with z|⟨d,z⟩
  · rw [z] at h2; cases h2
  · rw [z] at h2; cases h2; exact absurd rfl (b _)
def aLN{F H:Hp}{p:Az}{o:HO}(s:aR F H):aR (upd F p o) (upd H p o):=fun a u e=>by
 by_cases q:a=p
 · subst q; rw [bN] at e ⊢; exact e
 · rw [aU q] at e ⊢; exact s a u e
def Ext.new{F H:Hp}{p:Az}{o:HO}(s:aR F H)(b:H p=none):Ext F H (upd F p o) (upd H p o):=
 ⟨aR.upd b,aR.upd (cL s b),aLN s,fun a e n=>by
  by_cases q:a=p
  · subst q; exact .inl b
  · rw [aU q] at n; exact absurd e n⟩
def Ext.own{F H:Hp}{p:Az}{o:HO}(s:aR F H)(b:H p=none):Ext F H F (upd H p o):=
 ⟨aR.upd b,cT F,fun a u e=>by
  rw[aU (bT (s a u e) b)];exact s a u e,fun a e n=>absurd e n⟩
def n6(K:Frag)(mg:Str->O9 V9)(F:Hp)(e:Er)(a C:Az):Prop:=mg e.c=some (.ref C)/\∃ od,F a=some (ExO a C od)/\((e.fs=[]/\od=none)\/∃ d fvs,od=some d/\F d=some (.xd fvs)/\fvs.map (·.1)=e.fs.map (·.1)/\DatVs K F (fvs.map (·.2)) (e.fs.map (·.2)))
def n6.same{K:Frag}{mg:Str->O9 V9}{F b:Hp}{e:Er}{a C:Az}(s:aR F b)(h:n6 K mg F e a C):n6 K mg b e a C:=by
 obtain ⟨m,od,h1,h2⟩:=h
 refine ⟨m,od,s _ _ h1,h2.imp id ?_⟩
 rintro ⟨d,fvs,e1,e2,e3,e4⟩
 exact ⟨d,fvs,e1,s _ _ e2,e3,e4.same s⟩
structure MapRel(K:Frag)(F:Hp)(es:List Ent)(a6:List (Dz×Dz)):Prop where
 k1:es.map (·.1)=a6.map (·.1)
 k2:DatVs K F (es.map (·.2.1)) (a6.map (·.1))
 vs:DatVs K F (es.map (·.2.2)) (a6.map (·.2))
 nd:(a6.map (·.1)).Nodup
def MapRel.same{K:Frag}{F b:Hp}{es:List Ent}{a:List (Dz×Dz)}(s:aR F b)(h:MapRel K F es a):MapRel K b es a:=⟨h.k1,h.k2.same s,h.vs.same s,h.nd⟩
def AF(g:Gb)(K:Frag)(mg:Str->O9 V9)(F:Hp):A->V->Prop
 | .d x,v=>DatV K F v x
 | .x e,v=>∃ a C,v=.ref a/\n6 K mg F e a C
 | .g k n G,v=>∃ f F1,v=.ref f/\aR F1 F/\g.B f F1 k n G
 | .f a6,v=>∃ p es,v=.ref p/\(∃ ep,F p=some (eM g.w p es ep))/\MapRel K F es a6
 | _,_=>False
theorem AF.same{g:Gb}{K:Frag}{mg:Str->O9 V9}{F F':Hp}(s:aR F F'):∀ {a:A} {v:V},AF g K mg F a v->AF g K mg F' a v
 | .d x,v,h=>DatV.same s h
 | .x e,v,⟨a,C,h1,h2⟩=>⟨a,C,h1,h2.same s⟩
 | .g k n G,v,⟨f,F1,h1,h2,h3⟩=>⟨f,F1,h1,fun a o z=>s a o (h2 a o z),h3⟩
 | .f a6,v,⟨p,es,h1,⟨ep,h2⟩,h3⟩=>⟨p,es,h1,⟨ep,s _ _ h2⟩,h3.same s⟩
def A.own:A->Bool
 | .l _=>true
 | .m _=>true
 | _=>false
def AO(c:Ct)(F H:Hp):A->V->Prop
 | .l xs,v=>∃ p vs,v=.ref p/\H p=some (.lst vs)/\F p=none/\c.H0 p=none/\DatVs c.K F vs xs
 | .m a6,v=>∃ p es,v=.ref p/\(∃ ep,H p=some (eM c.w p es ep))/\F p=none/\c.H0 p=none/\MapRel c.K F es a6
 | .k q,v=>∃ S f cl doc pm cc ct,c.cls q=some S/\v=.ref f/\F f=some (FnO f (S.obj cl doc pm cc ct))/\F cc=some (.cod S.qual)/\ClOf c.cells S.scope cl
 | a,v=>AF c.g c.K c.mg F a v
theorem AO.ext{c:Ct}{F H b H':Hp}(s:Ext F H b H'):∀ {a:A} {v:V},AO c F H a v->AO c b H' a v
 | .d x,v,h=>DatV.same s.ff h
 | .x e,v,h=>AF.same (g:=c.g) (K:=c.K) (mg:=c.mg) (a:=.x e) s.ff h
 | .g k n G,v,h=>AF.same (g:=c.g) (K:=c.K) (mg:=c.mg) (a:=.g k n G) s.ff h
 | .f a6,v,h=>AF.same (g:=c.g) (K:=c.K) (mg:=c.mg) (a:=.f a6) s.ff h
 | .k q,v,⟨S,f,cl,doc,pm,cc,ct,h0,h1,h2,h3,h4⟩=>⟨S,f,cl,doc,pm,cc,ct,h0,h1,s.ff _ _ h2,s.ff _ _ h3,h4⟩
 | .l xs,v,⟨p,vs,h1,h2,h3,h4,h5⟩=>⟨p,vs,h1,s.hh _ _ h2,s.stay h3 h2 (fun _ z=>nomatch z),h4,h5.same s.ff⟩
 | .m a6,v,⟨p,vs,h1,⟨ep,h2⟩,h3,h4,h5⟩=>⟨p,vs,h1,⟨ep,s.hh _ _ h2⟩,s.stay h3 h2 (fun _ z=>aCR z),h4,h5.same s.ff⟩
def AO.at{c:Ct}{F H:Hp}{a:A}{v:V}(h:AO c F H a v)(o:a.own=true):∃ p o,v=.ref p/\H p=some o/\F p=none/\c.H0 p=none:=by
 cases a with
 | l xs=>obtain ⟨p,vs,h1,h2,b,i,j⟩:=h;exact ⟨p,_,h1,h2,b,i⟩
 | m xs=>obtain ⟨p,vs,h1,⟨ep,h2⟩,b,i,j⟩:=h;exact ⟨p,_,h1,h2,b,i⟩
 | d x=>cases o
 | x e=>cases o
 | g k n f=>cases o
 | k S=>cases o
 | f S=>cases o
theorem AO.off{c:Ct}{F H:Hp}{p:Az}{o:HO}:∀ {a:A} {v:V},AO c F H a v->v≠.ref p->AO c F (upd H p o) a v
 | .l xs,v,⟨q,vs,h1,h2,h3,h4,h5⟩,n=>⟨q,vs,h1,by rw[aU (fun z=>n (by rw[h1,z]))];exact h2,h3,h4,h5⟩
 | .m xs,v,⟨q,vs,h1,⟨ep,h2⟩,h3,h4,h5⟩,n=>⟨q,vs,h1,⟨ep,by rw[aU (fun z=>n (by rw[h1,z]))];exact h2⟩,h3,h4,h5⟩
 | .d x,v,h,_=>h
 | .x e,v,h,_=>h
 | .g k n G,v,h,_=>h
 | .k S,v,h,_=>h
 | .f S,v,h,_=>h
structure Ab(c:Ct)(ρ:Sg)(σ:L2.St)(F H:Hp):Prop where
 len:ρ.length=σ.length
 fh:aR F H
 slot:∀ (i:Nat) (a:A),ρ[i]? = some (some a)->∃ v,σ[i]? = some (some v)/\AO c F H a v
 apart:∀ (i j:Nat) (a b:A),i≠j->ρ[i]? = some (some a)->ρ[j]? = some (some b)->a.own=true->b.own=true->σ[i]? ≠ σ[j]?
 f0:aR c.F0 F
 h0:aR c.H0 H
 n0:∀ a,c.F0 a=none->F a≠none->pZ c.H0 a
 t0:aR c.g.T c.F0
def Ab.all{c:Ct}{ρ:Sg}{σ:L2.St}{F H:Hp}(b:Ab c ρ σ F H):Ext c.F0 c.H0 F H:=⟨b.h0,b.f0,b.fh,b.n0⟩
def Ab.ext{c:Ct}{ρ:Sg}{σ:L2.St}{F H d H':Hp}(b:Ab c ρ σ F H)(e:Ext F H d H'):Ab c ρ σ d H' where
 len:=b.len
 fh:=e.fh
 slot:=fun i a h=>let ⟨v,h1,h2⟩:=b.slot i a h;⟨v,h1,h2.ext e⟩
 apart:=b.apart
 f0:=fun x o h=>e.ff x o (b.f0 x o h)
 h0:=fun x o h=>e.hh x o (b.h0 x o h)
 n0:=fun a h n=>by
  cases q:F a with
  | none=>exact (e.nw a q n).back b.h0
  | some o=>exact b.n0 a h (by rw[q];exact fun z=>nomatch z)
 t0:=b.t0
def XW(c:Ct)(E:XK)(e:Er):Prop:=∀ a C F' H',Ext c.F0 c.H0 F' H'->n6 c.K c.mg F' e a C->E (.ref C) (some a) H'
def Rk{α:Type}(c:Ct)(E:XK)(F H:Hp)(r:R α)(k:α->Prop):Prop:=match r with
 | .bad=>False
 | .ok a=>k a
 | .ex e=>XW c E e
abbrev VR(α:Type):=α->V->Hp->Hp->Hp->Prop
def tV{α:Type}(Rel:VR α)(c:Ct)(E:XK)(f:Sg->R α):TE:=fun σ H Q=>∃ ρ F,Ab c ρ σ F H/\Rk c E F H (f ρ) fun d=>∀ v F' H',Ext F H F' H'->Rel d v H F' H'->Q v H'
def dC(c:Ct):VR Dz:=fun d v _ F _=>DatV c.K F v d
def bG(K:Frag)(F H:Hp)(v:V)(d:Dz):Prop:=DatV K F v d\/∃ p vs xs,v=.ref p/\d=.list xs/\H p=some (.lst vs)/\DatVs K F vs xs
def bO(c:Ct):VR Dz:=fun d v _ F H=>bG c.K F H v d
def aLO(c:Ct):VR A:=fun a v _ F _=>AF c.g c.K c.mg F a v
def aCS(c:Ct):VR (List Dz):=fun xs v H F H'=>∃ p vs,v=.ref p/\H p=none/\H' p=some (.lst vs)/\F p=none/\DatVs c.K F vs xs
abbrev PD(X:Cx)(c:Ct)(E:XK)(e:E3)(f:Sg->R Dz):Prop:=PE X e (tV (dC c) c E f)
abbrev PR(X:Cx)(c:Ct)(E:XK)(e:E3)(f:Sg->R Dz):Prop:=PE X e (tV (bO c) c E f)
abbrev PV(X:Cx)(c:Ct)(E:XK)(e:E3)(f:Sg->R A):Prop:=PE X e (tV (aLO c) c E f)
abbrev PN(X:Cx)(c:Ct)(E:XK)(e:E3)(f:Sg->R (List Dz)):Prop:=PE X e (tV (aCS c) c E f)
def PE.imp{X:Cx}{e:E3}{t t':TE}(h:PE X e t)(i:∀ σ H Q,t' σ H Q->t σ H Q):PE X e t':=fun a5 s σ H Q I q=>h a5 s σ H Q I (i σ H Q q)
def PT.imp{X:Cx}{e:E3}{t t':TT}(h:PT X e t)(i:∀ σ H Q,t' σ H Q->t σ H Q):PT X e t':=fun a5 s σ H Q I q=>h a5 s σ H Q I (i σ H Q q)
def PS.imp{X:Cx}{e:Stmt}{t t':TS}(h:PS X e t)(i:∀ D σ H,t' D σ H->t D σ H):PS X e t':=fun a5 s σ H D I q=>h a5 s σ H D I (i D σ H q)
def PSs.imp{X:Cx}{e:List Stmt}{t t':TS}(h:PSs X e t)(i:∀ D σ H,t' D σ H->t D σ H):PSs X e t':=fun a5 s σ H D I q=>h a5 s σ H D I (i D σ H q)
def aNH{α:Type}(Rel:VR α):Prop:=∀ d v H F H1 F2 H2,Ext F H1 F2 H2->Rel d v H F H1->Rel d v H F2 H2
def bG.ext{K:Frag}{F H a H':Hp}{v:V}{d:Dz}(e:Ext F H a H')(h:bG K F H v d):bG K a H' v d:=by
 rcases h with h|⟨p,vs,xs,h1,h2,b,c⟩
 · exact .inl (h.same e.ff)
 · exact .inr ⟨p, vs, xs, h1, h2, e.hh _ _ b, c.same e.ff⟩
def xV(c:Ct):aNH (bO c):=fun d v H F H1 a H2 e h=>bG.ext e h
def bG.heap{K:Frag}{F H:Hp}{v:V}{d:Dz}(s:aR F H)(h:bG K F H v d):DatV K H v d:=by
 rcases h with h|⟨p,vs,xs,h1,h2,a,b⟩
 · exact h.same s
 · subst h1 h2; exact .lst (SqL.of a) (b.same s)
section
variable{X:Cx}{c:Ct}{E:XK}{α β γ:Type}{Ra:VR α}{Rb:VR β}{Rc:VR γ}{σ:L2.St}{H:Hp}{Q:VK}
def Rk.ok{F:Hp}{a:α}{k:α->Prop}(h:Rk c E F H (.ok a) k):k a:=h
def Rk.imp{F:Hp}{r:R α}{k b:α->Prop}(h:Rk c E F H r k)(i:∀ a,r=.ok a->k a->b a):Rk c E F H r b:=by
 cases r with
 | bad=>exact h
 | ok a=>exact i a rfl h
 | ex e=>exact h
def Rk.bind{F:Hp}{r:R α}{f:α->R β}{k:β->Prop}(h:Rk c E F H (r.bind f) k):Rk c E F H r fun a=>Rk c E F H (f a) k:=by
 cases r with
 | bad=>exact h
 | ok a=>exact h
 | ex e=>exact h
def Rk.ext{F b H':Hp}{r:R α}{k:α->Prop}(e:Ext F H b H')(h:Rk c E F H r k):Rk c E b H' r k:=by
 cases r with
 | bad=>exact h
 | ok a=>exact h
 | ex x=>exact h
end
def aCT{α:Type}(Rel:VR α):Prop:=∀ d v H H1 F' H',aR H H1->Rel d v H1 F' H'->Rel d v H F' H'
def mE(c:Ct):aCT (dC c):=fun _ _ _ _ _ _ _ h=>h
def aUI(c:Ct):aCT (aCS c):=fun _ _ _ _ _ _ s h=>by
 obtain ⟨p,vs,h1,h2,a⟩:=h
 exact ⟨p,vs,h1,cL s h2,a⟩
section
variable{X:Cx}{c:Ct}{E:XK}{α β γ:Type}{Ra:VR α}{Rb:VR β}{Rc:VR γ}
def Op1(c:Ct)(Ra:VR α)(Rb:VR β)(g:α->R β)(r:V->Hp->VK->Prop):Prop:=
 ∀ (H0 F H:Hp) (a:α) (b:β) (v:V) (Q:VK),aR F H->Ra a v H0 F H->g a=.ok b->(∀ w F' H',Ext F H F' H'->Rb b w H F' H'->Q w H')->r v H Q
def Op2(c:Ct)(Ra:VR α)(Rb:VR β)(Rc:VR γ)(g:α->β->R γ)(r:R2):Prop:=
 ∀ (H0 H1 F H:Hp) (a:α) (b:β) (d:γ) (v u:V) (Q:VK),aR F H->Ra a v H0 F H->Rb b u H1 F H->g a b=.ok d->(∀ w F' H',Ext F H F' H'->Rc d w H F' H'->Q w H')->r v u H Q
def mF(g:α->R β):Prop:=∀ a e,g a≠.ex e
def dZ(g:α->β->R γ):Prop:=∀ a b e,g a b≠.ex e
def tV1{f:Sg->R α}{g:α->R β}{r:V->Hp->VK->Prop}(o:Op1 c Ra Rb g r)(m:mF g)(k:aCT Rb){σ:L2.St}{H:Hp}{Q:VK}(h:tV Rb c E (fun ρ=>(f ρ).bind g) σ H Q) :
  tV Ra c E f σ H fun v H1=>r v H1 Q:=by
 obtain ⟨ρ,F,ab,h⟩:=h
 refine ⟨ρ,F,ab,(Rk.bind h).imp fun a p q v n H1 e1 j=>?_⟩
 cases d:g a with
 | bad=>rw[d] at q;exact q.elim
 | ex e=>exact absurd d (m a e)
 | ok b=>
  rw[d] at q
  exact o H n H1 a b v Q e1.fh j d fun w l H' e2 i=>q w l H' (e1.trans e2) (k _ _ _ _ _ _ e1.hh i)
def tV2{f:Sg->R α}{k:Sg->R β}{g:α->β->R γ}{r:R2}(s:Op2 c Ra Rb Rc g r)(B:dZ g)(n:aNH Ra)(l:aCT Rc){σ:L2.St}{H:Hp}{Q:VK}(h:tV Rc c E (fun ρ=>(f ρ).bind fun a=>(k ρ).bind fun b=>g a b) σ H Q) :
  tOp r (tV Ra c E f) (tV Rb c E k) σ H Q:=by
 obtain ⟨ρ,F,ab,h⟩:=h
 refine ⟨ρ,F,ab,(Rk.bind h).imp fun a G q v p H1 e1 t=>?_⟩
 refine ⟨ρ,p,ab.ext e1,((Rk.bind q).ext e1).imp fun b D q u m H2 e2 A=>?_⟩
 cases i:g a b with
 | bad=>rw[i] at q;exact q.elim
 | ex e=>exact absurd i (B a b e)
 | ok d=>
  rw[i] at q
  exact s H H1 m H2 a b d v u Q e2.fh (n _ _ _ _ _ _ _ e2 t) A i fun w y H' C j=>q w y H' ((e1.trans e2).trans C) (l _ _ _ _ _ _ (fun x o z=>e2.hh x o (e1.hh x o z)) j)
end
section
variable{K:Frag}{F H:Hp}{v:V}
def DatV.bl_of{b:Bool}(h:DatV K H v (.bool b)):v=.bl b:=by cases h;rfl
def DatV.non_of(h:DatV K H v .none):v=.non:=by cases h;rfl
def bG.int_of{i:Int}(h:bG K F H v (.int i)):v=.int i:=by
 rcases h with h|⟨_,_,_,_,h,_⟩
 · exact h.int_of
 · cases h
def bG.str_of{i:Str}(h:bG K F H v (.str i)):v=.str i:=by
 rcases h with h|⟨_,_,_,_,h,_⟩
 · exact h.str_of
 · cases h
def bG.bl_of{i:Bool}(h:bG K F H v (.bool i)):v=.bl i:=by
 rcases h with h|⟨_,_,_,_,h,_⟩
 · exact DatV.bl_of h
 · cases h
def bG.non_of(h:bG K F H v .none):v=.non:=by
 rcases h with h|⟨_,_,_,_,h,_⟩
 · exact DatV.non_of h
 · cases h
def bG.tup_of{xs:List Dz}(s:aR F H)(h:bG K F H v (.tuple xs)):∃ a vs,v=.ref a/\SqT K F a vs/\SqT K H a vs/\DatVs K F vs xs:=by
 rcases h with h|⟨_,_,_,_,h,_⟩
 .obtain ⟨a,vs,h1,h2,b⟩:=h.tup_of
  exact ⟨a,vs,h1,h2,h2.same s,b⟩
 .cases h
def bG.lst_of{xs:List Dz}(s:aR F H)(h:bG K F H v (.list xs)):∃ a vs,v=.ref a/\SqL K H a vs/\DatVs K F vs xs:=by
 rcases h with h|⟨p,vs,ys,h1,h2,b,c⟩
 .obtain ⟨a,vs,h1,h2,b⟩:=h.lst_of
  exact ⟨a,vs,h1,h2.same s,b⟩
 .cases h2
  exact ⟨p,vs,h1,SqL.of b,c⟩
def aCU{vs:List V}{xs:List Dz}{i:Int}{d:Dz}(h:DatVs K F vs xs)(e:atI xs i=some d):∃ x,atI vs i=some x/\DatV K F x d:=by
 unfold atI at e ⊢
 rw[h.length]
 cases q:ixN xs.length i with
 | none=>rw[q] at e;cases e
 | some j=>
  rw[q] at e
  exact h.get' (i:=j) e
end
def eV(i:Nat):Sg->R Dz:=fun ρ=>match ρ[i]? with
 | some (some (.d x))=>.ok x
 | _=>.bad
def rV(i:Nat):Sg->R Dz:=fun ρ=>match ρ[i]? with
 | some (some (.d x))=>.ok x
 | some (some (.l xs))=>.ok (.list xs)
 | _=>.bad
def vV(i:Nat):Sg->R A:=fun ρ=>match ρ[i]? with
 | some (some (.d x))=>.ok (.d x)
 | some (some (.x e))=>.ok (.x e)
 | some (some (.g k n f))=>.ok (.g k n f)
 | some (some (.f a6))=>.ok (.f a6)
 | _=>.bad
def eC(d:Dz):Sg->R Dz:=fun _=>.ok d
section
variable{X:Cx}{c:Ct}{E:XK}{e a b:E3}
def bH{i:Nat}(h:PE X e (l8 i)):PD X c E e (eV i):=PE.imp h fun σ H Q ⟨ρ,F,ab,k⟩=>by
 unfold eV at k
 split at k
 .rename_i x a
  obtain ⟨v,h1,h2⟩:=ab.slot i _ a
  exact ⟨v,h1,k v F H (Ext.refl ab.fh) h2⟩
 .exact k.elim
def aC{i:Nat}(h:PE X e (l8 i)):PR X c E e (rV i):=PE.imp h fun σ H Q ⟨ρ,F,ab,k⟩=>by
 unfold rV at k
 split at k
 .rename_i x a
  obtain ⟨v,h1,h2⟩:=ab.slot i _ a
  exact ⟨v,h1,k v F H (Ext.refl ab.fh) (.inl h2)⟩
 .rename_i x a
  obtain ⟨v,h1,p,vs,h2,b,f,g,d⟩:=ab.slot i _ a
  exact ⟨v,h1,k v F H (Ext.refl ab.fh) (.inr ⟨p,vs,x,h2,rfl,b,d⟩)⟩
 .exact k.elim
def aS{i:Nat}(h:PE X e (l8 i)):PV X c E e (vV i):=PE.imp h fun σ H Q ⟨ρ,F,ab,k⟩=>by
 unfold vV at k
 split at k
 .rename_i x a
  obtain ⟨v,h1,h2⟩:=ab.slot i _ a
  exact ⟨v,h1,k v F H (Ext.refl ab.fh) h2⟩
 .rename_i x a
  obtain ⟨v,h1,h2⟩:=ab.slot i _ a
  exact ⟨v,h1,k v F H (Ext.refl ab.fh) h2⟩
 .rename_i g d f a
  obtain ⟨v,h1,h2⟩:=ab.slot i _ a
  exact ⟨v,h1,k v F H (Ext.refl ab.fh) h2⟩
 .rename_i b a
  obtain ⟨v,h1,h2⟩:=ab.slot i _ a
  exact ⟨v,h1,k v F H (Ext.refl ab.fh) h2⟩
 .exact k.elim
def jJ{v:V}{d:Dz}(h:PE X e (tC v))(a:∀ F,DatV c.K F v d):PD X c E e (eC d):=PE.imp h fun σ H Q ⟨ρ,F,ab,k⟩=>k v F H (Ext.refl ab.fh) (a F)
def aF{i j pos}:PD X c E (.Constant (.int i) j pos) (eC (.int i)):=jJ aQ4 fun _=>.int i
def iW{i j pos}:PD X c E (.Constant (.bool i) j pos) (eC (.bool i)):=jJ aT3 fun _=>.bl i
def dH{i j pos}:PD X c E (.Constant (.str i) j pos) (eC (.str i)):=jJ aB7 fun _=>.str i
def tW{j pos}:PD X c E (.Constant .none j pos) (eC .none):=jJ aQ5 fun _=>.non
def aA{f:Sg->R Dz}(h:PD X c E e f):PR X c E e f:=PE.imp h fun σ H Q ⟨ρ,F,ab,k⟩=>⟨ρ,F,ab,k.imp fun d _ q v a H' s r=>q v a H' s (.inl r)⟩
def vD(f:Sg->R Dz):Sg->R A:=fun ρ=>(f ρ).bind fun x=>.ok (.d x)
def aP{f:Sg->R Dz}(h:PD X c E e f):PV X c E e (vD f):=PE.imp h fun σ H Q ⟨ρ,F,ab,k⟩=>⟨ρ,F,ab,(Rk.bind k).imp fun d _ q v a H' s r=>Rk.ok q v a H' s r⟩
def getD:A->R Dz
 | .d x=>.ok x
 | _=>.bad
def eA(f:Sg->R A):Sg->R Dz:=fun ρ=>(f ρ).bind getD
def cR{f:Sg->R A}(h:PV X c E e f):PD X c E e (eA f):=PE.imp h fun σ H Q ⟨ρ,F,ab,k⟩=>⟨ρ,F,ab,(Rk.bind k).imp fun d _ q v a H' s r=>by
 cases d with
 | d x=>exact Rk.ok q v a H' s r
 | _=>exact False.elim q⟩
def eL(f:Sg->R (List Dz)):Sg->R Dz:=fun ρ=>(f ρ).bind fun xs=>.ok (.list xs)
def dI{f:Sg->R (List Dz)}(h:PN X c E e f):PD X c E e (eL f):=PE.imp h fun σ H Q ⟨ρ,F,ab,k⟩=>⟨ρ,F,ab,(Rk.bind k).imp fun xs _ q v d H' s r=>by
 obtain ⟨p,vs,h1,h2,g,b,i⟩:=r
 subst h1
 refine Rk.ok q (.ref p) (upd d p (.lst vs)) H' ⟨s.hh,fun a o z=>?_,fun a o z=>?_,fun a z n=>?_⟩ (.lst (SqL.of bN) (i.same (aR.upd b)))
 .rw[aU (bT (s.ff a o z) b)];exact s.ff a o z
 .by_cases w:a=p
  · subst w; rw [bN] at z; rw [g]; exact z
  · rw [aU w] at z; exact s.fh a o z
 .by_cases w:a=p
  · subst w; exact .inl h2
  · rw [aU w] at n; exact s.nw a z n⟩
def e1{α β:Type}(g:α->R β)(f:Sg->R α):Sg->R β:=fun ρ=>(f ρ).bind g
def e2{α β γ:Type}(g:α->β->R γ)(f:Sg->R α)(f':Sg->R β):Sg->R γ:=fun ρ=>(f ρ).bind fun x=>(f' ρ).bind fun y=>g x y
def cI:Dz->Dz->R Dz
 | .int i,.int j=>.ok (.int (i+j))
 | .str x,.str y=>if x.length+y.length<=sizeLine then .ok (.str (x++y)) else .bad
 | .tuple xs,.tuple ys=>if xs.isEmpty=false/\xs.length+ys.length<=sizeLine then .ok (.tuple (xs++ys)) else .bad
 | _,_=>.bad
def dSub:Dz->Dz->R Dz
 | .int i,.int j=>.ok (.int (i - j))
 | _,_=>.bad
def dMul:Dz->Dz->R Dz
 | .int i,.int j=>if (-18446744073709551616 < i/\i < 18446744073709551616)\/(-18446744073709551616 < j/\j < 18446744073709551616) then .ok (.int (i * j)) else .bad
 | _,_=>.bad
def dDiv:Dz->Dz->R Dz
 | .int i,.int j=>if 0 < j/\j < 18446744073709551616 then .ok (.int (i / j)) else .bad
 | _,_=>.bad
def dMod:Dz->Dz->R Dz
 | .int i,.int j=>if 0 < j then .ok (.int (i % j)) else .bad
 | _,_=>.bad
def dNeg:Dz->R Dz
 | .int i=>.ok (.int (-i))
 | _=>.bad
def dLt:Dz->Dz->R Dz
 | .int i,.int j=>.ok (.bool (decide (i < j)))
 | _,_=>.bad
def dLe:Dz->Dz->R Dz
 | .int i,.int j=>.ok (.bool (decide (i<=j)))
 | _,_=>.bad
def dGt:Dz->Dz->R Dz
 | .int i,.int j=>.ok (.bool (decide (j < i)))
 | _,_=>.bad
def dGe:Dz->Dz->R Dz
 | .int i,.int j=>.ok (.bool (decide (j<=i)))
 | _,_=>.bad
def dEq(x y:Dz):R Dz:=if SeqAt.shaped x=true/\SeqAt.shaped y=true then .ok (.bool (PyData.eqv x y)) else .bad
def dNe(x y:Dz):R Dz:=if SeqAt.shaped x=true/\SeqAt.shaped y=true then .ok (.bool (!PyData.eqv x y)) else .bad
def j8:Dz->Bool
 | .none=>true
 | _=>false
def dIs(x y:Dz):R Dz:=if j8 y=true then .ok (.bool (j8 x)) else .bad
def dIsnt(x y:Dz):R Dz:=if j8 y=true then .ok (.bool (!j8 x)) else .bad
def inD:Dz->Dz->O9 Bool
 | .str i,.str j=>some (!(Builtin.Str.occurrences j i 0 j.length 1).isEmpty)
 | x,.list xs=>if SeqAt.shaped x=true/\SeqAt.shaped (.list xs)=true then some (xs.any fun y=>PyData.eqv y x) else none
 | x,.tuple xs=>if SeqAt.shaped x=true/\SeqAt.shaped (.tuple xs)=true then some (xs.any fun y=>PyData.eqv y x) else none
 | _,_=>none
def dIn(x y:Dz):R Dz:=match inD x y with
 | some b=>.ok (.bool b)
 | none=>.bad
def dIx:Dz->Dz->R Dz
 | .list xs,.int i=>match atI xs i with
  | some v=>.ok v
  | none=>.bad
 | .tuple xs,.int i=>match atI xs i with
  | some v=>.ok v
  | none=>.bad
 | .str z,.int i=>if z.length<=sizeLine then match atI z.cps.toList i with
  | some u=>.ok (.str ⟨#[u]⟩)
  | none=>.bad else .bad
 | _,_=>.bad
end
section
variable{X:Cx}{c:Ct}{E:XK}{e a b:E3}{α β γ:Type}{Ra:VR α}{Rb:VR β}{Rc:VR γ}{pos:Pos}
def r2D(Ra:VR α)(Rb:VR β)(Rc:VR γ)(g:α->β->R γ):R2:=fun v u H Q=>∃ H0 H1 F a b d,aR F H/\Ra a v H0 F H/\Rb b u H1 F H/\g a b=.ok d/\∀ w F' H',Ext F H F' H'->Rc d w H F' H'->Q w H'
def r1D(Ra:VR α)(Rb:VR β)(g:α->R β):V->Hp->VK->Prop:=fun v H Q=>∃ H0 F a b,aR F H/\Ra a v H0 F H/\g a=.ok b/\∀ w F' H',Ext F H F' H'->Rb b w H F' H'->Q w H'
def aBZ{g:α->β->R γ}:Op2 c Ra Rb Rc g (r2D Ra Rb Rc g):=fun h H1 F H a b d v u Q f i e j q=>⟨h,H1,F,a,b,d,f,i,e,j,q⟩
def sH{g:α->R β}:Op1 c Ra Rb g (r1D Ra Rb g):=fun e F H a b v Q d f h q=>⟨e,F,a,b,d,f,h,q⟩
def aW{e:Operator}{g:Dz->Dz->R Dz}{d fb:Sg->R Dz}(j:OpR X (binaryOp e) (r2D (bO c) (bO c) (dC c) g))(k:dZ g)(f:PR X c E a d)(i:PR X c E b fb):PD X c E (.BinOp a e b pos) (e2 g d fb):=
 PE.imp (aT7 j f i) fun σ H Q h=>tV2 aBZ k (xV c) (mE c) h
def xW{d:UnaryOp}{g:Dz->R Dz}{b:Sg->R Dz}(f:UnR X (unaryOp d) (r1D (bO c) (dC c) g))(i:mF g)(e:PR X c E a b):PD X c E (.UnaryOp d a pos) (e1 g b):=
 PE.imp (aT8 f e) fun σ H Q h=>tV1 sH i (mE c) h
def jV{d:CmpOp}{g:Dz->Dz->R Dz}{e fb:Sg->R Dz}(k:OpR X (compareOp d) (r2D (bO c) (bO c) (dC c) g))(l:dZ g)(f:PR X c E a e)(j:PR X c E b fb)(i:behindInMarks d b=false):PD X c E (.Compare a [d] [b] pos) (e2 g e fb):=
 PE.imp (aN4 k f j i) fun σ H Q h=>tV2 aBZ l (xV c) (mE c) h
def aX{g:Dz->Dz->R Dz}{d fb:Sg->R Dz}(j:IxR X (r2D (bO c) (bO c) (dC c) g))(k:dZ g)(e:PR X c E a d)(f:PR X c E b fb)(i:aE9 b:=by exact fun _ _=>rfl):PD X c E (.Subscript a b pos) (e2 g d fb):=
 PE.imp (L2.aUF j e f i) fun σ H Q h=>tV2 aBZ k (xV c) (mE c) h
def dB(B:X.K=c.K):OpR X (binaryOp .Add) (r2D (bO c) (bO c) (dC c) cI):=by
 intro a5 s σ H v u x y Q I m n h
 obtain ⟨G,H1,F,a,b,d,f,o,l,e,q⟩:=h
 unfold cI at e
 split at e
 .rename_i i j
  cases e
  obtain rfl:=bG.int_of o
  obtain rfl:=bG.int_of l
  exact aRG a5 s σ H _ _ x y Q I m n ⟨i,j,rfl,rfl,q _ F H (Ext.refl f) (.int _)⟩
 .rename_i i j
  split at e
  .rename_i g
   cases e
   obtain rfl:=bG.str_of o
   obtain rfl:=bG.str_of l
   exact aGX a5 s σ H _ _ x y Q I m n ⟨i,j,rfl,rfl,g,q _ F H (Ext.refl f) (.str _)⟩
  .cases e
 .rename_i xs ys
  split at e
  .rename_i g
   cases e
   obtain ⟨D,vs,rfl,E,t,k⟩:=bG.tup_of f o
   obtain ⟨C,us,rfl,J,A,r⟩:=bG.tup_of f l
   rw[<-B] at t A
   refine aOB a5 s σ H _ _ x y Q I m n ⟨D,C,vs,us,rfl,rfl,t,A,?_,by rw[k.length,r.length];exact g.2,fun z=>?_,fun z p w=>?_⟩
   .intro z;subst z;obtain rfl:xs=[]:=by cases k;rfl
    exact absurd g.1 (by decide)
   .subst z
    obtain rfl:ys=[]:=by cases r;rfl
    exact q _ F H (Ext.refl f) (by rw[DP];exact .tup E k)
   .exact q _ _ _ (Ext.new f w) (.tup (SqT.of bN) ((k.append r).same (aR.upd (cL f w))))
  .cases e
 .cases e
def cE:dZ cI:=by
 intro a b e h
 unfold cI at h
 split at h<;>(try split at h)<;>cases h
def nN{f:V9->V9->Sem V9}{g:Dz->Dz->R Dz}{C:Int->Int->Prop}{k:Int->Int->Dz}{kv:Int->Int->V}(m:OpR X f (rI C kv))(w:∀ i j F,DatV c.K F (kv i j) (k i j))
  (p:∀ a b d,g a b=.ok d->∃ i j,a=.int i/\b=.int j/\C i j/\d=k i j):OpR X f (r2D (bO c) (bO c) (dC c) g):=by
 intro a5 s σ H v u x y Q I o t h
 obtain ⟨A,H1,F,a,b,d,r,z,e,n,q⟩:=h
 obtain ⟨i,j,rfl,rfl,l,rfl⟩:=p a b d n
 obtain rfl:=bG.int_of z
 obtain rfl:=bG.int_of e
 exact m a5 s σ H _ _ x y Q I o t ⟨i,j,rfl,rfl,l,q _ F H (Ext.refl r) (w i j F)⟩
def xX{f:V9->V9->Sem V9}{kv:Int->Int->V}(a:OpR X f (rI0 kv)):OpR X f (rI (fun _ _=>True) kv):=fun a5 s σ H x y v u Q I c b ⟨i,j,h1,h2,_,q⟩=>a a5 s σ H x y v u Q I c b ⟨i,j,h1,h2,q⟩
def o0:OpR X (binaryOp .Sub) (r2D (bO c) (bO c) (dC c) dSub):=nN (xX aRH) (fun _ _ _=>.int _) fun a b d h=>by
 unfold dSub at h;split at h
 · cases h; exact ⟨_, _, rfl, rfl, trivial, rfl⟩
 · cases h
def kS:OpR X (binaryOp .Mult) (r2D (bO c) (bO c) (dC c) dMul):=nN aRI (fun _ _ _=>.int _) fun a b d h=>by
 unfold dMul at h;split at h
 .split at h
  · rename_i e; cases h; exact ⟨_, _, rfl, rfl, e, rfl⟩
  · cases h
 .cases h
def hV:OpR X (binaryOp .FloorDiv) (r2D (bO c) (bO c) (dC c) dDiv):=nN aLD (fun _ _ _=>.int _) fun a b d h=>by
 unfold dDiv at h;split at h
 .split at h
  · rename_i e; cases h; exact ⟨_, _, rfl, rfl, e, rfl⟩
  · cases h
 .cases h
def dE:OpR X (binaryOp .Mod) (r2D (bO c) (bO c) (dC c) dMod):=nN aRJ (fun _ _ _=>.int _) fun a b d h=>by
 unfold dMod at h;split at h
 .split at h
  · rename_i e; cases h; exact ⟨_, _, rfl, rfl, e, rfl⟩
  · cases h
 .cases h
def qZ:OpR X (compareOp .Lt) (r2D (bO c) (bO c) (dC c) dLt):=nN (xX aT9) (fun _ _ _=>.bl _) fun a b d h=>by
 unfold dLt at h;split at h
 · cases h; exact ⟨_, _, rfl, rfl, trivial, rfl⟩
 · cases h
def aCV:OpR X (compareOp .LtE) (r2D (bO c) (bO c) (dC c) dLe):=nN (xX aUA) (fun _ _ _=>.bl _) fun a b d h=>by
 unfold dLe at h;split at h
 · cases h; exact ⟨_, _, rfl, rfl, trivial, rfl⟩
 · cases h
def i7:OpR X (compareOp .Gt) (r2D (bO c) (bO c) (dC c) dGt):=nN (xX aUB) (fun _ _ _=>.bl _) fun a b d h=>by
 unfold dGt at h;split at h
 · cases h; exact ⟨_, _, rfl, rfl, trivial, rfl⟩
 · cases h
def aJA:OpR X (compareOp .GtE) (r2D (bO c) (bO c) (dC c) dGe):=nN (xX aUC) (fun _ _ _=>.bl _) fun a b d h=>by
 unfold dGe at h;split at h
 · cases h; exact ⟨_, _, rfl, rfl, trivial, rfl⟩
 · cases h
def lX:dZ dSub:=by intro a b e h;unfold dSub at h;split at h<;>cases h
def iM:dZ dMul:=by intro a b e h;unfold dMul at h;split at h<;>(try split at h)<;>cases h
def fC:dZ dDiv:=by intro a b e h;unfold dDiv at h;split at h<;>(try split at h)<;>cases h
def cG:dZ dMod:=by intro a b e h;unfold dMod at h;split at h<;>(try split at h)<;>cases h
def mQ:dZ dLt:=by intro a b e h;unfold dLt at h;split at h<;>cases h
def wP:dZ dLe:=by intro a b e h;unfold dLe at h;split at h<;>cases h
def fW:dZ dGt:=by intro a b e h;unfold dGt at h;split at h<;>cases h
def aCW:dZ dGe:=by intro a b e h;unfold dGe at h;split at h<;>cases h
def fK:dZ dEq:=by intro a b e h;unfold dEq at h;split at h<;>cases h
def kE:dZ dNe:=by intro a b e h;unfold dNe at h;split at h<;>cases h
def aCX:dZ dIs:=by intro a b e h;unfold dIs at h;split at h<;>cases h
def aHE:dZ dIsnt:=by intro a b e h;unfold dIsnt at h;split at h<;>cases h
def aCY:dZ dIn:=by intro a b e h;unfold dIn at h;split at h<;>cases h
def nO:mF dNeg:=by intro a e h;unfold dNeg at h;split at h<;>cases h
def aI:dZ dIx:=by
 intro a b e h
 unfold dIx at h
 split at h<;>(try split at h)<;>(try split at h)<;>cases h
def q9:UnR X (unaryOp .USub) (r1D (bO c) (dC c) dNeg):=by
 intro a5 s σ H v x Q I e h
 obtain ⟨j,F,a,d,f,g,b,q⟩:=h
 unfold dNeg at b
 split at b
 .rename_i i
  cases b
  obtain rfl:=bG.int_of g
  exact aRK a5 s σ H _ x Q I e ⟨i,rfl,q _ F H (Ext.refl f) (.int _)⟩
 .cases b
def iN(g:X.K=c.K)(k:X.A.units+64 < cLine):OpR X (compareOp .Eq) (r2D (bO c) (bO c) (dC c) dEq):=by
 intro a5 s σ H v u x y Q I n l h
 obtain ⟨o,H1,F,a,b,d,f,m,j,e,q⟩:=h
 unfold dEq at e
 split at e
 .rename_i i
  cases e
  exact aRU k a5 s σ H _ _ x y Q I n l ⟨a,b,by rw[g];exact bG.heap f m,by rw[g];exact bG.heap f j,i.1,i.2,q _ F H (Ext.refl f) (.bl _)⟩
 .cases e
def nQ(g:X.K=c.K)(k:X.A.units+64 < cLine):OpR X (compareOp .NotEq) (r2D (bO c) (bO c) (dC c) dNe):=by
 intro a5 s σ H v u x y Q I n l h
 obtain ⟨o,H1,F,a,b,d,f,m,j,e,q⟩:=h
 unfold dNe at e
 split at e
 .rename_i i
  cases e
  exact aRV k a5 s σ H _ _ x y Q I n l ⟨a,b,by rw[g];exact bG.heap f m,by rw[g];exact bG.heap f j,i.1,i.2,q _ F H (Ext.refl f) (.bl _)⟩
 .cases e
def p4{K:Frag}{F H:Hp}{v:V}{d:Dz}(h:bG K F H v d):decide (v=.non)=j8 d:=by
 rcases h with h|⟨p,vs,xs,h1,h2,_⟩
 · cases h <;> rfl
 · subst h1 h2; rfl
def aJB:OpR X (compareOp .Is) (r2D (bO c) (bO c) (dC c) dIs):=by
 intro a5 s σ H v u x y Q I g k h
 obtain ⟨m,H1,F,a,b,d,i,l,f,e,q⟩:=h
 unfold dIs at e
 split at e
 .rename_i j
  cases e
  have e2:=p4 f
  rw[j] at e2
  refine aRL a5 s σ H _ _ x y Q I g k ⟨BF e2,q _ F H (Ext.refl i) ?_⟩
  rw[p4 l];exact .bl _
 .cases e
def aLP:OpR X (compareOp .IsNot) (r2D (bO c) (bO c) (dC c) dIsnt):=by
 intro a5 s σ H v u x y Q I g k h
 obtain ⟨m,H1,F,a,b,d,i,l,f,e,q⟩:=h
 unfold dIsnt at e
 split at e
 .rename_i j
  cases e
  have e2:=p4 f
  rw[j] at e2
  refine aN3 a5 s σ H _ _ x y Q I g k ⟨BF e2,q _ F H (Ext.refl i) ?_⟩
  rw[p4 l];exact .bl _
 .cases e
def aHF{xs:List Dz}(h:SeqAt.shaped (.list xs)=true):PyData.canLayAll0 xs=true/\PyData.depthAll xs<=63:=by
 have h':(PyData.canLay0 (.list xs) && decide ((PyData.list xs).depth<=64))=true:=h
 rw[A3] at h'
 have a:PyData.depthAll xs+1<=64:=BF h'.2
 exact ⟨h'.1,by omega⟩
def aEY{xs:List Dz}(h:SeqAt.shaped (.tuple xs)=true):PyData.canLayAll0 xs=true/\PyData.depthAll xs<=63:=by
 have h':(PyData.canLay0 (.tuple xs) && decide ((PyData.tuple xs).depth<=64))=true:=h
 rw[A3] at h'
 have a:PyData.depthAll xs+1<=64:=BF h'.2
 exact ⟨h'.1,by omega⟩
def xY{d:Dz}(h:SeqAt.shaped d=true):d.canLay0=true:=by
 have h':(PyData.canLay0 d && decide (d.depth<=64))=true:=h
 rw[A3] at h'
 exact h'.1
def inD_cases{x y:Dz}{b:Bool}(h:inD x y=some b):(∃ i j,x=.str i/\y=.str j/\b = !(Builtin.Str.occurrences j i 0 j.length 1).isEmpty) \/
  (∃ xs,y=.list xs/\SeqAt.shaped x=true/\SeqAt.shaped (.list xs)=true/\b=xs.any fun z=>PyData.eqv z x)\/(∃ xs,y=.tuple xs/\SeqAt.shaped x=true/\SeqAt.shaped (.tuple xs)=true/\b=xs.any fun z=>PyData.eqv z x):=by
 unfold inD at h
 split at h
 .cases h;exact .inl ⟨_,_,rfl,rfl,rfl⟩
 .split at h
  · rename_i a; cases h; exact .inr (.inl ⟨_, rfl, a.1, a.2, rfl⟩)
  · cases h
 .split at h
  · rename_i a; cases h; exact .inr (.inr ⟨_, rfl, a.1, a.2, rfl⟩)
  · cases h
 .cases h
def aCZ{a b:Nat}(h:a<=63):min a b<=63:=BR (Nat.min_le_left _ _) h
def aJC(k:X.K=c.K)(B:X.A.units+64 < cLine):OpR X (compareOp .In) (r2D (bO c) (bO c) (dC c) dIn):=by
 intro a5 s σ H v u x y Q I n o h
 obtain ⟨C,H1,F,a,b,d,e,p,m,l,q⟩:=h
 unfold dIn at l
 split at l
 .rename_i r z
  cases l
  have f:EP X a5 σ Q (.bool r) s:=⟨.bl r,H,I,rfl,q _ F H (Ext.refl e) (.bl _)⟩
  rcases inD_cases z with ⟨i,j,rfl,rfl,rfl⟩|⟨xs,rfl,h1,h2,rfl⟩|⟨xs,rfl,h1,h2,rfl⟩
  .obtain rfl:=bG.str_of p
   obtain rfl:=bG.str_of m
   exact aIE a5 s σ H _ _ x y Q I n o ⟨i,j,rfl,rfl,q _ F H (Ext.refl e) (.bl _)⟩
  .obtain ⟨w,r1⟩:=DatV.reads I (by rw[k];exact bG.heap e p) n
   obtain ⟨bs,r2⟩:=DatV.reads I (by rw[k];exact bG.heap e m) o
   have g:=aHF h2
   have t:=aCZ (b:=a.depth) g.2
   exact SeqAt.in_list_reads r2 r1 g.1 (xY h1) (by omega) f
  .obtain ⟨w,r1⟩:=DatV.reads I (by rw[k];exact bG.heap e p) n
   obtain ⟨bs,r2⟩:=DatV.reads I (by rw[k];exact bG.heap e m) o
   have g:=aEY h2
   have t:=aCZ (b:=a.depth) g.2
   exact SeqAt.in_tuple_reads r2 r1 g.1 (xY h1) (by omega) f
 .cases l
def aY(B:X.K=c.K):IxR X (r2D (bO c) (bO c) (dC c) dIx):=by
 intro f e a5 s σ H v u x y Q I n t h r
 obtain ⟨D,H1,F,a,b,d,k,A,l,g,q⟩:=h
 unfold dIx at g
 split at g
 .rename_i xs i
  split at g
  .rename_i w j
   cases g
   obtain ⟨p,vs,rfl,h1,h2⟩:=bG.lst_of k A
   obtain rfl:=bG.int_of l
   obtain ⟨z,o,m⟩:=aCU h2 j
   rw[<-B] at h1
   exact aOD f e a5 s σ H _ _ x y Q I n t ⟨p,vs,i,z,rfl,rfl,h1,o,q _ F H (Ext.refl k) m⟩ r
  .cases g
 .rename_i xs i
  split at g
  .rename_i w j
   cases g
   obtain ⟨p,vs,rfl,_,h1,h2⟩:=bG.tup_of k A
   obtain rfl:=bG.int_of l
   obtain ⟨z,o,m⟩:=aCU h2 j
   rw[<-B] at h1
   exact aRR f e a5 s σ H _ _ x y Q I n t ⟨p,vs,i,z,rfl,rfl,h1,o,q _ F H (Ext.refl k) m⟩ r
  .cases g
 .rename_i z i
  split at g
  .rename_i C
   split at g
   .rename_i w j
    cases g
    obtain rfl:=bG.str_of A
    obtain rfl:=bG.int_of l
    exact aRS f e a5 s σ H _ _ x y Q I n t ⟨z,i,w,rfl,rfl,C,j,q _ F H (Ext.refl k) (.str _)⟩ r
   .cases g
  .cases g
 .cases g
def tTf(c:Ct)(E:XK)(f:Sg->R Bool):TT:=fun σ H Q=>∃ ρ F,Ab c ρ σ F H/\Rk c E F H (f ρ) fun b=>∀ F' H',Ext F H F' H'->Q b H'
abbrev PTf(X:Cx)(c:Ct)(E:XK)(e:E3)(f:Sg->R Bool):Prop:=PT X e (tTf c E f)
def asB:Dz->R Bool
 | .bool b=>.ok b
 | _=>.bad
def zK{f:Sg->R Dz}{σ:L2.St}{H:Hp}{Q:Bool->Hp->Prop}(h:tTf c E (e1 asB f) σ H Q):tV (dC c) c E f σ H fun x H'=>∃ k,x=.bl k/\Q k H':=by
 obtain ⟨ρ,F,ab,h⟩:=h
 refine ⟨ρ,F,ab,(Rk.bind h).imp fun d _ q v a H' s r=>?_⟩
 cases d with
 | bool b=>exact ⟨b,DatV.bl_of r,Rk.ok q a H' s⟩
 | _=>exact False.elim q
def cO{d:CmpOp}{g:Dz->Dz->R Dz}{e fb:Sg->R Dz}(k:OpR X (compareOp d) (r2D (bO c) (bO c) (dC c) g))(l:dZ g)(f:PR X c E a e)(j:PR X c E b fb)(i:behindInMarks d b=false):PTf X c E (.Compare a [d] [b] pos) (e1 asB (e2 g e fb)):=
 PT.imp (mM k f j i) fun σ H Q h=>tV2 aBZ l (xV c) (mE c) (zK h)
def eK{f:Sg->R Dz}(h:PD X c E e f)(a:∀ whole,isTrue e X.env whole=(do let v <-whole;standAt e.pos;holding [v] (truthy v)):=by intro _;rfl):PTf X c E e (e1 asB f):=
 PT.imp (L2.eK h a) fun σ H Q h=>zK h
def lN(f g:Sg->R Bool):Sg->R Bool:=fun ρ=>(f ρ).bind fun b=>if b=true then g ρ else .ok false
def bOr(f g:Sg->R Bool):Sg->R Bool:=fun ρ=>(f ρ).bind fun b=>if b=true then .ok true else g ρ
def j4(f:Sg->R Bool):Sg->R Bool:=fun ρ=>(f ρ).bind fun b=>.ok (!b)
abbrev PWf(X:Cx)(c:Ct)(E:XK)(e:E3)(f:Sg->R Bool):Prop:=PW X e (tTf c E f)
def PW.imp{X:Cx}{e:E3}{t t':TT}(h:PW X e t)(i:∀ σ H Q,t' σ H Q->t σ H Q):PW X e t':=fun a a5 s σ H Q I q=>h a a5 s σ H Q I (i σ H Q q)
def aVU{f g:Sg->R Bool}{σ:L2.St}{H:Hp}{Q:Bool->Hp->Prop}(h:tTf c E (lN f g) σ H Q):aQ6 (tTf c E f) (tTf c E g) σ H Q:=by
 obtain ⟨ρ,F,ab,h⟩:=h
 refine ⟨ρ,F,ab,(Rk.bind h).imp fun b _ q a H' s=>?_⟩
 cases b with
 | true=>exact ⟨ρ,a,ab.ext s,(Rk.ext s q).imp fun d _ z e H2 i=>z e H2 (s.trans i)⟩
 | false=>exact Rk.ok q a H' s
def tor{f g:Sg->R Bool}{σ:L2.St}{H:Hp}{Q:Bool->Hp->Prop}(h:tTf c E (bOr f g) σ H Q):tOr (tTf c E f) (tTf c E g) σ H Q:=by
 obtain ⟨ρ,F,ab,h⟩:=h
 refine ⟨ρ,F,ab,(Rk.bind h).imp fun b _ q a H' s=>?_⟩
 cases b with
 | false=>exact ⟨ρ,a,ab.ext s,(Rk.ext s q).imp fun d _ z e H2 i=>z e H2 (s.trans i)⟩
 | true=>exact Rk.ok q a H' s
def mL{f:Sg->R Bool}(h:PTf X c E a f):PWf X c E (.BoolOp .And [a] pos) f:=L2.mL h
def lD{f:Sg->R Bool}(h:PTf X c E a f):PWf X c E (.BoolOp .Or [a] pos) f:=L2.lD h
def nJ{f g:Sg->R Bool}{rest:List E3}(h:PTf X c E a f)(h2:PWf X c E (.BoolOp .And (b::rest) pos) g):PWf X c E (.BoolOp .And (a::b::rest) pos) (lN f g):=PW.imp (L2.nJ h h2) fun _ _ _ q=>aVU q
def jI{f g:Sg->R Bool}{rest:List E3}(h:PTf X c E a f)(h2:PWf X c E (.BoolOp .Or (b::rest) pos) g):PWf X c E (.BoolOp .Or (a::b::rest) pos) (bOr f g):=PW.imp (L2.jI h h2) fun _ _ _ q=>tor q
def gB{f:Sg->R Bool}(h:PTf X c E a f):PTf X c E (.UnaryOp .Not a pos) (j4 f):=PT.imp (L2.gB h) fun σ H Q ⟨ρ,F,ab,k⟩=>⟨ρ,F,ab,(Rk.bind k).imp fun b _ q d H' s=>Rk.ok q d H' s⟩
def zL(f g:Sg->R Dz):Sg->R Dz:=fun ρ=>(f ρ).bind fun x=>(asB x).bind fun b=>if b=true then g ρ else .ok (.bool false)
def eOr(f g:Sg->R Dz):Sg->R Dz:=fun ρ=>(f ρ).bind fun x=>(asB x).bind fun b=>if b=true then .ok (.bool true) else g ρ
def aLQ(f:Sg->R Dz):Sg->R Dz:=fun ρ=>(f ρ).bind fun x=>(asB x).bind fun b=>.ok (.bool (!b))
def eIf{α:Type}(t:Sg->R Bool)(f g:Sg->R α):Sg->R α:=fun ρ=>(t ρ).bind fun b=>if b=true then f ρ else g ρ
def xZ{op}{f:Sg->R Dz}(h:PD X c E a f):PD X c E (.BoolOp op [a] pos) f:=aQ7 h
def x5{f g:Sg->R Dz}{rest:List E3}(h:PD X c E a f)(h2:PD X c E (.BoolOp .And (b::rest) pos) g):PD X c E (.BoolOp .And (a::b::rest) pos) (zL f g):=PE.imp (aQ8 h h2) fun σ H Q e=>by
 obtain ⟨ρ,F,ab,k⟩:=e
 refine ⟨ρ,F,ab,(Rk.bind k).imp fun d _ q v i H' s r=>?_⟩
 cases d with
 | bool b=>
  refine ⟨b,DatV.bl_of r,?_⟩
  cases b with
  | true=>exact zB ⟨ρ,i,ab.ext s,(Rk.ext s q).imp fun d _ z v j H2 l=>z v j H2 (s.trans l)⟩
  | false=>exact zA (Rk.ok q (.bl false) i H' s (.bl false))
 | _=>exact False.elim q
def aR3{f:Sg->R Dz}(h:PD X c E a f):PD X c E (.UnaryOp .Not a pos) (aLQ f):=PE.imp (aQ9 h) fun σ H Q e=>by
 obtain ⟨ρ,F,ab,k⟩:=e
 refine ⟨ρ,F,ab,(Rk.bind k).imp fun d _ q v g H' s r=>?_⟩
 cases d with
 | bool b=>exact ⟨b,DatV.bl_of r,Rk.ok q _ g H' s (.bl _)⟩
 | _=>exact False.elim q
def x6{t:Sg->R Bool}{f g:Sg->R Dz}{q:E3}(m:PTf X c E q t)(h:PD X c E a f)(h2:PD X c E b g):PD X c E (.IfExp q a b pos) (eIf t f g):=PE.imp (aK2 m h h2) fun σ H Q i=>by
 obtain ⟨ρ,F,ab,k⟩:=i
 refine ⟨ρ,F,ab,(Rk.bind k).imp fun b _ q l H' s=>?_⟩
 cases b with
 | true=>exact zB ⟨ρ,l,ab.ext s,(Rk.ext s q).imp fun d _ z v e H2 j=>z v e H2 (s.trans j)⟩
 | false=>exact zA ⟨ρ,l,ab.ext s,(Rk.ext s q).imp fun d _ z v e H2 j=>z v e H2 (s.trans j)⟩
def eCh(g g':Dz->Dz->R Dz)(fa fb fc:Sg->R Dz):Sg->R Dz:=fun ρ=>(fa ρ).bind fun x=>(fb ρ).bind fun y=>(g x y).bind fun z=>(asB z).bind fun k=>if k=true then (fc ρ).bind fun w=>g' y w else .ok (.bool false)
def aR4{g g':Dz->Dz->R Dz}(G:dZ g)(j:dZ g'){t fb l:Sg->R Dz}{σ:L2.St}{H:Hp}{Q:VK}(h:tV (dC c) c E (eCh g g' t fb l) σ H Q) :
  tChain (r2D (bO c) (bO c) (dC c) g) (r2D (bO c) (bO c) (dC c) g') (tV (bO c) c E t) (tV (bO c) c E fb) (tV (bO c) c E l) σ H Q:=by
 obtain ⟨ρ,F,ab,h⟩:=h
 refine ⟨ρ,F,ab,(Rk.bind h).imp fun x _ q v K H1 s1 D=>?_⟩
 refine ⟨ρ,K,ab.ext s1,((Rk.bind q).ext s1).imp fun y _ q u B H2 o p=>?_⟩
 cases f:g x y with
 | bad=>rw[f] at q;exact q.elim
 | ex e=>exact absurd f (G x y e)
 | ok z=>
  rw[f] at q
  refine ⟨H,H1,B,x,y,z,o.fh,bG.ext o D,p,f,fun w s H3 r n=>?_⟩
  have b:=(s1.trans o).trans r
  cases z with
  | bool k=>
   refine ⟨k,DatV.bl_of n,?_⟩
   cases k with
   | false=>exact zA (Rk.ok q (.bl false) s H3 b (.bl false))
   | true=>
    have I:Rk c E F H ((l ρ).bind fun w=>g' y w) (fun d=>∀ v F' H',Ext F H F' H'->dC c d v H F' H'->Q v H'):=q
    refine zB ⟨ρ,s,ab.ext b,((Rk.bind I).ext b).imp fun w _ q N L H4 m i=>?_⟩
    cases a:g' y w with
    | bad=>rw[a] at q;exact q.elim
    | ex e=>exact absurd a (j y w e)
    | ok z2=>
     rw[a] at q
     exact ⟨H1,H3,L,y,w,z2,m.fh,bG.ext (r.trans m) p,i,a,fun A M H5 J C=>Rk.ok q A M H5 ((b.trans m).trans J) C⟩
  | _=>exact False.elim q
def aC0{j d:CmpOp}{g g':Dz->Dz->R Dz}{f:E3}{l fb k:Sg->R Dz}(p:OpR X (compareOp j) (r2D (bO c) (bO c) (dC c) g))(n:dZ g)(e:OpR X (compareOp d) (r2D (bO c) (bO c) (dC c) g'))(i:dZ g')
  (m:PR X c E a l) (q:PR X c E b fb) (r:PR X c E f k) (o:lastMarks [j,d] [b,f]=false:=by with_unfolding_all rfl):PD X c E (.Compare a [j,d] [b,f] pos) (eCh g g' l fb k):=
 PE.imp (aK6 p e m q r o) fun σ H Q h=>aR4 n i h
end
def AFs(g:Gb)(K:Frag)(mg:Str->O9 V9)(F:Hp):List A->List V->Prop
 | [],[]=>True
 | a::as,v::vs=>AF g K mg F a v/\AFs g K mg F as vs
 | _,_=>False
theorem AFs.same{g:Gb}{K:Frag}{mg:Str->O9 V9}{F F':Hp}(s:aR F F'):∀ {as:List A} {vs:List V},AFs g K mg F as vs->AFs g K mg F' as vs
 | [],[],_=>trivial
 | a::as,v::vs,h=>⟨AF.same s h.1,AFs.same s h.2⟩
theorem AFs.len{g:Gb}{K:Frag}{mg:Str->O9 V9}{F:Hp}:∀ {as:List A} {vs:List V},AFs g K mg F as vs->vs.length=as.length
 | [],[],_=>rfl
 | a::as,v::vs,h=>by rw[BB,BB,AFs.len h.2]
def PA.imp{X:Cx}{es:List E3}{t t':TA}(h:PA X es t)(i:∀ σ H Q,t' σ H Q->t σ H Q):PA X es t':=fun pos a5 s σ H Q I q=>h pos a5 s σ H Q I (i σ H Q q)
def tAd(c:Ct)(E:XK)(f:Sg->R (List Dz)):TA:=fun σ H Q=>∃ ρ F,Ab c ρ σ F H/\Rk c E F H (f ρ) fun ds=>∀ vs F' H',Ext F H F' H'->DatVs c.K F' vs ds->Q vs H'
def tAv(c:Ct)(E:XK)(f:Sg->R (List A)):TA:=fun σ H Q=>∃ ρ F,Ab c ρ σ F H/\Rk c E F H (f ρ) fun ds=>∀ vs F' H',Ext F H F' H'->AFs c.g c.K c.mg F' ds vs->Q vs H'
abbrev PAd(X:Cx)(c:Ct)(E:XK)(es:List E3)(f:Sg->R (List Dz)):Prop:=PA X es (tAd c E f)
abbrev PAv(X:Cx)(c:Ct)(E:XK)(es:List E3)(f:Sg->R (List A)):Prop:=PA X es (tAv c E f)
def aM{α:Type}:Sg->R (List α):=fun _=>.ok []
def aB{α:Type}(f:Sg->R α)(g:Sg->R (List α)):Sg->R (List α):=fun ρ=>(f ρ).bind fun x=>(g ρ).bind fun xs=>.ok (x::xs)
section
variable{X:Cx}{c:Ct}{E:XK}{e a b:E3}{es:List E3}{pos:Pos}
def bI:PAd X c E [] aM:=PA.imp aK fun σ H Q ⟨ρ,F,ab,k⟩=>Rk.ok k [] F H (Ext.refl ab.fh) .nil
def a8:PAv X c E [] aM:=PA.imp aK fun σ H Q ⟨ρ,F,ab,k⟩=>Rk.ok k [] F H (Ext.refl ab.fh) trivial
def aL{f:Sg->R Dz}{g:Sg->R (List Dz)}(h:PD X c E e f)(h2:PAd X c E es g)(i:starEach (e::es) X.env=(false,eval e X.env)::starEach es X.env:=by rfl):PAd X c E (e::es) (aB f g):=PA.imp (aG h h2 i) fun σ H Q a=>by
 obtain ⟨ρ,F,ab,k⟩:=a
 refine ⟨ρ,F,ab,(Rk.bind k).imp fun x _ q v j H1 s1 r1=>⟨ρ,j,ab.ext s1,((Rk.bind q).ext s1).imp fun xs _ q vs d H2 b r2=>?_⟩⟩
 exact Rk.ok q (v::vs) d H2 (s1.trans b) (.cons (DatV.same b.ff r1) r2)
def aE{f:Sg->R A}{g:Sg->R (List A)}(h:PV X c E e f)(h2:PAv X c E es g)(i:starEach (e::es) X.env=(false,eval e X.env)::starEach es X.env:=by rfl):PAv X c E (e::es) (aB f g):=PA.imp (aG h h2 i) fun σ H Q a=>by
 obtain ⟨ρ,F,ab,k⟩:=a
 refine ⟨ρ,F,ab,(Rk.bind k).imp fun x _ q v j H1 s1 r1=>⟨ρ,j,ab.ext s1,((Rk.bind q).ext s1).imp fun xs _ q vs d H2 b r2=>?_⟩⟩
 exact Rk.ok q (v::vs) d H2 (s1.trans b) ⟨AF.same b.ff r1,r2⟩
def dP(f:Sg->R (List Dz)):Sg->R Dz:=fun ρ=>(f ρ).bind fun xs=>if xs.length<=16777216 then .ok (.tuple xs) else .bad
def fG(f:Sg->R (List Dz)):Sg->R (List Dz):=fun ρ=>(f ρ).bind fun xs=>if xs.length<=16777216 then .ok xs else .bad
def fD:sizeLine=16777216:=GV
def dL{x1}{f:Sg->R (List Dz)}(h:PAd X c E es f):PD X c E (.Tuple es x1 pos) (dP f):=PE.imp (aRN h) fun σ H Q b=>by
 obtain ⟨ρ,F,ab,k⟩:=b
 refine ⟨ρ,F,ab,(Rk.bind k).imp fun xs _ q vs e H1 s1 r1=>?_⟩
 by_cases a:xs.length<=16777216
 .rw[AL a] at q
  refine ⟨by rw[r1.length,fD];exact a,fun p d=>?_⟩
  exact Rk.ok q (.ref p) _ _ (s1.trans (Ext.new s1.fh d)) (.tup (SqT.of bN) (r1.same (aR.upd (cL s1.fh d))))
 .rw[AK a] at q;exact q.elim
def eR{f:Sg->R (List Dz)}(h:PAd X c E es f):PN X c E (.List es pos) (fG f):=PE.imp (aRO h) fun σ H Q b=>by
 obtain ⟨ρ,F,ab,k⟩:=b
 refine ⟨ρ,F,ab,(Rk.bind k).imp fun xs _ q vs e H1 s1 r1=>?_⟩
 by_cases a:xs.length<=16777216
 .rw[AL a] at q
  refine ⟨by rw[r1.length,fD];exact a,fun p d=>?_⟩
  exact Rk.ok q (.ref p) _ _ (s1.trans (Ext.own s1.fh d)) ⟨p,vs,rfl,cL s1.hh d,bN,cL s1.fh d,r1⟩
 .rw[AK a] at q;exact q.elim
def dLen:Dz->R Dz
 | .str z=>if z.length<=16777216 then .ok (.int z.length) else .bad
 | .list xs=>.ok (.int xs.length)
 | .tuple xs=>.ok (.int xs.length)
 | _=>.bad
def plain_len:mF dLen:=by intro a e h;unfold dLen at h;split at h<;>(try split at h)<;>cases h
def c6{j:Sg->R Dz}(l:X.K=c.K)(h0:PE X e (tCB (fun xs H Q=>∃ x n,xs=[x]/\aRM X.K x H n/\Q (.int n) H) (gL (tV (bO c) c E j) kC))):PD X c E e (e1 dLen j):=
 PE.imp h0 fun σ H Q h=>by
  obtain ⟨ρ,F,ab,k⟩:=tV1 (Ra:=bO c) sH plain_len (mE c) h
  refine ⟨ρ,F,ab,k.imp fun d _ q v m H' s r=>?_⟩
  obtain ⟨u,g,a,t,f,i,b,q⟩:=q v m H' s r
  unfold dLen at b
  split at b
  .rename_i z
   split at b
   .rename_i o
    cases b
    obtain rfl:=bG.str_of i
    exact ⟨_,_,rfl,⟨by rw[fD];exact o,rfl⟩,q _ g H' (Ext.refl f) (.int _)⟩
   .cases b
  .cases b
   obtain ⟨p,vs,rfl,h1,h2⟩:=bG.lst_of f i
   rw[<-l] at h1
   exact ⟨_,vs.length,rfl,.inl ⟨vs,h1,rfl⟩,q _ g H' (Ext.refl f) (by rw[h2.length];exact .int _)⟩
  .cases b
   obtain ⟨p,vs,rfl,_,h1,h2⟩:=bG.tup_of f i
   rw[<-l] at h1
   exact ⟨_,vs.length,rfl,.inr ⟨vs,h1,rfl⟩,q _ g H' (Ext.refl f) (by rw[h2.length];exact .int _)⟩
  .cases b
def dTup:Dz->R Dz
 | .list xs=>.ok (.tuple xs)
 | .tuple xs=>.ok (.tuple xs)
 | _=>.bad
def aJD:mF dTup:=by intro a e h;unfold dTup at h;split at h<;>cases h
def dX{j:Sg->R Dz}(i:X.K=c.K)(h0:PE X e (tCB (fun xs H Q=>∃ p ys,xs=[.ref p]/\((SqL X.K H p ys/\∀ l,H l=none->Q (.ref l) (upd H l (.tup ys)))\/(SqT X.K H p ys/\Q (.ref p) H))) (gL (tV (bO c) c E j) kC))):PD X c E e (e1 dTup j):=
 PE.imp h0 fun σ H Q h=>by
  obtain ⟨ρ,F,ab,k⟩:=tV1 (Ra:=bO c) sH aJD (mE c) h
  refine ⟨ρ,F,ab,k.imp fun d _ q v o H' s r=>?_⟩
  obtain ⟨w,n,a,u,f,m,b,q⟩:=q v o H' s r
  unfold dTup at b
  split at b
  .cases b
   obtain ⟨p,vs,rfl,h1,h2⟩:=bG.lst_of f m
   rw[<-i] at h1
   exact ⟨p,vs,rfl,.inl ⟨h1,fun l g=>q _ _ _ (Ext.new f g) (.tup (SqT.of bN) (h2.same (aR.upd (cL f g))))⟩⟩
  .cases b
   obtain ⟨p,vs,rfl,t,h1,h2⟩:=bG.tup_of f m
   rw[<-i] at h1
   exact ⟨p,vs,rfl,.inr ⟨h1,q _ n H' (Ext.refl f) (.tup t h2)⟩⟩
  .cases b
def dLst:Dz->R (List Dz)
 | .list xs=>.ok xs
 | .tuple xs=>.ok xs
 | _=>.bad
def aJE:mF dLst:=by intro a e h;unfold dLst at h;split at h<;>cases h
def aOX{j:Sg->R Dz}(i:X.K=c.K)(h0:PE X e (tCB (fun xs H Q=>∃ p ys,xs=[.ref p]/\(SqL X.K H p ys\/SqT X.K H p ys)/\∀ l,H l=none->Q (.ref l) (upd H l (.lst ys))) (gL (tV (bO c) c E j) kC))):PN X c E e (e1 dLst j):=
 PE.imp h0 fun σ H Q h=>by
  obtain ⟨ρ,F,ab,k⟩:=tV1 (Ra:=bO c) sH aJE (aUI c) h
  refine ⟨ρ,F,ab,k.imp fun d _ q v n H' s r=>?_⟩
  obtain ⟨w,t,a,o,f,m,g,q⟩:=q v n H' s r
  unfold dLst at g
  split at g
  .cases g
   obtain ⟨p,vs,rfl,h1,h2⟩:=bG.lst_of f m
   rw[<-i] at h1
   exact ⟨p,vs,rfl,.inl h1,fun l b=>q _ _ _ (Ext.own f b) ⟨l,vs,rfl,b,bN,cL f b,h2⟩⟩
  .cases g
   obtain ⟨p,vs,rfl,u,h1,h2⟩:=bG.tup_of f m
   rw[<-i] at h1
   exact ⟨p,vs,rfl,.inr h1,fun l b=>q _ _ _ (Ext.own f b) ⟨l,vs,rfl,b,bN,cL f b,h2⟩⟩
  .cases g
def dInt:Dz->R Dz
 | .int i=>.ok (.int i)
 | .bool b=>.ok (.int (if b=true then 1 else 0))
 | _=>.bad
def aJF:mF dInt:=by intro a e h;unfold dInt at h;split at h<;>cases h
def mR{j:Sg->R Dz}(h0:PE X e (tCB (fun xs H Q=>(∃ i,xs=[.int i]/\Q (.int i) H)\/∃ k,xs=[.bl k]/\Q (.int (if k then 1 else 0)) H) (gL (tV (bO c) c E j) kC))):PD X c E e (e1 dInt j):=
 PE.imp h0 fun σ H Q h=>by
  obtain ⟨ρ,F,ab,k⟩:=tV1 (Ra:=bO c) sH aJF (mE c) h
  refine ⟨ρ,F,ab,k.imp fun d _ q v n H' s r=>?_⟩
  obtain ⟨p,l,a,o,g,m,f,q⟩:=q v n H' s r
  unfold dInt at f
  split at f
  .cases f
   obtain rfl:=bG.int_of m
   exact .inl ⟨_,rfl,q _ l H' (Ext.refl g) (.int _)⟩
  .rename_i b
   cases f
   obtain rfl:=bG.bl_of m
   exact .inr ⟨b,rfl,q _ l H' (Ext.refl g) (by cases b<;>exact .int _)⟩
  .cases f
def sI:List Dz->O9 (List Bool)
 | []=>some []
 | .bool b::t=>(sI t).map (b :: ·)
 | _=>none
def dAll:Dz->R Dz
 | .list xs=>match sI xs with
  | some bs=>.ok (.bool (bs.all id))
  | none=>.bad
 | _=>.bad
def aJG:mF dAll:=by intro a e h;unfold dAll at h;split at h<;>(try split at h)<;>cases h
theorem aC1{K:Frag}{F:Hp}:∀ {vs:List V} {xs:List Dz} {bs:List Bool},DatVs K F vs xs->sI xs=some bs->vs=bs.map V.bl
 | _,_,bs,.nil,e=>by cases e;rfl
 | _,_,bs,.cons (d:=d) (ds:=t) h h2,e=>by
  cases d with
  | bool b=>
   unfold sI at e
   cases q:sI t with
   | none=>rw[q] at e;cases e
   | some cs=>
    rw[q] at e
    cases e
    rw[aC1 h2 q,DatV.bl_of h];rfl
  | _=>cases e
def aR5{g:Sg->R Dz}(j:X.K=c.K)(h0:PE X e (tCB (fun xs H Q=>∃ (a:Az) (bs:List Bool),xs=[.ref a]/\SqL X.K H a (bs.map V.bl)/\Q (.bl (bs.all id)) H) (gL (tV (bO c) c E g) kC))):PD X c E e (e1 dAll g):=
 PE.imp h0 fun σ H Q h=>by
  obtain ⟨ρ,F,ab,k⟩:=tV1 (Ra:=bO c) sH aJG (mE c) h
  refine ⟨ρ,F,ab,k.imp fun d _ q v i H' s r=>?_⟩
  obtain ⟨t,m,a,o,f,n,b,q⟩:=q v i H' s r
  unfold dAll at b
  split at b
  .split at b
   .rename_i bs l
    cases b
    obtain ⟨p,vs,rfl,h1,h2⟩:=bG.lst_of f n
    rw[<-j] at h1
    obtain rfl:=aC1 h2 l
    exact ⟨p,bs,rfl,h1,q _ m H' (Ext.refl f) (.bl _)⟩
   .cases b
  .cases b
end
inductive Fw where
 | nx (ρ:Sg)|bk (ρ:Sg)|ct (ρ:Sg)|rt (a:A)
def AR(g:Gb)(K:Frag)(mg:Str->O9 V9)(H F' H':Hp):A->V->Prop
 | .l xs,v=>∃ p us,v=.ref p/\H p=none/\H' p=some (.lst us)/\F' p=none/\DatVs K F' us xs
 | a,v=>AF g K mg F' a v
def AR.of{g:Gb}{K:Frag}{mg:Str->O9 V9}{H b H':Hp}{a:A}{v:V}(h:AF g K mg b a v):AR g K mg H b H' a v:=by
 cases a with
 | l xs=>exact False.elim h
 | _=>exact h
def lO(c:Ct)(F:Hp)(D:oF):Fw->Prop
 | .nx ρ=>∀ σ' F' H',aR F F'->Ab c ρ σ' F' H'->D.nx σ' H'
 | .bk ρ=>∀ σ' F' H',aR F F'->Ab c ρ σ' F' H'->D.bk σ' H'
 | .ct ρ=>∀ σ' F' H',aR F F'->Ab c ρ σ' F' H'->D.ct σ' H'
 | .rt a=>∀ v F' H',Ext c.F0 c.H0 F' H'->AR c.g c.K c.mg c.H0 F' H' a v->D.rt v H'
theorem lO.same{c:Ct}{F F1:Hp}{D:oF}(s:aR F F1):∀ {w:Fw},lO c F D w->lO c F1 D w
 | .nx ρ,h=>fun b d H' s' ab=>h b d H' (fun a o z=>s' a o (s a o z)) ab
 | .bk ρ,h=>fun b d H' s' ab=>h b d H' (fun a o z=>s' a o (s a o z)) ab
 | .ct ρ,h=>fun b d H' s' ab=>h b d H' (fun a o z=>s' a o (s a o z)) ab
 | .rt a,h=>h
def tSf(c:Ct)(E:XK)(f:Sg->R Fw):TS:=fun D σ H=>∃ ρ F,Ab c ρ σ F H/\Rk c E F H (f ρ) (lO c F D)
abbrev PSf(X:Cx)(c:Ct)(E:XK)(st:Stmt)(f:Sg->R Fw):Prop:=PS X st (tSf c E f)
abbrev qN(X:Cx)(c:Ct)(E:XK)(st:List Stmt)(f:Sg->R Fw):Prop:=PSs X st (tSf c E f)
def get_set{α:Type}{l:List α}{i j:Nat}{x y:α}(h:(l.set i x)[j]? = some y):(i=j/\y=x/\i < l.length)\/(i≠j/\l[j]? = some y):=by
 by_cases e:i=j
 .subst e
  by_cases a:i < l.length
  · rw [C5 a] at h; exact .inl ⟨rfl, (BL h).symm, a⟩
  · rw [List.getElem?_eq_none_iff.mpr (by rw [DQ]; omega)] at h; cases h
 .rw[B8 e] at h;exact .inr ⟨e,h⟩
def Ab.setF{c:Ct}{ρ:Sg}{σ:L2.St}{F H:Hp}{i:Nat}{a:A}{v:V}(b:Ab c ρ σ F H)(u:AO c F H a v)(s:a.own=true->∀ (j:Nat) (a':A),j≠i->ρ[j]? = some (some a')->a'.own=true->σ[j]? ≠ some (some v)):Ab c (ρ.set i (some a)) (σ.set i (some v)) F H where
 len:=by rw[DQ,DQ];exact b.len
 fh:=b.fh
 slot:=fun j a' h=>by
  rcases get_set h with ⟨e,q,o⟩|⟨m,q⟩
  .subst e
   cases q
   exact ⟨v,C5 (by rw[<-b.len];exact o),u⟩
  .rw[B8 m];exact b.slot j a' q
 apart:=fun j k a' t d h1 h2 r n=>by
  rcases get_set h1 with ⟨e,q,o⟩|⟨m,q⟩
  .subst e
   cases q
   rcases get_set h2 with ⟨p,g,l⟩|⟨f,g⟩
   .exact absurd p d
   .rw[C5 (by rw[<-b.len];exact o),B8 f]
    exact (s r k t (BX d) g n).symm
  .rcases get_set h2 with ⟨p,g,l⟩|⟨f,g⟩
   .subst p
    cases g
    rw[C5 (by rw[<-b.len];exact l),B8 m]
    exact s n j a' d q r
   .rw[B8 m,B8 f]
    exact b.apart j k a' t d q g r n
 f0:=b.f0
 h0:=b.h0
 n0:=b.n0
 t0:=b.t0
theorem AO.of{c:Ct}{F H:Hp}:∀ {a:A} {v:V},AF c.g c.K c.mg F a v->AO c F H a v
 | .d x,v,h=>h
 | .x e,v,h=>h
 | .g k n G,v,h=>h
 | .f a6,v,h=>h
theorem AF.notOwn{g:Gb}{K:Frag}{mg:Str->O9 V9}{F:Hp}:∀ {a:A} {v:V},AF g K mg F a v->a.own=false
 | .d x,v,h=>rfl
 | .x e,v,h=>rfl
 | .g k n G,v,h=>rfl
 | .f a6,v,h=>rfl
def Ab.setA{c:Ct}{ρ:Sg}{σ:L2.St}{F H:Hp}{i:Nat}{a:A}{v:V}(b:Ab c ρ σ F H)(d:AF c.g c.K c.mg F a v):Ab c (ρ.set i (some a)) (σ.set i (some v)) F H:=
 b.setF (AO.of d) fun z=>by rw[AF.notOwn d] at z;cases z
def Ab.setN{c:Ct}{ρ:Sg}{σ:L2.St}{F H a H':Hp}{i:Nat}{xs:List Dz}{v:V}(b:Ab c ρ σ F H)(e:Ext F H a H')(h:aCS c xs v H a H'):Ab c (ρ.set i (some (.l xs))) (σ.set i (some v)) a H':=by
 obtain ⟨p,vs,rfl,h1,h2,m,n⟩:=h
 refine (b.ext e).setF ⟨p,vs,rfl,h2,m,cL b.h0 h1,n⟩ fun _ j g _ d r=>?_
 obtain ⟨w,k,q⟩:=b.slot j g d
 rw[k]
 intro z
 cases z
 obtain ⟨s,o',o,f,_⟩:=q.at r
 cases o
 rw[h1] at f
 cases f
def Ab.putO{c:Ct}{ρ:Sg}{σ:L2.St}{F H:Hp}{i:Nat}{a u:A}{p:Az}{o:HO}(b:Ab c ρ σ F H)(hi:ρ[i]? = some (some a))(D:a.own=true)(G:σ[i]? = some (some (.ref p)))(U:u.own=true)(O:AO c F (upd H p o) u (.ref p)) :
  Ab c (ρ.set i (some u)) σ F (upd H p o):=by
 obtain ⟨v,h1,q⟩:=b.slot i _ hi
 rw[G] at h1
 cases h1
 obtain ⟨X,o',y,h2,W,Q⟩:=q.at D
 cases y
 have t:∀ (j:Nat) (a:A) (w:V),j≠i->ρ[j]? = some (some a)->σ[j]? = some (some w)->AO c F H a w->AO c F (upd H p o) a w:=by
  intro j K w R T C s
  by_cases own:K.own=true
  .refine s.off fun z=>?_
   subst z
   exact b.apart j i _ _ R T hi own D (by rw[C,G])
  .cases K with
   | l zs=>exact absurd rfl own
   | m zs=>exact absurd rfl own
   | d x=>exact s
   | x e=>exact s
   | g k n f=>exact s
   | k S=>exact s
   | f S=>exact s
 exact {
  len:=by rw[DQ];exact b.len
  fh:=fun a o z=>by rw[aU (fun w=>by subst w;rw[W] at z;cases z)];exact b.fh a o z
  slot:=fun j a h=>by
   rcases get_set h with ⟨e,q,P⟩|⟨L,q⟩
   .subst e
    cases q
    exact ⟨_,G,O⟩
   .obtain ⟨w,C,s⟩:=b.slot j a q
    exact ⟨w,C,t j a w (BX L) q C s⟩
  apart:=fun j k u M r h1 h2 N J=>by
   rcases get_set h1 with ⟨e,q,P⟩|⟨L,q⟩
   .subst e
    cases q
    rcases get_set h2 with ⟨y,B,E⟩|⟨I,B⟩
    .exact absurd y r
    .exact b.apart _ k _ M r hi B D J
   .rcases get_set h2 with ⟨y,B,E⟩|⟨I,B⟩
    .subst y
     exact b.apart j _ u _ r q hi N D
    .exact b.apart j k u M r q B N J
  f0:=b.f0
  h0:=fun a o z=>by rw[aU (fun w=>by subst w;rw[Q] at z;cases z)];exact b.h0 a o z
  n0:=b.n0
  t0:=b.t0}
def Ab.putL{c:Ct}{ρ:Sg}{σ:L2.St}{F H:Hp}{i:Nat}{xs ys:List Dz}{p:Az}{vs:List V}(b:Ab c ρ σ F H)(hi:ρ[i]? = some (some (.l xs)))(a:σ[i]? = some (some (.ref p)))(d:DatVs c.K F vs ys) :
  Ab c (ρ.set i (some (.l ys))) σ F (upd H p (.lst vs)):=by
 obtain ⟨v,h1,g,us,rfl,h2,e,f,h⟩:=b.slot i _ hi
 rw[a] at h1
 cases h1
 exact b.putO hi rfl a rfl ⟨p,vs,rfl,bN,e,f,d⟩
def Ab.putM{c:Ct}{ρ:Sg}{σ:L2.St}{F H:Hp}{i:Nat}{d a:List (Dz×Dz)}{p:Az}{es:List Ent}{ep:Nat}(b:Ab c ρ σ F H)(hi:ρ[i]? = some (some (.m d)))(e:σ[i]? = some (some (.ref p)))(f:MapRel c.K F es a) :
  Ab c (ρ.set i (some (.m a))) σ F (upd H p (eM c.w p es ep)):=by
 obtain ⟨v,h1,j,us,rfl,h2,g,h,k⟩:=b.slot i _ hi
 rw[e] at h1
 cases h1
 exact b.putO hi rfl e rfl ⟨p,es,rfl,⟨ep,bN⟩,g,h,f⟩
def Ab.setM{c:Ct}{ρ:Sg}{σ:L2.St}{F H d H':Hp}{i:Nat}{a:List (Dz×Dz)}{p:Az}{es:List Ent}{ep:Nat}(b:Ab c ρ σ F H)(e:Ext F H d H')(h1:H p=none)(h2:H' p=some (eM c.w p es ep))(l:d p=none)(n:MapRel c.K d es a):Ab c (ρ.set i (some (.m a))) (σ.set i (some (.ref p))) d H':=by
 refine (b.ext e).setF ⟨p,es,rfl,⟨ep,h2⟩,l,cL b.h0 h1,n⟩ fun _ j h _ f r=>?_
 obtain ⟨w,k,q⟩:=b.slot j h f
 rw[k]
 intro z
 cases z
 obtain ⟨s,o',o,g,_⟩:=q.at r
 cases o
 rw[h1] at g
 cases g
def fz(i:Nat)(ρ:Sg):Sg:=match ρ[i]? with
 | some (some (.l xs))=>ρ.set i (some (.d (.list xs)))
 | _=>ρ
def Ab.publ{c:Ct}{ρ:Sg}{σ:L2.St}{F H:Hp}{i:Nat}{P D:A}{p:Az}{o:HO}(b:Ab c ρ σ F H)(hi:ρ[i]? = some (some P))(N:σ[i]? = some (some (.ref p)))(U:P.own=true)(h2:H p=some o)(E:F p=none)(y:c.H0 p=none)(M:D.own=false)(Z:AO c (upd F p o) H D (.ref p)):Ab c (ρ.set i (some D)) σ (upd F p o) H:=by
 have t:aR F (upd F p o):=aR.upd E
 exact {
  len:=by rw[DQ];exact b.len
  fh:=fun a o' z=>by
   by_cases w:a=p
   .subst w;rw[bN] at z;rw[h2];exact z
   .rw[aU w] at z;exact b.fh a o' z
  slot:=fun j a h=>by
   rcases get_set h with ⟨e,q,R⟩|⟨O,q⟩
   .subst e
    cases q
    exact ⟨_,N,Z⟩
   .obtain ⟨w,L,s⟩:=b.slot j a q
    refine ⟨w,L,?_⟩
    have off:∀ r,a.own=true->w=.ref r->F r=none->upd F p o r=none:=fun r W e f=>by
     rw[aU]
     .exact f
     .intro z
      subst z
      exact b.apart j i _ _ (BX O) q hi W U (by rw[L,N,e])
    cases a with
    | l zs=>obtain ⟨r,ws,e,B,s,J,v⟩:=s;exact ⟨r,ws,e,B,off r rfl e s,J,v.same t⟩
    | m a6=>obtain ⟨r,ws,e,B,s,J,v⟩:=s;exact ⟨r,ws,e,B,off r rfl e s,J,v.same t⟩
    | d x=>exact DatV.same t s
    | x e=>exact AF.same (g:=c.g) (K:=c.K) (mg:=c.mg) (a:=.x e) t s
    | g k n f=>exact AF.same (g:=c.g) (K:=c.K) (mg:=c.mg) (a:=.g k n f) t s
    | k S=>obtain ⟨S,f,cl,doc,pm,T,ct,h0,h1,h2,E,y⟩:=s;exact ⟨S,f,cl,doc,pm,T,ct,h0,h1,t _ _ h2,t _ _ E,y⟩
    | f a6=>exact AF.same (g:=c.g) (K:=c.K) (mg:=c.mg) (a:=.f a6) t s
  apart:=fun j k Y X G h1 h2 I u=>by
   rcases get_set h1 with ⟨e,q,R⟩|⟨O,q⟩
   .cases q;rw[M] at I;cases I
   .rcases get_set h2 with ⟨e',C,Q⟩|⟨V,C⟩
    .cases C;rw[M] at u;cases u
    .exact b.apart j k Y X G q C I u
  f0:=fun a o z=>t a o (b.f0 a o z)
  h0:=b.h0
  n0:=fun a z n=>by
   by_cases w:a=p
   .subst w;exact .inl y
   .rw[aU w] at n;exact b.n0 a z n
  t0:=b.t0}
def Ab.frz{c:Ct}{ρ:Sg}{σ:L2.St}{F H:Hp}(b:Ab c ρ σ F H)(i:Nat):∃ F',aR F F'/\Ab c (fz i ρ) σ F' H:=by
 unfold fz
 split
 .rename_i xs hi
  obtain ⟨v,d,p,vs,rfl,h2,a,e,f⟩:=b.slot i _ hi
  exact ⟨_,aR.upd a,b.publ hi d rfl h2 a e rfl (.lst (SqL.of bN) (f.same (aR.upd a)))⟩
 .exact ⟨F,cT F,b⟩
def aUJ:Dz->Dz->R Dz
 | .int i,.int j=>.ok (.int (i+j))
 | _,_=>.bad
section
variable{X:Cx}{c:Ct}{E:XK}{e a b:E3}{st:Stmt}{rest:List Stmt}{pos:Pos}
def sFz(i:Nat)(f:Sg->R Fw):Sg->R Fw:=fun ρ=>f (fz i ρ)
def p6(i:Nat){f:Sg->R Fw}(h:PSf X c E st f):PSf X c E st (sFz i f):=PS.imp h fun D σ H b=>by
 obtain ⟨ρ,F,ab,k⟩:=b
 obtain ⟨g,s,d⟩:=ab.frz i
 refine ⟨fz i ρ,g,d,?_⟩
 have a:Rk c E F H (f (fz i ρ)) (lO c F D):=k
 cases q:f (fz i ρ) with
 | bad=>rw[q] at a;exact a
 | ok w=>rw[q] at a;exact lO.same s a
 | ex e=>rw[q] at a;exact a
def sNx:Sg->R Fw:=fun ρ=>.ok (.nx ρ)
def aJ(f g:Sg->R Fw):Sg->R Fw:=fun ρ=>(f ρ).bind fun w=>match w with
 | .nx ρ'=>g ρ'
 | w=>.ok w
def cS:qN X c E [] sNx:=PSs.imp L2.cS fun D σ H ⟨ρ,F,ab,k⟩=>Rk.ok k σ F H (cT F) ab
def aN{f:Sg->R Fw}(h:PSf X c E st f):qN X c E [st] f:=L2.aN h
def aD{f g:Sg->R Fw}(h:PSf X c E st f)(h2:qN X c E rest g):qN X c E (st::rest) (aJ f g):=PSs.imp (L2.aD h h2) fun D σ H d=>by
 obtain ⟨ρ,F,ab,k⟩:=d
 refine ⟨ρ,F,ab,(Rk.bind k).imp fun w _ q=>?_⟩
 cases w with
 | nx ρ'=>
  intro m l H' s i
  refine ⟨ρ',l,i,?_⟩
  have b:Rk c E F H (g ρ') (lO c F D):=q
  cases j:g ρ' with
  | bad=>rw[j] at b;exact b
  | ok w=>rw[j] at b;exact lO.same s b
  | ex e=>rw[j] at b;exact b
 | bk ρ'=>exact q
 | ct ρ'=>exact q
 | rt a=>exact q
def bM(f:Sg->R A):Sg->R Fw:=fun ρ=>(f ρ).bind fun a=>.ok (.rt a)
def bE{f:Sg->R A}(h:PV X c E e f):PSf X c E (.Return (some e) pos) (bM f):=PS.imp (L2.bE h) fun D σ H ⟨ρ,F,ab,k⟩=>
 ⟨ρ,F,ab,(Rk.bind k).imp fun a _ q v b H' s r=>Rk.ok q v b H' (ab.all.trans s) (AR.of r)⟩
def aUK:Sg->R Fw:=fun _=>.ok (.rt (.d .none))
def sIf(t:Sg->R Bool)(f g:Sg->R Fw):Sg->R Fw:=fun ρ=>(t ρ).bind fun b=>if b=true then f ρ else g ρ
def Rk.fw{F a H H1:Hp}{D:oF}{r:R Fw}(s:aR F a)(k:Rk c E F H r (lO c F D)):Rk c E a H1 r (lO c a D):=by
 cases r with
 | bad=>exact k
 | ok w=>exact lO.same s k
 | ex e=>exact k
def dY{q:E3}{e h:List Stmt}{t:Sg->R Bool}{f g:Sg->R Fw}(j:PTf X c E q t)(i:qN X c E e f)(l:qN X c E h g):PSf X c E (.If q e h pos) (sIf t f g):=PS.imp (L2.dY j i l) fun D σ H a=>by
 obtain ⟨ρ,F,ab,k⟩:=a
 refine ⟨ρ,F,ab,(Rk.bind k).imp fun b _ q d H' s=>?_⟩
 cases b with
 | true=>exact zB ⟨ρ,d,ab.ext s,Rk.fw s.ff q⟩
 | false=>exact zA ⟨ρ,d,ab.ext s,Rk.fw s.ff q⟩
def bU(i:Nat)(f:Sg->R A):Sg->R Fw:=fun ρ=>(f ρ).bind fun a=>.ok (.nx (ρ.set i (some a)))
def aH{i:Nat}{f:Sg->R A}(h:PS X st (nZ (tV (aLO c) c E f) (l9 i))):PSf X c E st (bU i f):=PS.imp h fun D σ H ⟨ρ,F,ab,k⟩=>
 ⟨ρ,F,ab,(Rk.bind k).imp fun a _ q v b H' s r=>Rk.ok q _ b H' s.ff ((ab.ext s).setA r)⟩
def fM(i:Nat)(f:Sg->R (List Dz)):Sg->R Fw:=fun ρ=>(f ρ).bind fun xs=>.ok (.nx (ρ.set i (some (.l xs))))
def fX{i:Nat}{f:Sg->R (List Dz)}(h:PS X st (nZ (tV (aCS c) c E f) (l9 i))):PSf X c E st (fM i f):=PS.imp h fun D σ H ⟨ρ,F,ab,k⟩=>
 ⟨ρ,F,ab,(Rk.bind k).imp fun a _ q v b H' s r=>Rk.ok q _ b H' s.ff (ab.setN s r)⟩
def aNI(f:Sg->R A):Sg->R Fw:=fun ρ=>(f ρ).bind fun _=>.ok (.nx ρ)
def gK{f:Sg->R A}(h:PS X st (aBV (tV (aLO c) c E f))):PSf X c E st (aNI f):=PS.imp h fun D σ H ⟨ρ,F,ab,k⟩=>
 ⟨ρ,F,ab,(Rk.bind k).imp fun a _ q v b H' s r=>Rk.ok q _ b H' s.ff (ab.ext s)⟩
def iB(i:Nat)(f:Sg->R Dz):Sg->R Fw:=fun ρ=>match ρ[i]? with
 | some (some (.l xs))=>(f ρ).bind fun x=>if xs.length < 16777216 then .ok (.nx (ρ.set i (some (.l (xs++[x]))))) else .bad
 | _=>.bad
def kF{i:Nat}{f:Sg->R Dz}(l:X.K=c.K)(h:PS X st (aBV (tBM X.K "list" aFA (l8 i) (gL (tV (dC c) c E f) kC)))):PSf X c E st (iB i f):=PS.imp h fun D σ H ⟨ρ,F,ab,k⟩=>by
 unfold iB at k
 split at k
 .rename_i xs hi
  obtain ⟨v,b,p,vs,rfl,h2,g,j,d⟩:=ab.slot i _ hi
  refine ⟨_,b,.inl ⟨rfl,vs,SqL.of h2⟩,ρ,F,ab,(Rk.bind k).imp fun x _ q u e H1 s1 r1=>?_⟩
  by_cases a:xs.length < 16777216
  .rw[AL a] at q
   refine ⟨p,vs,u,rfl,rfl,s1.hh _ _ h2,by rw[d.length,fD];exact a,?_⟩
   exact Rk.ok q σ e _ s1.ff ((ab.ext s1).putL hi b ((d.same s1.ff).append (.cons r1 .nil)))
  .rw[AK a] at q;exact q.elim
 .exact k.elim
def aVV(i:Nat)(g:Dz->Dz->R Dz)(f:Sg->R Dz):Sg->R Fw:=fun ρ=>(eV i ρ).bind fun x=>(f ρ).bind fun y=>(g x y).bind fun z=>.ok (.nx (ρ.set i (some (.d z))))
end
def Tg(c:Ct)(g:TG)(fs:Dz->Sg->O9 Sg)(is:List Nat):Prop:=∀ (v:V) (x:Dz) (ρ ρ':Sg) (σ:L2.St) (F H:Hp) (Q:L2.St->Hp->Prop),Ab c ρ σ F H->DatV c.K F v x->fs x ρ=some ρ'->
 (∀ σ':L2.St,σ'.length=σ.length->(∀ j:Nat,j∉is->σ'[j]? = σ[j]?)->Ab c ρ' σ' F H->Q σ' H)->g v σ H Q
def stN(i:Nat):Dz->Sg->O9 Sg:=fun x ρ=>some (ρ.set i (some (.d x)))
def bD{c:Ct}(i:Nat):Tg c (l9 i) (stN i) [i]:=fun v x ρ b σ F H Q ab r e q=>by
 cases e
 exact q _ DQ (fun j f=>B8 (by intro z;subst z;exact f (by simp))) (ab.setA (a:=.d x) r)
def stL:List (Dz->Sg->O9 Sg)->List Dz->Sg->O9 Sg
 | [],[],ρ=>some ρ
 | f::fs,x::xs,ρ=>(f x ρ).bind (stL fs xs)
 | _,_,_=>none
def Tgs(c:Ct)(g:TGs)(fs:List (Dz->Sg->O9 Sg))(is:List Nat):Prop:=∀ (vs:List V) (xs:List Dz) (ρ ρ':Sg) (σ:L2.St) (F H:Hp) (Q:L2.St->Hp->Prop),Ab c ρ σ F H->DatVs c.K F vs xs->stL fs xs ρ=some ρ'->
 (∀ σ':L2.St,σ'.length=σ.length->(∀ j:Nat,j∉is->σ'[j]? = σ[j]?)->Ab c ρ' σ' F H->Q σ' H)->g vs σ H Q
def iI{c:Ct}:Tgs c aRB [] []:=fun vs xs ρ a σ F H Q ab r e q=>by
 cases xs with
 | nil=>cases e;exact ⟨by cases r;rfl,q σ rfl (fun _ _=>rfl) ab⟩
 | cons x t=>cases e
def cN{c:Ct}{g:TG}{gs:TGs}{f:Dz->Sg->O9 Sg}{fs:List (Dz->Sg->O9 Sg)}{is js:List Nat}(h:Tg c g f is)(h2:Tgs c gs fs js):Tgs c (aM9 g gs) (f::fs) (is++js):=fun vs xs ρ a σ F H Q ab r e q=>by
 cases r with
 | nil=>cases e
 | cons r1 r2=>
  rename_i x d vs ds
  have b:(f d ρ).bind (stL fs ds)=some a:=e
  cases e1:f d ρ with
  | none=>rw[e1] at b;cases b
  | some ρ1=>
   rw[e1] at b
   refine ⟨_,_,rfl,h _ _ ρ ρ1 σ F H _ ab r1 e1 fun k o k1 n=>h2 _ _ ρ1 a k F H _ n r2 b fun m p k2 l=>q m (p.trans o) (fun j i=>?_) l⟩
   rw[BK,G2] at i
   exact (k2 j i.2).trans (k1 j i.1)
def stT(fs:List (Dz->Sg->O9 Sg)):Dz->Sg->O9 Sg:=fun x ρ=>match x with
 | .tuple xs=>stL fs xs ρ
 | _=>none
theorem aFK:∀ {fs:List (Dz->Sg->O9 Sg)} {xs:List Dz} {ρ ρ':Sg},stL fs xs ρ=some ρ'->xs.length=fs.length
 | [],[],_,_,_=>rfl
 | [],_::_,_,_,h=>by cases h
 | _::_,[],_,_,h=>by cases h
 | f::fs,x::xs,ρ,ρ',h=>by
  have h':(f x ρ).bind (stL fs xs)=some ρ':=h
  cases e:f x ρ with
  | none=>rw[e] at h';cases h'
  | some ρ1=>
   rw[e] at h'
   have:=aFK (fs:=fs) (xs:=xs) h'
   simp[this]
def jW{c:Ct}{gs:TGs}{fs:List (Dz->Sg->O9 Sg)}{is:List Nat}{n:Nat}{K:Frag}(f:K=c.K)(h:Tgs c gs fs is)(d:fs.length=n):Tg c (aRC K n gs) (stT fs) is:=fun v x ρ b σ F H Q ab r e q=>by
 cases x with
 | tuple xs=>
  obtain ⟨a,vs,rfl,h1,h2⟩:=r.tup_of
  subst f
  exact ⟨a,vs,rfl,h1.same ab.fh,by rw[h2.length,aFK e,d],h vs xs ρ b σ F H Q ab h2 e q⟩
 | _=>cases e
structure Yld(K:Frag)(J:It)(F B:Hp)(xs:List Dz):Prop where
 len:xs.length<=sizeLine
 go:∀ (i:Nat) F1 H1,aR F F1->aR F1 H1->aR B H1->i < xs.length->J.go i H1
 yld:∀ (i:Nat) F1 H1 v H2 x,aR F F1->aR F1 H1->aR B H1->J.yld i H1 v H2->xs[i]? = some x->∃ F2,Ext F1 H1 F2 H2/\DatV K F2 v x
 stop:∀ F1 H1,aR F F1->aR F1 H1->aR B H1->J.stop xs.length H1
def tI(c:Ct)(E:XK)(f:Sg->R (List Dz)):TI:=fun σ H Rr=>∃ ρ F,Ab c ρ σ F H/\Rk c E F H (f ρ) fun xs=>∀ J B F' H',Ext F H F' H'->aR B H'->Yld c.K J F' B xs->Rr J H'
def tI0(c:Ct)(E:XK)(f:Sg->R (List Dz)):TI:=fun σ H Rr=>∃ ρ F,Ab c ρ σ F H/\Rk c E F H (f ρ) fun xs=>∀ J F' H',Ext F H F' H'->Yld c.K J F' (fun _=>none) xs->Rr J H'
def PI.imp{X:Cx}{tg e:E3}{t t':TI}(h:PI X tg e t)(i:∀ σ H Q,t' σ H Q->t σ H Q):PI X tg e t':=fun a5 s σ H Q I q=>h a5 s σ H Q I (i σ H Q q)
abbrev PIf(X:Cx)(c:Ct)(E:XK)(tg e:E3)(f:Sg->R (List Dz)):Prop:=PI X tg e (tI c E f)
abbrev PI0(X:Cx)(c:Ct)(E:XK)(tg e:E3)(f:Sg->R (List Dz)):Prop:=PI X tg e (tI0 c E f)
def uZ{X:Cx}{c:Ct}{E:XK}{tg e:E3}{f:Sg->R (List Dz)}(h:PI0 X c E tg e f):PIf X c E tg e f:=PI.imp h fun σ H Q ⟨ρ,F,ab,k⟩=>
 ⟨ρ,F,ab,k.imp fun xs _ q J a H' s y=>q J (fun _=>none) a H' s (fun _ _ z=>nomatch z) y⟩
def tX{H:Hp}:aR (fun _=>none) H:=fun _ _ z=>nomatch z
def a9:Dz->R (List Dz)
 | .list xs=>if xs.length<=16777216 then .ok xs else .bad
 | .tuple xs=>if xs.length<=16777216 then .ok xs else .bad
 | .str z=>if z.cps.toList.length<=16777216 then .ok (z.cps.toList.map fun u=>.str ⟨#[u]⟩) else .bad
 | _=>.bad
def aC2{K:Frag}{F B H:Hp}{a:Az}{vs:List V}{xs:List Dz}(hz:xs.length<=16777216)(f:∀ H1,aR F H1->aR B H1->SqL K H1 a vs)(c:DatVs K F vs xs):Yld K (Itl K a) F B xs where
 len:=by rw[fD];exact hz
 go:=fun i g H1 h1 h2 b hi=>by
  have q:=f H1 (fun x o z=>h2 x o (h1 x o z)) b
  exact ⟨vs,vs[i]'(by rw[c.length];exact hi),q,by simp⟩
 yld:=fun i g H1 v H2 x h1 h2 b y e=>by
  obtain ⟨rfl,y⟩:=y
  have q:=y vs (f _ (fun x o z=>h2 x o (h1 x o z)) b)
  obtain ⟨d,e2,r⟩:=c.get q
  rw[e] at e2
  cases e2
  exact ⟨g,Ext.refl h2,r.same h1⟩
 stop:=fun g H1 h1 h2 b=>⟨vs,f H1 (fun x o z=>h2 x o (h1 x o z)) b,by rw[c.length];exact AU _⟩
def aFL{K:Frag}{F B:Hp}{a:Az}{vs:List V}{xs:List Dz}(hz:xs.length<=16777216)(c:SqT K F a vs)(b:DatVs K F vs xs):Yld K (Itt K a) F B xs where
 len:=by rw[fD];exact hz
 go:=fun i f H1 h1 h2 g hi=>by
  have q:=c.same (H':=H1) (fun x o z=>h2 x o (h1 x o z))
  exact ⟨vs,vs[i]'(by rw[b.length];exact hi),q,by simp⟩
 yld:=fun i f H1 v H2 x h1 h2 g y e=>by
  obtain ⟨rfl,y⟩:=y
  have q:=y vs (c.same (fun x o z=>h2 x o (h1 x o z)))
  obtain ⟨d,e2,r⟩:=b.get q
  rw[e] at e2
  cases e2
  exact ⟨f,Ext.refl h2,r.same h1⟩
 stop:=fun f H1 h1 h2 g=>⟨vs,c.same (fun x o z=>h2 x o (h1 x o z)),by rw[b.length];exact AU _⟩
def aFM{K:Frag}{F B:Hp}{z:Str}(hz:z.cps.toList.length<=16777216):Yld K (Its z) F B (z.cps.toList.map fun u=>.str ⟨#[u]⟩) where
 len:=by rw[fD,AB];exact hz
 go:=fun i a H1 h1 h2 b hi=>by
  rw[AB,DG] at hi
  exact hi
 yld:=fun i a H1 v H2 x h1 h2 b y e=>by
  obtain ⟨rfl,u,c,rfl⟩:=y
  rw[AC,E4,c] at e
  cases e
  exact ⟨a,Ext.refl h2,.str _⟩
 stop:=fun a H1 h1 h2 b=>by
  show (z.cps.toList.map _).length=z.cps.size
  rw[AB,DG]
section
variable{X:Cx}{c:Ct}{E:XK}{tg e a b:E3}{pos:Pos}
def zM{f:Sg->R Dz}(j:X.K=c.K)(h:PD X c E e f):PI0 X c E tg e (e1 a9 f):=PI.imp (PI.or (aIQ h) (aIW h)) fun σ H Q ⟨ρ,F,ab,k⟩=>by
 have b:=Rk.bind k
 cases a:f ρ with
 | bad=>rw[a] at b;exact b.elim
 | ex x=>rw[a] at b;exact .inl ⟨ρ,F,ab,by rw[a];exact b⟩
 | ok d=>
  rw[a] at b
  have k2:=Rk.ok b
  unfold a9 at k2
  split at k2
  .rename_i xs
   split at k2
   .rename_i i
    refine .inl ⟨ρ,F,ab,?_⟩
    rw[a]
    intro v g H' s r
    obtain ⟨p,vs,rfl,h1,h2⟩:=DatV.lst_of r
    refine ⟨p,rfl,.inl ⟨⟨vs,?_⟩,?_⟩⟩
    · rw [j]; exact h1.same s.fh
    · rw [j]; exact Rk.ok k2 _ g H' s (aC2 (H := H') i (fun H1 q _ => h1.same q) h2)
   .exact k2.elim
  .rename_i xs
   split at k2
   .rename_i i
    refine .inl ⟨ρ,F,ab,?_⟩
    rw[a]
    intro v g H' s r
    obtain ⟨p,vs,rfl,h1,h2⟩:=DatV.tup_of r
    refine ⟨p,rfl,.inr ⟨⟨vs,?_⟩,?_⟩⟩
    · rw [j]; exact h1.same s.fh
    · rw [j]; exact Rk.ok k2 _ g H' s (aFL i h1 h2)
   .exact k2.elim
  .rename_i z
   split at k2
   .rename_i i
    refine .inr ⟨ρ,F,ab,?_⟩
    rw[a]
    intro v g H' s r
    obtain rfl:=DatV.str_of r
    exact ⟨z,rfl,Rk.ok k2 _ g H' s (aFM i)⟩
   .exact k2.elim
  .exact k2.elim
def k9{f:Sg->R Dz}(j:X.K=c.K)(h:PR X c E e f):PIf X c E tg e (e1 a9 f):=PI.imp (PI.or (aIQ h) (aIW h)) fun σ H Q ⟨ρ,F,ab,k⟩=>by
 have b:=Rk.bind k
 cases a:f ρ with
 | bad=>rw[a] at b;exact b.elim
 | ex x=>rw[a] at b;exact .inl ⟨ρ,F,ab,by rw[a];exact b⟩
 | ok d=>
  rw[a] at b
  have k2:=Rk.ok b
  unfold a9 at k2
  split at k2
  .rename_i xs
   split at k2
   .rename_i i
    refine .inl ⟨ρ,F,ab,?_⟩
    rw[a]
    intro v g H' s r
    obtain ⟨p,vs,rfl,h1,h2⟩:=bG.lst_of s.fh r
    refine ⟨p,rfl,.inl ⟨⟨vs,?_⟩,?_⟩⟩
    · rw [j]; exact h1
    · rw [j]; exact Rk.ok k2 _ H' g H' s (cT _) (aC2 (H := H') i (fun H1 _ q => h1.same q) h2)
   .exact k2.elim
  .rename_i xs
   split at k2
   .rename_i i
    refine .inl ⟨ρ,F,ab,?_⟩
    rw[a]
    intro v g H' s r
    obtain ⟨p,vs,rfl,h1,_,h2⟩:=bG.tup_of s.fh r
    refine ⟨p,rfl,.inr ⟨⟨vs,?_⟩,?_⟩⟩
    · rw [j]; exact h1.same s.fh
    · rw [j]; exact Rk.ok k2 _ H' g H' s (cT _) (aFL i h1 h2)
   .exact k2.elim
  .rename_i z
   split at k2
   .rename_i i
    refine .inr ⟨ρ,F,ab,?_⟩
    rw[a]
    intro v g H' s r
    obtain rfl:=bG.str_of r
    exact ⟨z,rfl,Rk.ok k2 _ H' g H' s (cT _) (aFM i)⟩
   .exact k2.elim
  .exact k2.elim
def pI(lo:Int)(n:Nat):List Dz:=(List.range n).map fun i:Nat=>.int (lo+i)
def lE(lo hi:Int):R (List Dz):=if -4611686018427387904<=lo/\lo < 4611686018427387904 /\ -4611686018427387904<=hi/\hi < 4611686018427387904/\hi - lo<=16777216 then .ok (pI lo (hi - lo).toNat) else .bad
def gM(f:Sg->R Dz):Sg->R (List Dz):=fun ρ=>(f ρ).bind fun x=>match x with
 | .int j=>lE 0 j
 | _=>.bad
def aOY(f g:Sg->R Dz):Sg->R (List Dz):=fun ρ=>(f ρ).bind fun x=>(g ρ).bind fun y=>match x,y with
 | .int i,.int j=>lE i j
 | _,_=>.bad
def aJH{K:Frag}{F B:Hp}{lo:Int}{n:Nat}(hz:n<=16777216):Yld K (Itr lo n) F B (pI lo n) where
 len:=by unfold pI;rw[fD,AB,AW];exact hz
 go:=fun i a H1 h1 h2 b hi=>by unfold pI at hi;rw[AB,AW] at hi;exact hi
 yld:=fun i a H1 v H2 x h1 h2 b y e=>by
  obtain ⟨rfl,rfl⟩:=y
  unfold pI at e
  rw[AC] at e
  cases q:(List.range n)[i]? with
  | none=>rw[q] at e;cases e
  | some j=>
   rw[q] at e
   cases e
   obtain ⟨d,c⟩:=AI.mp q
   rw[List.getElem_range] at c
   subst c
   exact ⟨a,Ext.refl h2,.int _⟩
 stop:=fun a H1 h1 h2 b=>by show n<=_;unfold pI;rw[AB,AW];exact AU _
def i8{f:Sg->R Dz}(h:PI X tg e (aNA (gL (tV (bO c) c E f) kC))):PI0 X c E tg e (gM f):=PI.imp h fun σ H Q ⟨ρ,F,ab,k⟩=>by
 refine ⟨ρ,F,ab,(Rk.bind k).imp fun x _ q v b H' s r=>?_⟩
 cases x with
 | int j=>
  have a:Rk c E F H (lE 0 j) _:=q
  unfold lE at a
  split at a
  .rename_i d
   obtain rfl:=bG.int_of r
   refine ⟨j,rfl,by omega,by omega,?_⟩
   have e0:(j - 0).toNat=j.toNat:=by rw[Int.sub_zero]
   rw[<-e0]
   exact Rk.ok a _ b H' s (aJH (by omega))
  .exact a.elim
 | _=>exact q.elim
end
def eJ(js:List (O9 Nat))(ρ:Sg):Sg:=js.map fun o=>o.bind fun j=>(ρ[j]?).join
def zN{α:Type}{js:List (O9 Nat)}{ρ:List (O9 α)}{i:Nat}{a:α}(h:(js.map fun o=>o.bind fun j=>(ρ[j]?).join)[i]? = some (some a)):∃ j,js[i]? = some (some j)/\ρ[j]? = some (some a):=by
 rw[AC] at h
 cases e:js[i]? with
 | none=>rw[e] at h;cases h
 | some o=>
  rw[e] at h
  have h':(o.bind fun j=>(ρ[j]?).join)=some a:=BL h
  cases o with
  | none=>cases h'
  | some j=>
   have h2:(ρ[j]?).join=some a:=h'
   cases e2:ρ[j]? with
   | none=>rw[e2] at h2;cases h2
   | some o2=>rw[e2] at h2;have:o2=some a:=h2;subst this;exact ⟨j,rfl,e2⟩
def zO{α:Type}{js:List (O9 Nat)}{ρ:List (O9 α)}{i j:Nat}{a:α}(h:js[i]? = some (some j))(h2:ρ[j]? = some (some a)):(js.map fun o=>o.bind fun j=>(ρ[j]?).join)[i]? = some (some a):=by
 rw[AC,h]
 show some ((ρ[j]?).join)=_
 rw[h2];rfl
def zP(js:List (O9 Nat)):Prop:=∀ (i k j:Nat),js[i]? = some (some j)->js[k]? = some (some j)->i=k
def x8{js:List (O9 Nat)}(h:js.Pairwise fun a b=>a=none\/a≠b):zP js:=fun i k j h1 h2=>by
 obtain ⟨c,e1⟩:=AI.mp h1
 obtain ⟨d,e2⟩:=AI.mp h2
 rw[EN] at h
 rcases DF i k with q|q|q
 .rcases h i k c d q with z|z
  · rw [e1] at z; cases z
  · exact absurd (e1.trans e2.symm) z
 .exact q
 .rcases h k i d c q with z|z
  · rw [e2] at z; cases z
  · exact absurd (e2.trans e1.symm) z
def Ab.cap{c:Ct}{ρ:Sg}{σ f:L2.St}{F H:Hp}{js:List (O9 Nat)}(b:Ab c ρ σ F H)(t:zP js)(k:fJ (mO js σ) f):Ab c (eJ js ρ) f F H where
 len:=by rw[k.1];unfold eJ mO;rw[AB,AB]
 fh:=b.fh
 slot:=fun i a h=>by
  obtain ⟨j,h1,h2⟩:=zN h
  obtain ⟨v,l,s⟩:=b.slot j a h2
  exact ⟨v,k.2 i v (zO h1 l),s⟩
 apart:=fun i p a q n h h' o o'=>by
  obtain ⟨j,h1,h2⟩:=zN h
  obtain ⟨m,d,g⟩:=zN h'
  have u:j≠m:=fun z=>n (t i p j h1 (by rw[d,z]))
  obtain ⟨v,l,_⟩:=b.slot j a h2
  obtain ⟨r,e,_⟩:=b.slot m q g
  rw[k.2 i v (zO h1 l),k.2 p r (zO d e),<-l,<-e]
  exact b.apart j m a q u h2 g o o'
 f0:=b.f0
 h0:=b.h0
 n0:=b.n0
 t0:=b.t0
def R.noEx{α:Type}:R α->R α
 | .ex _=>.bad
 | r=>r
@[simp] theorem R.noEx_ok{α:Type}(a:α):(R.ok a).noEx=.ok a:=id rfl
def aC3{α:Type}:O9 α->R α
 | some a=>.ok a
 | none=>.bad
@[simp] theorem p7{α:Type}(a:α):aC3 (some a)=.ok a:=id rfl
def compL(fs:Dz->Sg->O9 Sg)(ft:Sg->R Bool)(fe:Sg->R Dz)(ρ0:Sg):List Dz->R (List Dz)
 | []=>.ok []
 | x::t=>(aC3 (fs x ρ0)).bind fun ρ1=>(ft ρ1).noEx.bind fun b=>if b=true then (fe ρ1).noEx.bind fun y=>(compL fs ft fe ρ0 t).bind fun ys=>.ok (y::ys) else compL fs ft fe ρ0 t
theorem sJ{fs:Dz->Sg->O9 Sg}{a:Sg->R Bool}{fe:Sg->R Dz}{ρ0:Sg}{e:Er}:∀ {xs:List Dz},compL fs a fe ρ0 xs≠.ex e
 | []=>fun h=>by cases h
 | x::t=>fun h=>by
  unfold compL at h
  cases h1:fs x ρ0 with
  | none=>rw[h1] at h;cases h
  | some ρ1=>
   rw[h1] at h
   have h:((a ρ1).noEx.bind fun b=>if b=true then (fe ρ1).noEx.bind fun y=>(compL fs a fe ρ0 t).bind fun ys=>.ok (y::ys) else compL fs a fe ρ0 t)=.ex e:=h
   cases h2:a ρ1 with
   | bad=>rw[h2] at h;cases h
   | ex _=>rw[h2] at h;cases h
   | ok b=>
    rw[h2] at h
    have h:(if b=true then (fe ρ1).noEx.bind fun y=>(compL fs a fe ρ0 t).bind fun ys=>.ok (y::ys) else compL fs a fe ρ0 t)=.ex e:=h
    cases b with
    | false=>exact sJ (xs:=t) h
    | true=>
     have h:((fe ρ1).noEx.bind fun y=>(compL fs a fe ρ0 t).bind fun ys=>.ok (y::ys))=.ex e:=h
     cases c:fe ρ1 with
     | bad=>rw[c] at h;cases h
     | ex _=>rw[c] at h;cases h
     | ok y=>
      rw[c] at h
      have h:((compL fs a fe ρ0 t).bind fun ys=>.ok (y::ys))=.ex e:=h
      cases d:compL fs a fe ρ0 t with
      | bad=>rw[d] at h;cases h
      | ex e'=>exact sJ (xs:=t) (e:=e') d
      | ok ys=>rw[d] at h;cases h
def aHG{fs:Dz->Sg->O9 Sg}{a:Sg->R Bool}{fe:Sg->R Dz}{ρ0:Sg}{x:Dz}{t ys:List Dz}(h:compL fs a fe ρ0 (x::t)=.ok ys) :
  ∃ ρ1 b,fs x ρ0=some ρ1/\a ρ1=.ok b/\((b=true/\∃ y zs,fe ρ1=.ok y/\compL fs a fe ρ0 t=.ok zs/\ys=y::zs)\/(b=false/\compL fs a fe ρ0 t=.ok ys)):=by
 unfold compL at h
 cases h1:fs x ρ0 with
 | none=>rw[h1] at h;cases h
 | some ρ1=>
  rw[h1] at h
  have h:((a ρ1).noEx.bind fun b=>if b=true then (fe ρ1).noEx.bind fun y=>(compL fs a fe ρ0 t).bind fun ys=>.ok (y::ys) else compL fs a fe ρ0 t)=.ok ys:=h
  cases h2:a ρ1 with
  | bad=>rw[h2] at h;cases h
  | ex _=>rw[h2] at h;cases h
  | ok b=>
   rw[h2] at h
   have h:(if b=true then (fe ρ1).noEx.bind fun y=>(compL fs a fe ρ0 t).bind fun ys=>.ok (y::ys) else compL fs a fe ρ0 t)=.ok ys:=h
   refine ⟨ρ1,b,rfl,h2,?_⟩
   cases b with
   | false=>exact .inr ⟨rfl,h⟩
   | true=>
    refine .inl ⟨rfl,?_⟩
    have h:((fe ρ1).noEx.bind fun y=>(compL fs a fe ρ0 t).bind fun ys=>.ok (y::ys))=.ok ys:=h
    cases c:fe ρ1 with
    | bad=>rw[c] at h;cases h
    | ex _=>rw[c] at h;cases h
    | ok y=>
     rw[c] at h
     have h:((compL fs a fe ρ0 t).bind fun ys=>.ok (y::ys))=.ok ys:=h
     cases d:compL fs a fe ρ0 t with
     | bad=>rw[d] at h;cases h
     | ex e'=>rw[d] at h;cases h
     | ok zs=>rw[d] at h;cases h;exact ⟨y,zs,rfl,rfl,rfl⟩
def d0(js:List (O9 Nat))(fi:Sg->R (List Dz))(fs:Dz->Sg->O9 Sg)(ft:Sg->R Bool)(fe:Sg->R Dz):Sg->R (List Dz):=fun ρ=>(fi ρ).bind fun xs=>compL fs ft fe (eJ js ρ) xs
def fH:Sg->R Bool:=fun _=>.ok true
section
variable{X:Cx}{c:Ct}{E:XK}{e a b:E3}{pos:Pos}
def dD:L2.PIf X [] (tTf c E fH):=fun a5 s σ H Q I ⟨ρ,F,ab,k⟩=>L2.dD a5 s σ H Q I (Rk.ok k F H (Ext.refl ab.fh))
def aLR{js:List (O9 Nat)}{is:List Nat}{σ a b:L2.St}(k:fJ (mO js σ) a)(c:b.length=a.length)(h:∀ j:Nat,j∉is->b[j]? = a[j]?)(hi:∀ i∈is,js[i]? = some none):fJ (mO js σ) b:=
 ⟨c.trans k.1,fun i v e=>by
  by_cases q:i∈is
  .unfold mO at e
   rw[AC,hi i q] at e
   cases e
  .rw[h i q];exact k.2 i v e⟩
def aBA{N:List Str}{js:List (O9 Nat)}{scope:Scope}{tg t:E3}{u:List E3}{Y:Sg->R (List Dz)}{fs:Dz->Sg->O9 Sg}{A:Sg->R Bool}{fe:Sg->R Dz}{is:List Nat}(ho:zP js)(hi:∀ i∈is,js[i]? = some none)
  (hb:∀ (cl:List (Str×Az)) (C:Az) (s:S9) (H0:Hp) (fp:List Az),∃ g,PG (i5 X N scope cl C s H0 fp) tg g/\Tg c g fs is/\L2.PIf (i5 X N scope cl C s H0 fp) u (tTf c E0 A)/\PD (i5 X N scope cl C s H0 fp) c E0 t fe)
  {σ:L2.St} {H:Hp} {Q:VK} (h:tV (aCS c) c E (d0 js Y fs A fe) σ H Q):xN X N scope js tg t u (tI c E Y) σ H Q:=by
 obtain ⟨ρ,F,ab,k⟩:=h
 refine ⟨ρ,F,ab,(Rk.bind k).imp fun xs _ q J B F1 H1 s1 V G=>?_⟩
 cases D:compL fs A fe (eJ js ρ) xs with
 | bad=>rw[D] at q;exact q.elim
 | ex e=>exact absurd D sJ
 | ok ys=>
  rw[D] at q
  refine aOF (n:=xs.length) (fun i b H'=>∃ F',Ext F1 H1 F' H'/\b.length<=i/\∃ zs rest,DatVs c.K F' b zs/\compL fs A fe (eJ js ρ) (xs.drop i)=.ok rest/\zs++rest=ys) G.len ⟨F1,Ext.refl s1.fh,AU _,[],ys,.nil,D,rfl⟩ ?_ ?_ ?_ ?_ ?_
  .rintro i b H' _ ⟨F',_,h,_⟩;exact h
  .rintro i b H' d ⟨F',e1,_⟩
   exact G.go i F' H' e1.ff e1.fh (fun a o z=>e1.hh a o (V a o z)) d
  .rintro b H' ⟨F',e1,_⟩
   exact G.stop F' H' e1.ff e1.fh (fun a o z=>e1.hh a o (V a o z))
  .rintro i v b Ha Hb d ⟨F',e1,hlen,zs,rest,hd,hr,hz⟩ hy
   obtain ⟨L,e2,rx⟩:=G.yld i F' Ha v Hb xs[i] e1.ff e1.fh (fun a o z=>e1.hh a o (V a o z)) hy (AD d)
   have I:xs.drop i=xs[i]::xs.drop (i+1):=GA d
   rw[I] at hr
   obtain ⟨f,bb,hs,ht,l⟩:=aHG hr
   intro cl C s H0 fp
   obtain ⟨g,hg,W,U,he⟩:=hb cl C s H0 fp
   refine ⟨g,_,_,hg,U,he,fun r k0=>?_⟩
   have O:Ab c (eJ js ρ) r L Hb:=(ab.ext (s1.trans (e1.trans e2))).cap ho k0
   refine W v xs[i] _ f r L Hb _ O rx hs fun σ1 M S m=>⟨aLR k0 M S hi,f,L,m,?_⟩
   rw[ht]
   intro F3 H3 x
   rcases l with ⟨rfl,y,ws,P,j,rfl⟩|⟨rfl,j⟩
   .refine zB ⟨f,F3,m.ext x,?_⟩
    rw[P]
    intro w F4 H4 Z T
    refine ⟨F4,e1.trans (e2.trans (x.trans Z)),by rw[A5,B5];omega,zs++[y],ws,(hd.same (e2.trans (x.trans Z)).ff).append (.cons T .nil),j,by rw[List.append_assoc];exact hz⟩
   .exact zA ⟨F3,e1.trans (e2.trans x),by omega,zs,rest,hd.same (e2.trans x).ff,j,hz⟩
  .rintro b H' ⟨F',e1,_,zs,rest,hd,hr,hz⟩ p hp
   rw[List.drop_length] at hr
   cases hr
   rw[DP] at hz
   subst hz
   exact Rk.ok q (.ref p) F' _ (s1.trans (e1.trans (Ext.own e1.fh hp))) ⟨p,b,rfl,cL (s1.trans e1).hh hp,bN,cL e1.fh hp,hd⟩
def eH{N:List Str}{js:List (O9 Nat)}{scope:Scope}{tg f:E3}{d:List E3}{j:Sg->R (List Dz)}{fs:Dz->Sg->O9 Sg}{k:Sg->R Bool}{fe:Sg->R Dz}{is:List Nat}(h:PE X e (xN X N scope js tg f d (tI c E j)))(m:js.Pairwise fun a b=>a=none\/a≠b)(hi:∀ i∈is,js[i]? = some none)
 (l:∀ (cl:List (Str×Az)) (C:Az) (s:S9) (H0:Hp) (fp:List Az),∃ g,PG (i5 X N scope cl C s H0 fp) tg g/\Tg c g fs is/\L2.PIf (i5 X N scope cl C s H0 fp) d (tTf c E0 k)/\PD (i5 X N scope cl C s H0 fp) c E0 f fe) :
 PN X c E e (d0 js j fs k fe):=PE.imp h fun σ H Q q=>aBA (x8 m) hi l q
def zQ{i:Nat}{st:Stmt}{N:List Str}{js:List (O9 Nat)}{scope:Scope}{tg e:E3}{d:List E3}{f:Sg->R (List Dz)}{fs:Dz->Sg->O9 Sg}{j:Sg->R Bool}{fe:Sg->R Dz}{is:List Nat}(h:PS X st (nZ (xN X N scope js tg e d (tI c E f)) (l9 i)))(l:js.Pairwise fun a b=>a=none\/a≠b)(hi:∀ i∈is,js[i]? = some none)
 (k:∀ (cl:List (Str×Az)) (C:Az) (s:S9) (H0:Hp) (fp:List Az),∃ g,PG (i5 X N scope cl C s H0 fp) tg g/\Tg c g fs is/\L2.PIf (i5 X N scope cl C s H0 fp) d (tTf c E0 j)/\PD (i5 X N scope cl C s H0 fp) c E0 e fe) :
 PSf X c E st (fM i (d0 js f fs j fe)):=fX (PS.imp h fun D σ H q=>aBA (x8 l) hi k q)
end
def mG(fs:Dz->Sg->O9 Sg)(fb:Sg->R Fw):List Dz->Sg->R Fw
 | [],ρ=>.ok (.nx ρ)
 | x::t,ρ=>(aC3 (fs x ρ)).bind fun ρ1=>(fb ρ1).bind fun w=>match w with
  | .nx ρ2=>mG fs fb t ρ2
  | .ct ρ2=>mG fs fb t ρ2
  | .bk ρ2=>.ok (.nx ρ2)
  | .rt a=>.ok (.rt a)
def lA(fi:Sg->R (List Dz))(fs:Dz->Sg->O9 Sg)(fb:Sg->R Fw):Sg->R Fw:=fun ρ=>(fi ρ).bind fun xs=>mG fs fb xs ρ
section
variable{X:Cx}{c:Ct}{E:XK}{e a b:E3}{pos:Pos}{st:Stmt}
def dJ{g:TG}{C:Sg->R (List Dz)}{fs:Dz->Sg->O9 Sg}{is:List Nat}{fb:Sg->R Fw}(L:Tg c g fs is)(h:PS X st (aRE (tI0 c E C) g (tSf c E fb))):PSf X c E st (lA C fs fb):=PS.imp h fun D σ H A=>by
 obtain ⟨ρ,F,ab,k⟩:=A
 refine ⟨ρ,F,ab,(Rk.bind k).imp fun xs _ q J u H1 s1 t=>?_⟩
 refine ⟨fun i m σ H=>m=xs.length - i/\i<=xs.length/\∃ ρ' b,aR u b/\Ab c ρ' σ b H/\Rk c E b H (mG fs fb (xs.drop i) ρ') (lO c F D),⟨xs.length,by simp,CM _,ρ,u,cT _,ab.ext s1,Rk.ext s1 q⟩,?_⟩
 rintro i m l H2 ⟨rfl,hi,ρ2,F2,s2,ab2,k2⟩
 by_cases j:i < xs.length
 .refine .inr ⟨t.go i F2 H2 s2 ab2.fh tX j,fun d H'=>∃ ρ' b,aR u b/\Ab c ρ' d b H'/\Rk c E b H' (mG fs fb (xs.drop (i+1)) ρ') (lO c F D),fun d H' w=>⟨xs.length - (i+1),by omega,rfl,j,w⟩,fun v H3 y=>?_⟩
  obtain ⟨B,p,K⟩:=t.yld i F2 H2 v H3 xs[i] s2 ab2.fh tX y (AD j)
  have s:xs.drop i=xs[i]::xs.drop (i+1):=GA j
  rw[s] at k2
  unfold mG at k2
  cases h1:fs xs[i] ρ2 with
  | none=>rw[h1] at k2;exact k2.elim
  | some ρ3=>
   rw[h1] at k2
   refine L v xs[i] ρ2 ρ3 l B H3 _ (ab2.ext p) K h1 fun G _ _ x=>⟨ρ3,B,x,?_⟩
   have k3:Rk c E F2 H2 (fb ρ3) _:=Rk.bind k2
   cases h2:fb ρ3 with
   | bad=>rw[h2] at k3;exact k3.elim
   | ex e=>rw[h2] at k3;exact k3
   | ok w=>
    rw[h2] at k3
    have n:=Rk.ok k3
    have I:aR F B:=fun a o z=>p.ff a o (s2 a o (s1.ff a o z))
    cases w with
    | nx ρ4=>exact fun d b H' s' f=>⟨ρ4,b,fun a o z=>s' a o (p.ff a o (s2 a o z)),f,n⟩
    | ct ρ4=>exact fun d b H' s' f=>⟨ρ4,b,fun a o z=>s' a o (p.ff a o (s2 a o z)),f,n⟩
    | bk ρ4=>exact fun d b H' s' f=>Rk.ok n d b H' (fun a o z=>s' a o (I a o z)) f
    | rt a=>exact fun v b H' z r=>Rk.ok n v b H' z r
 .have e:i=xs.length:=by omega
  subst e
  rw[List.drop_length] at k2
  exact .inl ⟨t.stop F2 H2 s2 ab2.fh tX,Rk.ok k2 l F2 H2 (fun a o z=>s2 a o (s1.ff a o z)) ab2⟩
end
def dM(t:Sg->R Bool)(b:Sg->R Fw):Nat->Sg->R Fw
 | 0,_=>.bad
 | n+1,ρ=>(t ρ).bind fun k=>if k=true then (b ρ).bind fun w=>match w with
   | .nx ρ'=>dM t b n ρ'
   | .ct ρ'=>dM t b n ρ'
   | .bk ρ'=>.ok (.nx ρ')
   | .rt a=>.ok (.rt a)
  else .ok (.nx ρ)
open Classical in
def bV(t:Sg->R Bool)(b:Sg->R Fw):Sg->R Fw:=fun ρ=>if h:∃ n,dM t b n ρ≠.bad then dM t b h.choose ρ else .bad
def R.bind_mono{α β:Type}{r:R α}{f g:α->R β}(h:r.bind f≠.bad)(b:∀ a,f a≠.bad->g a=f a):r.bind g=r.bind f:=by
 cases r with
 | bad=>rfl
 | ex e=>rfl
 | ok a=>exact b a h
theorem nF{t:Sg->R Bool}{b:Sg->R Fw}:∀ {n m:Nat} {ρ:Sg},n<=m->dM t b n ρ≠.bad->dM t b m ρ=dM t b n ρ
 | 0,_,_,_,h=>absurd rfl h
 | n+1,0,_,hm,_=>absurd hm (by omega)
 | n+1,m+1,ρ,hm,h=>by
  unfold dM at h ⊢
  refine R.bind_mono h fun k hk=>?_
  cases k with
  | false=>rfl
  | true=>
   refine R.bind_mono (r:=b ρ) hk fun w c=>?_
   cases w with
   | nx ρ'=>exact nF (by omega) c
   | ct ρ'=>exact nF (by omega) c
   | bk ρ'=>rfl
   | rt a=>rfl
def tY{t:Sg->R Bool}{b:Sg->R Fw}{ρ:Sg}{n:Nat}(h:dM t b n ρ≠.bad):bV t b ρ=dM t b n ρ:=by
 have a:∃ n,dM t b n ρ≠.bad:=⟨n,h⟩
 unfold bV
 rw[dif_pos a]
 have c:=a.choose_spec
 rcases Nat.le_total n a.choose with q|q
 · exact nF q h
 · exact (nF q c).symm
theorem tZ (t : Sg -> R Bool) (b : Sg -> R Fw) (ρ : Sg) : bV t b ρ = (t ρ).bind fun k => if k = true then (b ρ).bind fun w => match w with
      | .nx ρ' => bV t b ρ'
      | .ct ρ' => bV t b ρ'
      | .bk ρ' => .ok (.nx ρ')
      | .rt a => .ok (.rt a)
    else .ok (.nx ρ) := by
  have key : ∀ n, (∀ k, t ρ = .ok k -> k = true -> ∀ w, b ρ = .ok w -> ∀ ρ', (w = .nx ρ' \/ w = .ct ρ') -> bV t b ρ' = dM t b n ρ') -> dM t b (n + 1) ρ = (t ρ).bind fun k => if k = true then (b ρ).bind fun w => match w with
      | .nx ρ' => bV t b ρ'
      | .ct ρ' => bV t b ρ'
      | .bk ρ' => .ok (.nx ρ')
      | .rt a => .ok (.rt a)
    else .ok (.nx ρ) := by
    intro n h
    unfold dM
    cases d : t ρ with
    | bad => rfl
    | ex e => rfl
    | ok k =>
      cases k with
      | false => rfl
      | true =>
        show ((b ρ).bind _) = ((b ρ).bind _)
        cases f : b ρ with
        | bad => rfl
        | ex e => rfl
        | ok w =>
          cases w with
          | nx ρ' => exact (h true d rfl _ f ρ' (.inl rfl)).symm
          | ct ρ' => exact (h true d rfl _ f ρ' (.inr rfl)).symm
          | bk ρ' => rfl
          | rt a => rfl
  by_cases l : ∃ n, dM t b n ρ ≠ .bad
  · obtain ⟨n, g⟩ := l
    cases n with
    | zero => exact absurd rfl g
    | succ n =>
      rw [tY g]
      refine key n fun k d o w f ρ' j => ?_
      subst o
      refine tY fun z => g ?_
      unfold dM
      rw [d]
      show ((b ρ).bind _) = _
      rw [f]
      rcases j with rfl | rfl
      · exact z
      · exact z
  · have m : bV t b ρ = .bad := by unfold bV; rw [dif_neg l]
    rw [m]
    have c : ∀ n, dM t b n ρ = .bad := fun n => C9 fun z => l ⟨n, z⟩
    cases d : t ρ with
    | bad => rfl
    | ex e => have := c 1; unfold dM at this; rw [d] at this; cases this
    | ok k =>
      cases k with
      | false => have := c 1; unfold dM at this; rw [d] at this; cases this
      | true =>
        show R.bad = ((b ρ).bind _)
        cases f : b ρ with
        | bad => rfl
        | ex e => have := c 1; unfold dM at this; rw [d] at this; change ((b ρ).bind _) = _ at this; rw [f] at this; cases this
        | ok w =>
          have i : ∀ ρ', (w = .nx ρ' \/ w = .ct ρ') -> bV t b ρ' = .bad := fun ρ' j => by
            unfold bV
            rw [dif_neg]
            rintro ⟨n, g⟩
            refine g ?_
            have := c (n + 1)
            unfold dM at this
            rw [d] at this
            change ((b ρ).bind _) = _ at this
            rw [f] at this
            rcases j with rfl | rfl <;> exact this
          cases w with
          | nx ρ' => exact (i ρ' (.inl rfl)).symm
          | ct ρ' => exact (i ρ' (.inr rfl)).symm
          | bk ρ' => have := c 1; unfold dM at this; rw [d] at this; change ((b ρ).bind _) = _ at this; rw [f] at this; cases this
          | rt a => have := c 1; unfold dM at this; rw [d] at this; change ((b ρ).bind _) = _ at this; rw [f] at this; cases this
section
variable{X:Cx}{c:Ct}{E:XK}{st:Stmt}
def dU{t:Sg->R Bool}{fb:Sg->R Fw}(h:PS X st (aIB (tTf c E t) (tSf c E fb))):PSf X c E st (bV t fb):=PS.imp h fun D σ H x=>by
 obtain ⟨ρ,F,ab,k⟩:=x
 have A:∃ n,dM t fb n ρ≠.bad:=C9 fun z=>by
  have:bV t fb ρ=.bad:=by unfold bV;rw[dif_neg z]
  rw[this] at k
  exact k
 obtain ⟨n,y⟩:=A
 rw[tY y] at k
 refine ⟨fun m σ H=>∃ ρ' d,aR F d/\Ab c ρ' σ d H/\Rk c E d H (dM t fb m ρ') (lO c F D),⟨n,ρ,F,cT F,ab,k⟩,?_⟩
 rintro m p H1 ⟨ρ1,F1,s1,ab1,k1⟩
 cases m with
 | zero=>exact k1.elim
 | succ m=>
  unfold dM at k1
  refine ⟨ρ1,F1,ab1,(Rk.bind k1).imp fun b _ q s H2 e2=>?_⟩
  have j:=ab1.ext e2
  cases b with
  | false=>exact zA (Rk.ok q p s H2 (fun a o z=>e2.ff a o (s1 a o z)) j)
  | true=>
   refine zB ⟨fun f H'=>∃ ρ' d,aR F d/\Ab c ρ' f d H'/\Rk c E d H' (dM t fb m ρ') (lO c F D),fun f H' w=>⟨m,by omega,w⟩,ρ1,s,j,?_⟩
   have i:Rk c E F1 H1 (fb ρ1) _:=Rk.bind (r:=fb ρ1) q
   cases h2:fb ρ1 with
   | bad=>rw[h2] at i;exact i.elim
   | ex e=>rw[h2] at i;exact i
   | ok w=>
    rw[h2] at i
    have l:=Rk.ok i
    have u:aR F s:=fun a o z=>e2.ff a o (s1 a o z)
    cases w with
    | nx ρ4=>exact fun f d H' s' g=>⟨ρ4,d,fun a o z=>s' a o (u a o z),g,l⟩
    | ct ρ4=>exact fun f d H' s' g=>⟨ρ4,d,fun a o z=>s' a o (u a o z),g,l⟩
    | bk ρ4=>exact fun f d H' s' g=>Rk.ok l f d H' (fun a o z=>s' a o (u a o z)) g
    | rt a=>exact fun v d H' z r=>Rk.ok l v d H' z r
end
def spG(K:Frag)(mg:Str->O9 V9)(T F1:Hp)(n:Nat)(G:List Dz->R Dz):Sp:=fun vs H Q E=>∃ F ds,aR F1 F/\aR T F/\aR F H/\DatVs K F vs ds/\ds.length=n/\match G ds with
 | .bad=>False
 | .ok d=>∀ v F' H',Ext F H F' H'->DatV K F' v d->Q v H'
 | .ex e=>∀ a C F' H',Ext F H F' H'->n6 K mg F' e a C->E (.ref C) (some a) H'
def Beh(P:P9)(w:W9)(K:Frag)(mg:Str->O9 V9)(base:H9)(T:Hp)(f:Az)(F1:Hp)(k n:Nat)(G:List Dz->R Dz):Prop:=
 ∃ fd ps,ps.length=n/\lH K fd ps []/\FnOk P w K mg base (CXe P w) k f fd ps (spG K mg T F1 n G)/\(PySem.W.keepIn K (.ref f)=true\/∃ oc od fd' sl,F1 f=some (FnO f ⟨oc,od,.func fd',sl⟩))
def gOf(P:P9)(w:W9)(K:Frag)(mg:Str->O9 V9)(base:H9)(T:Hp):Gb:=⟨Beh P w K mg base T,T,w⟩
def spF(g:Gb)(K:Frag)(mg:Str->O9 V9)(n:Nat)(G:List A->R A):Sp:=fun vs H Q E=>∃ F as,aR g.T F/\aR F H/\AFs g K mg F as vs/\as.length=n/\match G as with
 | .bad=>False
 | .ok a=>∀ v F' H',Ext F H F' H'->AF g K mg F' a v->Q v H'
 | .ex e=>∀ a C F' H',Ext F H F' H'->n6 K mg F' e a C->E (.ref C) (some a) H'
def aT(P:P9)(w:W9)(K:Frag)(mg:Str->O9 V9)(base:H9)(T:Hp)(k:Nat)(x:Str)(ps:List Str)(G:List A->R A):Prop:=Calls P w K mg base (CXe P w) k x ps (spF (gOf P w K mg base T) K mg ps.length G)
def aZ(n:Nat)(G:List A->R A)(f:Sg->R (List A)):Sg->R A:=fun ρ=>(f ρ).bind fun as=>if as.length=n then G as else .bad
def bQ{X:Cx}{c:Ct}{E:XK}{e:E3}{n:Nat}{G:List A->R A}{g:Gb}{K:Frag}{mg:Str->O9 V9}{f:Sg->R (List A)}(hG:g=c.g)(p:K=c.K)(t:mg=c.mg)(h:PE X e (aGZ (spF g K mg n G) [] E (tAv c E f))):PV X c E e (aZ n G f):=PE.imp h fun σ H Q i=>by
 obtain ⟨ρ,F,ab,k⟩:=i
 subst hG p t
 refine ⟨ρ,F,ab,(Rk.bind k).imp fun l _ q vs m H1 s1 r1=>?_⟩
 by_cases b:l.length=n
 .rw[AL b] at q
  refine ⟨m,l,fun a o z=>s1.ff a o (ab.f0 a o (ab.t0 a o z)),s1.fh,by rw[DP];exact r1,b,?_⟩
  cases j:G l with
  | bad=>rw[j] at q;exact q
  | ok a=>rw[j] at q;exact fun v d H' s r=>Rk.ok q v d H' (s1.trans s) r
  | ex e=>rw[j] at q;exact fun a C d H' s r=>q a C d H' ((ab.all.trans s1).trans s) r
 .rw[AK b] at q;exact q.elim
def fnF(n:Nat)(fb:Sg->R Fw):List A->R A:=fun as=>(fb (as.map some++List.replicate (n - as.length) none)).bind fun w=>match w with
 | .rt (.l _)=>.bad
 | .rt a=>.ok a
 | .nx _=>.ok (.d .none)
 | _=>.bad
theorem AFs.get{g:Gb}{K:Frag}{mg:Str->O9 V9}{F:Hp}:∀ {as:List A} {vs:List V} {i:Nat} {a:A},AFs g K mg F as vs->as[i]? = some a->∃ v,vs[i]? = some v/\AF g K mg F a v
 | [],[],_,_,_,h=>by simp at h
 | a::as,v::vs,0,_,h,e=>by simp at e;subst e;exact ⟨v,rfl,h.1⟩
 | a::as,v::vs,i+1,_,h,e=>by
  obtain ⟨w,h1,h2⟩:=AFs.get (i:=i) h.2 (by simpa using e)
  exact ⟨w,by simpa using h1,h2⟩
def t4{α:Type}{c:List α}{n i:Nat}{a:α}(h:(c.map some++List.replicate n none)[i]? = some (some a)):c[i]? = some a:=by
 by_cases hi:i < c.length
 .rw[B1 (by rw[AB];exact hi),AC] at h
  cases e:c[i]? with
  | none=>rw[e] at h;cases h
  | some b=>rw[e] at h;cases h;rfl
 .rw[CF (by rw[AB];omega),EU] at h
  split at h
  · cases h
  · cases h
def aC4{g:Gb}{c:List (Str×Az)}{cls:Str->O9 ClSt}{K:Frag}{mg:Str->O9 V9}{w:W9}{F H:Hp}{d:List A}{vs:List V}{n:Nat}(f:aR g.T F)(s:aR F H)(h:AFs g K mg F d vs):Ab ⟨K,mg,w,F,H,g,c,cls⟩ (d.map some++List.replicate (n - d.length) none) (vs.map some++List.replicate (n - vs.length) none) F H where
 len:=by rw[A5,A5,AB,AB,EI,EI,h.len]
 fh:=s
 slot:=fun i a e=>by
  obtain ⟨v,h1,h2⟩:=h.get (t4 e)
  refine ⟨v,?_,AO.of h2⟩
  have hi:i < vs.length:=(AI.mp h1).1
  rw[B1 (by rw[AB];exact hi),AC,h1];rfl
 apart:=fun i j a b _ e1 _ o _=>by
  obtain ⟨v,h1,h2⟩:=h.get (t4 e1)
  rw[AF.notOwn h2] at o
  cases o
 f0:=cT F
 h0:=cT H
 n0:=fun a e n=>absurd e n
 t0:=f
theorem u0{g:Gb}{c:List (Str×Az)}{cls:Str->O9 ClSt}{K:Frag}{mg:Str->O9 V9}{w:W9}{n:Nat}{fb:Sg->R Fw}{vs:List V}{d:List A}{F H:Hp}{Q:VK}{E:XK}(h0:aR g.T F)(h1:aR F H)(h2:AFs g K mg F d vs)(b:match fnF n fb d with
 | .bad=>False
 | .ok a=>∀ v F' H',Ext F H F' H'->AF g K mg F' a v->Q v H'
 | .ex e=>∀ a C F' H',Ext F H F' H'->n6 K mg F' e a C->E (.ref C) (some a) H'):tSf ⟨K,mg,w,F,H,g,c,cls⟩ E fb {nx:=fun _ H'=>Q .non H',rt:=Q} (vs.map some++List.replicate (n - vs.length) none) H:=by
 refine ⟨_,F,aC4 h0 h1 h2,?_⟩
 unfold fnF at b
 cases e:fb (d.map some++List.replicate (n - d.length) none) with
 | bad=>rw[e] at b;exact b
 | ex x=>rw[e] at b;exact b
 | ok w=>
  rw[e] at b
  cases w with
  | nx ρ'=>exact fun f F' H' s ab=>b .non F' H' ab.all .non
  | rt a=>
   cases a with
   | l xs=>exact b.elim
   | _=>exact b
  | bk ρ'=>exact b.elim
  | ct ρ'=>exact b.elim
section
variable{P:P9}{w:W9}{K:Frag}{mg:Str->O9 V9}{base:H9}{T:Hp}{x:Str}{st:Stmt}{N ps:List Str}{k:Nat}
def cP{fb:Sg->R Fw}(D:DefAt K mg x st ps)(S:FnScope N ps (aO st))
  (a:∀ (f:Az) (cdv:V9) (A:U9) (outer:List Env) (s:S9) (H F:Hp) (E:XK),Room k (A.deeper (envOfC x (aO st) s.heap.objs.size f cdv))->
   qN ((lL (CXe P w) P w K mg base N x (aO st) f cdv A outer s H E).fly E) ⟨K,mg,w,F,H,gOf P w K mg base T,(envOfC x (aO st) s.heap.objs.size f cdv).cells,fun _=>none⟩ E (dR st) fb):aT P w K mg base T (k+1) x ps (fnF N.length fb):=by
 refine D.okX S (fun vs H Q E h=>?_) (fun f cdv A outer s H vs Q E g h=>?_)
 .obtain ⟨F,e,_,_,h2,b,_⟩:=h
  rw[h2.len,b]
 .obtain ⟨F,e,c,h1,h2,b,d⟩:=h
  exact ⟨_,a f cdv A outer s H F E g,u0 c h1 h2 d⟩
def aT.imp{G b:List A->R A}(C:aT P w K mg base T k x ps G)(h:∀ as,b as≠.bad->G as=b as):aT P w K mg base T k x ps b:=Calls.imp C fun vs H Q E=>by
 rintro ⟨F,as,h0,h1,h2,h3,h4⟩
 refine ⟨F,as,h0,h1,h2,h3,?_⟩
 cases e:b as with
 | bad=>rw[e] at h4;exact h4.elim
 | ok a=>rw[h as (by rw[e];exact fun z=>nomatch z),e];rw[e] at h4;exact h4
 | ex x=>rw[h as (by rw[e];exact fun z=>nomatch z),e];rw[e] at h4;exact h4
end
def aR6(cn:Str)(fs:List Str)(f:Sg->R (List Dz)):Sg->R Fw:=fun ρ=>(f ρ).bind fun xs=>if xs.length=fs.length then .ex ⟨cn,fs.zip xs⟩ else .bad
def tPf(c:Ct)(E:XK)(f:Sg->R (O9 Int)):TO:=fun σ H Q=>∃ ρ F,Ab c ρ σ F H/\Rk c E F H (f ρ) fun o=>∀ F' H',Ext F H F' H'->Q o H'
def oNo:Sg->R (O9 Int):=fun _=>.ok none
def oSo(f:Sg->R Dz):Sg->R (O9 Int):=fun ρ=>(f ρ).bind fun x=>match x with
 | .int i=>.ok (some i)
 | _=>.bad
def t5{α:Type}(xs:List α)(lo hi:O9 Int):List α:=(xs.drop (HT.sIx xs.length 0 lo)).take (HT.sIx xs.length xs.length hi - HT.sIx xs.length 0 lo)
def dSl:Dz->O9 Int->O9 Int->R Dz
 | .list xs,lo,hi=>.ok (.list (t5 xs lo hi))
 | .tuple xs,lo,hi=>if ¬ (HT.sIx xs.length 0 lo=0/\HT.sIx xs.length xs.length hi=xs.length) then .ok (.tuple (t5 xs lo hi)) else .bad
 | .str z,lo,hi=>if z.length<=16777216 then .ok (.str (Txt.slice z lo hi)) else .bad
 | _,_,_=>.bad
def eSl{α:Type}(g:Dz->O9 Int->O9 Int->R α)(f:Sg->R Dz)(lo hi:Sg->R (O9 Int)):Sg->R α:=fun ρ=>(f ρ).bind fun x=>(lo ρ).bind fun l=>(hi ρ).bind fun h=>g x l h
def aC5{K:Frag}{F:Hp}{vs:List V}{xs:List Dz}(h:DatVs K F vs xs)(lo hi:O9 Int):DatVs K F (tQ vs lo hi) (t5 xs lo hi):=by
 unfold tQ t5
 rw[h.length]
 exact (h.drop _).take _
def PO.imp{X:Cx}{e:O9 E3}{t t':TO}(h:PO X e t)(i:∀ σ H Q,t' σ H Q->t σ H Q):PO X e t':=fun a5 s σ H Q I q=>h a5 s σ H Q I (i σ H Q q)
section
variable{X:Cx}{c:Ct}{E:XK}{e a b:E3}{pos p2:Pos}{lo hi:O9 E3}
def aB0:PO X none (tPf c E oNo):=PO.imp aN9 fun σ H Q ⟨ρ,F,ab,k⟩=>Rk.ok k F H (Ext.refl ab.fh)
def aB1{f:Sg->R Dz}(h:PR X c E e f):PO X (some e) (tPf c E (oSo f)):=PO.imp (aOA h) fun σ H Q ⟨ρ,F,ab,k⟩=>⟨ρ,F,ab,(Rk.bind k).imp fun x _ q v a H' s r=>by
 cases x with
 | int i=>exact ⟨i,bG.int_of r,Rk.ok q a H' s⟩
 | _=>exact q.elim⟩
def aR7(c:Ct){α:Type}(Rb:VR α)(g:Dz->O9 Int->O9 Int->R α):V->O9 Int->O9 Int->Hp->VK->Prop:=fun v lo hi H Q=>∃ F x d,aR F H/\bG c.K F H v x/\g x lo hi=.ok d/\∀ w F' H',Ext F H F' H'->Rb d w H F' H'->Q w H'
def aUL(o:X.K=c.K):SlR X (aR7 c (dC c) dSl):=by
 intro a5 s σ H v x f n lo hi sl Q I j k i g h
 obtain ⟨F,d,w,b,m,a,q⟩:=h
 unfold dSl at a
 split at a
 .cases a
  obtain ⟨p,vs,rfl,h1,h2⟩:=bG.lst_of b m
  rw[<-o] at h1
  exact aOE a5 s σ H _ x f n lo hi sl Q I j k i g ⟨p,vs,rfl,h1,fun l e=>q _ _ _ (Ext.new b e) (.lst (SqL.of bN) ((aC5 h2 lo hi).same (aR.upd (cL b e))))⟩
 .rename_i xs _ _
  split at a
  .rename_i r
   cases a
   obtain ⟨p,vs,rfl,_,h1,h2⟩:=bG.tup_of b m
   rw[<-o] at h1
   exact aRQ a5 s σ H _ x f n lo hi sl Q I j k i g ⟨p,vs,rfl,h1,by rw[h2.length];exact r,fun l e=>q _ _ _ (Ext.new b e) (.tup (SqT.of bN) ((aC5 h2 lo hi).same (aR.upd (cL b e))))⟩
  .cases a
 .split at a
  .rename_i t
   cases a
   obtain rfl:=bG.str_of m
   exact aRW a5 s σ H _ x f n lo hi sl Q I j k i g ⟨_,rfl,by rw[fD];exact t,q _ F H (Ext.refl b) (.str _)⟩
  .cases a
 .cases a
def aOZ{α:Type}{Rb:VR α}{g:Dz->O9 Int->O9 Int->R α}(u:∀ x l h e,g x l h≠.ex e)(n:aCT Rb){f:Sg->R Dz}{m fh:Sg->R (O9 Int)}{σ:L2.St}{H:Hp}{Q:VK}(h:tV Rb c E (eSl g f m fh) σ H Q) :
  tSl (aR7 c Rb g) (tV (bO c) c E f) (tPf c E m) (tPf c E fh) σ H Q:=by
 obtain ⟨ρ,F,ab,k⟩:=h
 refine ⟨ρ,F,ab,(Rk.bind k).imp fun x _ q v p H1 s1 r1=>⟨ρ,p,ab.ext s1,((Rk.bind q).ext s1).imp fun l _ q o H2 i=>⟨ρ,o,ab.ext (s1.trans i),((Rk.bind q).ext (s1.trans i)).imp fun hh _ q y H3 j=>?_⟩⟩⟩
 cases b:g x l hh with
 | bad=>rw[b] at q;exact q.elim
 | ex e=>exact absurd b (u x l hh e)
 | ok d=>
  rw[b] at q
  have a:=(s1.trans i).trans j
  exact ⟨y,x,d,j.fh,bG.ext (i.trans j) r1,b,fun w t H' s r=>Rk.ok q w t H' (a.trans s) (n _ _ _ _ _ _ a.hh r)⟩
def aLS:∀ x l h e,dSl x l h≠.ex e:=by intro x l h e q;unfold dSl at q;split at q<;>(try split at q)<;>cases q
def sK{f:Sg->R Dz}{a fh:Sg->R (O9 Int)}(b:X.K=c.K)(d:PR X c E e f)(g:PO X lo (tPf c E a))(i:PO X hi (tPf c E fh)):PD X c E (.Subscript e (.Slice lo hi none p2) pos) (eSl dSl f a fh):=
 PE.imp (aK8 (aUL b) d g i) fun σ H Q h=>aOZ aLS (mE c) h
def tyN:Dz->String
 | .none=>"NoneType"
 | .bool _=>"bool"
 | .int _=>"int"
 | .str _=>"str"
 | .list _=>"list"
 | .tuple _=>"tuple"
 | .dict _=>"dict"
def jK(t T:String):Bool:=t == T || (T == "int" && t == "bool")
def gZ(T:String)(x:Dz):R Dz:=match x with
 | .dict _=>.bad
 | x=>.ok (.bool (jK (tyN x) T))
structure Kit(K:Frag)(T:String):Prop where
 non:PySem.W.kitOne K (.type "NoneType") (.type T)=some (jK "NoneType" T)
 bl:PySem.W.kitOne K (.type "bool") (.type T)=some (jK "bool" T)
 int:PySem.W.kitOne K (.type "int") (.type T)=some (jK "int" T)
 str:PySem.W.kitOne K (.type "str") (.type T)=some (jK "str" T)
 lst:PySem.W.kitOne K (.type "list") (.type T)=some (jK "list" T)
 tup:PySem.W.kitOne K (.type "tuple") (.type T)=some (jK "tuple" T)
def aO0(K:Frag):Kit K "int":=⟨rfl,rfl,rfl,rfl,rfl,rfl⟩
def aLT(K:Frag):Kit K "bool":=⟨rfl,rfl,rfl,rfl,rfl,rfl⟩
def o3(K:Frag):Kit K "str":=⟨rfl,rfl,rfl,rfl,rfl,rfl⟩
def p8(K:Frag):Kit K "tuple":=⟨rfl,rfl,rfl,rfl,rfl,rfl⟩
def aLU{X:Cx}:lG X (.builtin "isinstance") (fun xs H Q=>∃ a ys c cv b,xs=[.ref a,c]/\SqL X.K H a ys/\aG5 c=some cv/\PySem.W.kitOne X.K (.type "list") cv=some b/\Q (.bl b) H):=by
 intro a5 s σ H xs us Q I r h
 obtain ⟨a,ys,c,cv,b,rfl,f,k,e,q⟩:=h
 obtain ⟨u,v,rfl,g,d⟩:=aGY r
 obtain rfl:=zE k d
 cases (show u=Value.ref a from g)
 obtain ⟨i,_,j,_⟩:=I.list f
 obtain ⟨o,h1,h2,_⟩:=j.isList
 exact CB F6 I.kIn ⟨o,h1,h2⟩ e (fun z=>nomatch z) fun tk=>⟨.bl b,H,I.tok _,rfl,q⟩
def aLV(c:Ct)(T:String):List V->Hp->VK->Prop:=fun xs H Q=>∃ F x v d,xs=[v,.ty T]/\aR F H/\bG c.K F H v x/\gZ T x=.ok d/\∀ w F' H',Ext F H F' H'->DatV c.K F' w d->Q w H'
def gR(g:X.K=c.K){T:String}(k:Kit X.K T):lG X (.builtin "isinstance") (aLV c T):=by
 intro a5 s σ H xs us Q I r h
 obtain ⟨F,x,v,d,rfl,a,f,e,q⟩:=h
 cases x with
 | dict _=>cases e
 | none=>
  cases e
  obtain rfl:=bG.non_of f
  exact nE a5 s σ H _ us Q I r ⟨_,_,_,_,_,rfl,.pl .non,rfl,k.non,q _ F H (Ext.refl a) (.bl _)⟩
 | bool b=>
  cases e
  obtain rfl:=bG.bl_of f
  exact nE a5 s σ H _ us Q I r ⟨_,_,_,_,_,rfl,.pl (.bl b),rfl,k.bl,q _ F H (Ext.refl a) (.bl _)⟩
 | int b=>
  cases e
  obtain rfl:=bG.int_of f
  exact nE a5 s σ H _ us Q I r ⟨_,_,_,_,_,rfl,.pl (.int b),rfl,k.int,q _ F H (Ext.refl a) (.bl _)⟩
 | str b=>
  cases e
  obtain rfl:=bG.str_of f
  exact nE a5 s σ H _ us Q I r ⟨_,_,_,_,_,rfl,.pl (.str b),rfl,k.str,q _ F H (Ext.refl a) (.bl _)⟩
 | tuple xs=>
  cases e
  obtain ⟨p,vs,rfl,_,h1,h2⟩:=bG.tup_of a f
  rw[<-g] at h1
  exact aCE a5 s σ H _ us Q I r ⟨p,vs,_,_,_,rfl,h1,rfl,k.tup,q _ F H (Ext.refl a) (.bl _)⟩
 | list xs=>
  cases e
  obtain ⟨p,vs,rfl,h1,h2⟩:=bG.lst_of a f
  rw[<-g] at h1
  exact aLU a5 s σ H _ us Q I r ⟨p,vs,_,_,_,rfl,h1,rfl,k.lst,q _ F H (Ext.refl a) (.bl _)⟩
def jX{T:String}{f:Sg->R Dz}(h:PE X e (tCB (aLV c T) (gL (tV (bO c) c E f) (gL (tC (.ty T)) kC)))):PD X c E e (e1 (gZ T) f):=PE.imp h fun σ H Q d=>by
 obtain ⟨ρ,F,ab,k⟩:=d
 refine ⟨ρ,F,ab,(Rk.bind k).imp fun x _ q v b H1 s1 r1=>?_⟩
 show aLV c T [v,.ty T] H1 Q
 cases x with
 | dict _=>exact q.elim
 | none=>exact ⟨b,_,v,_,rfl,s1.fh,r1,rfl,fun w a H' s r=>Rk.ok q w a H' (s1.trans s) r⟩
 | bool _=>exact ⟨b,_,v,_,rfl,s1.fh,r1,rfl,fun w a H' s r=>Rk.ok q w a H' (s1.trans s) r⟩
 | int _=>exact ⟨b,_,v,_,rfl,s1.fh,r1,rfl,fun w a H' s r=>Rk.ok q w a H' (s1.trans s) r⟩
 | str _=>exact ⟨b,_,v,_,rfl,s1.fh,r1,rfl,fun w a H' s r=>Rk.ok q w a H' (s1.trans s) r⟩
 | list _=>exact ⟨b,_,v,_,rfl,s1.fh,r1,rfl,fun w a H' s r=>Rk.ok q w a H' (s1.trans s) r⟩
 | tuple _=>exact ⟨b,_,v,_,rfl,s1.fh,r1,rfl,fun w a H' s r=>Rk.ok q w a H' (s1.trans s) r⟩
def sL:List Dz->O9 (List Str)
 | []=>some []
 | .str s::t=>(sL t).map (s :: ·)
 | _=>none
theorem qV{K:Frag}{F:Hp}:∀ {vs:List V} {xs:List Dz} {ys:List Str},DatVs K F vs xs->sL xs=some ys->vs=ys.map V.str
 | _,_,ys,.nil,e=>by cases e;rfl
 | _,_,ys,.cons (d:=d) (ds:=t) h h2,e=>by
  cases d with
  | str b=>
   unfold sL at e
   cases q:sL t with
   | none=>rw[q] at e;cases e
   | some cs=>
    rw[q] at e
    cases e
    rw[qV h2 q,h.str_of];rfl
  | _=>cases e
def aB2:Dz->Dz->R Dz
 | .str sep,.list xs=>match sL xs with
  | some ys=>if (ys.map fun y=>y.length).sum+ys.length * sep.length<=16777216 then .ok (.str (Txt.join sep ys)) else .bad
  | none=>.bad
 | _,_=>.bad
def aO1{f g:Sg->R Dz}(m:X.K=c.K)(h:PE X e (tBM X.K "str" (aNE X.K) (tV (bO c) c E f) (gL (tV (bO c) c E g) kC)))(n:∀ ρ x,f ρ=.ok x->∃ z,x=.str z):PD X c E e (e2 aB2 f g):=PE.imp h fun σ H Q ⟨ρ,F,ab,k⟩=>by
 refine ⟨ρ,F,ab,(Rk.bind k).imp fun x ex q v o H1 s1 r1=>?_⟩
 obtain ⟨z,rfl⟩:=n ρ x ex
 obtain rfl:=bG.str_of r1
 refine ⟨rfl,ρ,o,ab.ext s1,((Rk.bind q).ext s1).imp fun y _ q u l H2 b r2=>?_⟩
 cases y with
 | list xs=>
  have a:Rk c E F H (match sL xs with
   | some ys=>if (ys.map fun y=>y.length).sum+ys.length * z.length<=16777216 then R.ok (PyData.str (Txt.join z ys)) else .bad
   | none=>.bad) (fun d=>∀ v F' H',Ext F H F' H'->dC c d v H F' H'->Q v H'):=q
  split at a
  .rename_i ys j
   split at a
   .rename_i i
    obtain ⟨p,vs,rfl,h1,h2⟩:=bG.lst_of b.fh r2
    rw[<-m] at h1
    obtain rfl:=qV h2 j
    exact ⟨z,p,ys,rfl,rfl,h1,i,Rk.ok a _ l H2 (s1.trans b) (.str _)⟩
   .exact a.elim
  .exact a.elim
 | _=>exact q.elim
def x9:Dz->Dz->R Dz
 | .str z,.str y=>match Builtin.Str.occurrences z y 0 z.length 1 with
  | i::_=>.ok (.int i)
  | []=>.bad
 | _,_=>.bad
def aLW{f g:Sg->R Dz}(h:PE X e (tBM X.K "str" aIR (tV (bO c) c E f) (gL (tV (bO c) c E g) kC)))(j:∀ ρ x,f ρ=.ok x->∃ z,x=.str z):PD X c E e (e2 x9 f g):=PE.imp h fun σ H Q ⟨ρ,F,ab,k⟩=>by
 refine ⟨ρ,F,ab,(Rk.bind k).imp fun x ex q v l H1 s1 r1=>?_⟩
 obtain ⟨z,rfl⟩:=j ρ x ex
 obtain rfl:=bG.str_of r1
 refine ⟨rfl,ρ,l,ab.ext s1,((Rk.bind q).ext s1).imp fun y _ q u b H2 n r2=>?_⟩
 cases y with
 | str y=>
  have a:Rk c E F H (match Builtin.Str.occurrences z y 0 z.length 1 with
   | i::_=>R.ok (PyData.int i)
   | []=>.bad) (fun d=>∀ v F' H',Ext F H F' H'->dC c d v H F' H'->Q v H'):=q
  split at a
  .rename_i i rest m
   obtain rfl:=bG.str_of r2
   exact ⟨z,y,i,rest,rfl,rfl,m,Rk.ok a _ b H2 (s1.trans n) (.int _)⟩
  .exact a.elim
 | _=>exact q.elim
end
def eO(a6:List (Dz×Dz))(k:Dz):O9 Dz:=(a6.find? fun p=>decide (p.1=k)).map (·.2)
def cQ(a6:List (Dz×Dz))(k:Dz):Bool:=(eO a6 k).isSome
def putM(a6:List (Dz×Dz))(k v:Dz):List (Dz×Dz):=if cQ a6 k=true then a6.map (fun p=>if p.1=k then (p.1,v) else p) else a6++[(k,v)]
theorem zR{K:Frag}{F:Hp}{k:Dz}:∀ {es:List Ent} {a6:List (Dz×Dz)},es.map (·.1)=a6.map (·.1)->DatVs K F (es.map (·.2.2)) (a6.map (·.2))->
  (atE es k=none/\eO a6 k=none)\/∃ v d,atE es k=some v/\eO a6 k=some d/\DatV K F v d
 | [],[],_,_=>.inl ⟨rfl,rfl⟩
 | [],_::_,h,_=>by cases h
 | _::_,[],h,_=>by cases h
 | e::es,p::a6,h,r=>by
  rw[AY,AY] at h r
  injection h with h1 h2
  obtain ⟨v,t,e1,r1,r2⟩:=r.cons_of
  rw[E9] at e1
  obtain ⟨rfl,rfl⟩:=e1
  have a:=zR (k:=k) h2 r2
  unfold atE eO at a ⊢
  rw[DD,DD,h1]
  by_cases q:p.1=k
  · rw [AX q]; exact .inr ⟨_, _, rfl, rfl, r1⟩
  · rw [BA q]; exact a
def MapRel.get{K:Frag}{F:Hp}{es:List Ent}{a:List (Dz×Dz)}(m:MapRel K F es a)(k:Dz):(atE es k=none/\eO a k=none)\/∃ v d,atE es k=some v/\eO a k=some d/\DatV K F v d:=zR m.k1 m.vs
def MapRel.has{K:Frag}{F:Hp}{es:List Ent}{c:List (Dz×Dz)}(m:MapRel K F es c)(k:Dz):(atE es k).isSome=cQ c k:=by
 unfold cQ
 rcases m.get k with ⟨a,b⟩|⟨v,d,a,b,_⟩<;>rw[a,b]<;>rfl
def wQ{a:List (Dz×Dz)}{k:Dz}:cQ a k=true↔k∈a.map (·.1):=by
 unfold cQ eO
 rw[EW]
 induction a with
 | nil=>simp
 | cons p t ih=>
  rw[DD]
  by_cases q:p.1=k
  .rw[AX q];simp[q]
  .rw[BA q,ih,AY]
   exact ⟨fun z=>AJ _ z,fun z=>(AT.mp z).resolve_left (fun w=>q w.symm)⟩
def aJI{a:List (Dz×Dz)}{k v:Dz}:(putM a k v).map (·.1)=if cQ a k=true then a.map (·.1) else a.map (·.1)++[k]:=by
 unfold putM
 cases h:cQ a k with
 | true=>
  rw[AL rfl,AL rfl,A6]
  refine BI fun p _=>?_
  show (if p.1=k then (p.1,v) else p).1=p.1
  split<;>rfl
 | false=>rw[AK (by decide),AK (by decide),BJ];rfl
theorem aFN{K:Frag}{F:Hp}{k d:Dz}{v:V}(r:DatV K F v d):∀ {es:List Ent} {a6:List (Dz×Dz)},es.map (·.1)=a6.map (·.1)->DatVs K F (es.map (·.2.1)) (a6.map (·.1))->DatVs K F (es.map (·.2.2)) (a6.map (·.2))->
  (es.map fun e=>if e.1=k then (e.1,e.2.1,v) else e).map (·.1)=(a6.map fun p=>if p.1=k then (p.1,d) else p).map (·.1) /\
  DatVs K F ((es.map fun e=>if e.1=k then (e.1,e.2.1,v) else e).map (·.2.1)) ((a6.map fun p=>if p.1=k then (p.1,d) else p).map (·.1)) /\
  DatVs K F ((es.map fun e=>if e.1=k then (e.1,e.2.1,v) else e).map (·.2.2)) ((a6.map fun p=>if p.1=k then (p.1,d) else p).map (·.2))
 | [],[],_,_,_=>⟨rfl,.nil,.nil⟩
 | [],_::_,h,_,_=>by cases h
 | _::_,[],h,_,_=>by cases h
 | e::es,p::a6,h,rk,rv=>by
  rw[AY,AY] at h rk rv
  injection h with h1 h2
  obtain ⟨_,_,e1,r1,r2⟩:=rk.cons_of
  rw[E9] at e1
  obtain ⟨rfl,rfl⟩:=e1
  obtain ⟨_,_,e1,c,g⟩:=rv.cons_of
  rw[E9] at e1
  obtain ⟨rfl,rfl⟩:=e1
  obtain ⟨f,b,a⟩:=aFN r h2 r2 g
  simp only[AY]
  rw[h1,f]
  by_cases q:p.1=k
  · rw [AL q, AL q]; exact ⟨rfl, .cons r1 b, .cons r a⟩
  · rw [AK q, AK q]; exact ⟨by rw [h1], .cons r1 b, .cons c a⟩
def MapRel.put{K:Frag}{F:Hp}{es:List Ent}{c:List (Dz×Dz)}{k d:Dz}{kv v:V}(m:MapRel K F es c)(l:DatV K F kv k)(r:DatV K F v d):MapRel K F (pH es k kv v) (putM c k d):=by
 have n:=m.has k
 have nd:((putM c k d).map (·.1)).Nodup:=by
  rw[aJI]
  cases h:cQ c k with
  | true=>rw[AL rfl];exact m.nd
  | false=>
   rw[AK (by decide),CW]
   refine ⟨m.nd,by simp,fun a f b e z=>?_⟩
   rw[AQ] at e
   subst e z
   rw[wQ.mpr f] at h
   cases h
 unfold pH
 rw[n]
 unfold putM at nd ⊢
 cases h:cQ c k with
 | true=>
  rw[h,AL rfl] at nd
  rw[AL rfl,AL rfl]
  obtain ⟨j,i,g⟩:=aFN (k:=k) r m.k1 m.k2 m.vs
  exact ⟨j,i,g,nd⟩
 | false=>
  rw[h,AK (by decide)] at nd
  rw[AK (by decide),AK (by decide)]
  refine ⟨by rw[BJ,BJ,m.k1];rfl,?_,?_,nd⟩
  .rw[BJ,BJ];exact m.k2.append (.cons l .nil)
  .rw[BJ,BJ];exact m.vs.append (.cons r .nil)
theorem p9{K:Frag}{F:Hp}:∀ {es:List Ent} {a6:List (Dz×Dz)},es.map (·.1)=a6.map (·.1)->DatVs K F (es.map (·.2.1)) (a6.map (·.1))->∀ e∈es,DatV K F e.2.1 e.1
 | [],_,_,_,e,he=>by cases he
 | _::_,[],h,_,_,_=>by cases h
 | e0::es,p::a6,h,rk,e,he=>by
  rw[AY,AY] at h rk
  injection h with h1 h2
  obtain ⟨_,_,e1,r1,r2⟩:=rk.cons_of
  rw[E9] at e1
  obtain ⟨rfl,rfl⟩:=e1
  rcases AT.mp he with z|z
  · subst z; rw [h1]; exact r1
  · exact p9 h2 r2 e z
section
variable{X:Cx}{c:Ct}{E:XK}{e a b:E3}{st:Stmt}{pos:Pos}
def aB3{ρ:Sg}{σ:L2.St}{F H:Hp}{i:Nat}{a:List (Dz×Dz)}{k:Dz}{kv:V}(d:X.K=c.K)(l:X.w=c.w)(ab:Ab c ρ σ F H)(hi:ρ[i]? = some (some (.m a)))(h:DatV c.K F kv k)(g:cK k (a.map (·.1))=true) :
  ∃ p es,σ[i]? = some (some (.ref p))/\DicAt X H p es k kv/\MapRel c.K F es a:=by
 obtain ⟨v,f,p,es,rfl,⟨ep,h2⟩,n,o,b⟩:=ab.slot i _ hi
 refine ⟨p,es,f,⟨⟨ep,by rw[l];exact h2⟩,fun e j=>by rw[d];exact (p9 b.k1 b.k2 e j).same ab.fh,by rw[b.k1];exact b.nd,by rw[d];exact h.same ab.fh,by rw[b.k1];exact g⟩,b⟩
def aJJ{ρ:Sg}{σ:L2.St}{F H:Hp}{i:Nat}{a:List (Dz×Dz)}{k:Dz}{kv:V}(d:X.K=c.K)(j:X.w=c.g.w)(ab:Ab c ρ σ F H)(hi:ρ[i]? = some (some (.f a)))(n:DatV c.K F kv k)(l:cK k (a.map (·.1))=true) :
  ∃ p es,σ[i]? = some (some (.ref p))/\DicAt X H p es k kv/\MapRel c.K F es a:=by
 obtain ⟨v,h,p,es,rfl,⟨ep,h2⟩,b⟩:=ab.slot i _ hi
 refine ⟨p,es,h,⟨⟨ep,by rw[j];exact ab.fh _ _ h2⟩,fun e m=>by rw[d];exact (p9 b.k1 b.k2 e m).same ab.fh,by rw[b.k1];exact b.nd,by rw[d];exact n.same ab.fh,by rw[b.k1];exact l⟩,b⟩
def aNJ(w:W9):TE:=fun _ H Q=>∀ p,H p=none->Q (.ref p) (upd H p (eM w p [] 0))
def o4:PE X (.Dict [] [] pos) (aNJ X.w):=fun a5 s σ H Q I h=>
 wpAny_Dict_empty ⟨.ref s.heap.objs.size,_,I.laid (a:=s.heap.objs.size) (o:=eM X.w s.heap.objs.size [] 0) (t':=s.toks) (fun _ _ q=>AE _ q) (AU _)
  (lV (D7.mpr (BX (BP I.big))) ⟨_,#[],A4 _ rfl,⟨rfl,rfl,rfl⟩,rfl,.nil⟩),rfl,h _ (I.hok.fresh (AU _))⟩
def qA(i:Nat):Sg->R Fw:=fun ρ=>.ok (.nx (ρ.set i (some (.m []))))
def o5{i:Nat}{w:W9}(b:w=c.w)(h:PS X st (nZ (aNJ w) (l9 i))):PSf X c E st (qA i):=PS.imp h fun D σ H ⟨ρ,F,ab,k⟩=>fun p a=>by
 subst b
 exact Rk.ok k _ F _ (cT F) (ab.setM (Ext.own ab.fh a) a bN (cL ab.fh a) ⟨rfl,.nil,.nil,CT⟩)
def qO(neg:Bool)(i:Nat)(f:Sg->R Dz):Sg->R Dz:=fun ρ=>(f ρ).bind fun k=>match ρ[i]? with
 | some (some (.m a6))=>if cK k (a6.map (·.1))=true then .ok (.bool (if neg=true then !cQ a6 k else cQ a6 k)) else .bad
 | some (some (.f a6))=>if cK k (a6.map (·.1))=true then .ok (.bool (if neg=true then !cQ a6 k else cQ a6 k)) else .bad
 | _=>.bad
def aHH(X:Cx)(neg:Bool):R2:=fun y x H Q=>∃ p es k,x=.ref p/\DicAt X H p es k y/\Q (.bl (if neg=true then !(atE es k).isSome else (atE es k).isSome)) H
def zS(b:X.A.units+64 < cLine):OpR X (compareOp .In) (aHH X false):=by
 intro a5 s σ H y x v u Q I c d h
 obtain ⟨p,es,k,rfl,D,q⟩:=h
 cases (show u=Value.ref p from d)
 exact aR2 b D I c fun s' a=>⟨.bl _,H,a,rfl,q⟩
def wR(b:X.A.units+64 < cLine):OpR X (compareOp .NotIn) (aHH X true):=by
 intro a5 s σ H y x v u Q I c d h
 obtain ⟨p,es,k,rfl,D,q⟩:=h
 cases (show u=Value.ref p from d)
 exact aOU b D I c fun s' a=>⟨.bl _,H,a,rfl,q⟩
def aLX{i:Nat}{neg:Bool}{f:Sg->R Dz}(j:X.K=c.K)(n:X.w=c.w)(o:c.w=c.g.w){σ:L2.St}{H:Hp}{Q:VK}(h:tV (dC c) c E (qO neg i f) σ H Q):tOp (aHH X neg) (tV (dC c) c E f) (l8 i) σ H Q:=by
 obtain ⟨ρ,F,ab,k⟩:=h
 refine ⟨ρ,F,ab,(Rk.bind k).imp fun d _ q v l H1 s1 r1=>?_⟩
 split at q
 .rename_i b hi
  split at q
  .rename_i e
   obtain ⟨p,es,a,D,m⟩:=aB3 j n (ab.ext s1) hi r1 e
   refine ⟨_,a,p,es,d,rfl,D,?_⟩
   rw[m.has]
   exact Rk.ok q _ l H1 s1 (.bl _)
  .exact q.elim
 .rename_i b hi
  split at q
  .rename_i e
   obtain ⟨p,es,a,D,m⟩:=aJJ j (n.trans o) (ab.ext s1) hi r1 e
   refine ⟨_,a,p,es,d,rfl,D,?_⟩
   rw[m.has]
   exact Rk.ok q _ l H1 s1 (.bl _)
  .exact q.elim
 .exact q.elim
def rA{i:Nat}{neg:Bool}{f:Sg->R Dz}(d:X.K=c.K)(a:X.w=c.w)(h:PT X e (aNB (tOp (aHH X neg) (tV (dC c) c E f) (l8 i))))(b:c.w=c.g.w:=by rfl):PTf X c E e (e1 asB (qO neg i f)):=PT.imp h fun σ H Q q=>aLX d a b (zK q)
def nG(i:Nat)(f:Sg->R Dz):Sg->R Dz:=fun ρ=>match ρ[i]? with
 | some (some (.m a6))=>(f ρ).bind fun k=>if cK k (a6.map (·.1))=true then match eO a6 k with
  | some v=>.ok v
  | none=>.bad else .bad
 | some (some (.f a6))=>(f ρ).bind fun k=>if cK k (a6.map (·.1))=true then match eO a6 k with
  | some v=>.ok v
  | none=>.bad else .bad
 | _=>.bad
def aNK(X:Cx)(td ty:TE):TE:=fun σ H Q=>td σ H fun x H1=>ty σ H1 fun y H2=>∃ p es k v,x=.ref p/\DicAt X H2 p es k y/\atE es k=some v/\Q v H2
def vA{o i:E3}{d ty:TE}(g:X.A.units+64 < cLine)(j:PE X o d)(hi:PE X i ty)(t:aRX i):PE X (.Subscript o i pos) (aNK X d ty):=by
 intro a5 s σ H Q I h
 refine aOJ PySem.F.slot_dict_getitem.lookup t (thn (j a5 s σ H _ I h) fun u s1 ⟨x,H1,n,m,q⟩=>thn (hi a5 s1 σ H1 _ n q) fun E z b=>?_)
 obtain ⟨y,H2,c,B,p,es,k,v,ex,D,f,l⟩:=b
 subst ex
 obtain rfl:u=Value.ref p:=m
 obtain ⟨ep,e⟩:=D.o
 obtain ⟨⟨_,o',ar,h1,h2,_⟩,_,_⟩:=(show cX X.prog X.w H2 z.heap p (eM X.w p es ep) from c.hok p _ e)
 exact ⟨⟨o',h1,h2.1⟩,aOV g D c B f fun C G r a=>⟨v,H2,r,a,l⟩⟩
def vB{i:Nat}{f:Sg->R Dz}(u:X.K=c.K)(x:X.w=c.w)(h:PE X e (aNK X (l8 i) (tV (dC c) c E f)))(B:c.w=c.g.w:=by rfl):PD X c E e (nG i f):=PE.imp h fun σ H Q ⟨ρ,F,ab,k⟩=>by
 unfold nG at k
 split at k
 .rename_i o hi
  obtain ⟨_,n,p,es,rfl,_⟩:=ab.slot i _ hi
  refine ⟨_,n,ρ,F,ab,(Rk.bind k).imp fun d _ q v r H1 s1 r1=>?_⟩
  split at q
  .rename_i t
   obtain ⟨A,b,a,D,m⟩:=aB3 u x (ab.ext s1) hi r1 t
   rw[n] at a
   cases a
   split at q
   .rename_i w j
    rcases m.get d with ⟨_,z⟩|⟨l,y,h1,h2,s⟩
    .rw[j] at z;cases z
    .rw[j] at h2
     cases h2
     exact ⟨p,b,d,l,rfl,D,h1,Rk.ok q l r H1 s1 s⟩
   .exact q.elim
  .exact q.elim
 .rename_i o hi
  obtain ⟨_,n,p,es,rfl,_⟩:=ab.slot i _ hi
  refine ⟨_,n,ρ,F,ab,(Rk.bind k).imp fun d _ q v r H1 s1 r1=>?_⟩
  split at q
  .rename_i t
   obtain ⟨A,b,a,D,m⟩:=aJJ u (x.trans B) (ab.ext s1) hi r1 t
   rw[n] at a
   cases a
   split at q
   .rename_i w j
    rcases m.get d with ⟨_,z⟩|⟨l,y,h1,h2,s⟩
    .rw[j] at z;cases z
    .rw[j] at h2
     cases h2
     exact ⟨p,b,d,l,rfl,D,h1,Rk.ok q l r H1 s1 s⟩
   .exact q.elim
  .exact q.elim
 .exact k.elim
def oO(i:Nat)(f g:Sg->R Dz):Sg->R Fw:=fun ρ=>(g ρ).bind fun v=>match ρ[i]? with
 | some (some (.m a6))=>(f ρ).bind fun k=>if cK k (a6.map (·.1))=true/\a6.length<=16777216 then .ok (.nx (ρ.set i (some (.m (putM a6 k v))))) else .bad
 | _=>.bad
def aNL(X:Cx):aGT:=fun o i v H Q=>∃ p es k,o=.ref p/\DicAt X H p es k i/\es.length<=sizeLine/\∀ ep,Q (upd H p (eM X.w p (pH es k i v) ep))
def mS(g:X.A.units+64 < cLine):aRA X (aNL X):=by
 intro a5 s σ H o i v b j u Q I e c a h
 obtain ⟨p,es,k,rfl,D,d,q⟩:=h
 cases (show b=Value.ref p from e)
 exact aOW g D I c a d fun ep s' f=>⟨_,f,q ep⟩
def o6{i:Nat}{f g:Sg->R Dz}(y:X.K=c.K)(r:X.w=c.w)(h:PS X st (nZ (tV (dC c) c E g) (aRD (l8 i) (tV (dC c) c E f) (aNL X)))):PSf X c E st (oO i f g):=PS.imp h fun D σ H ⟨ρ,F,ab,k⟩=>by
 refine ⟨ρ,F,ab,(Rk.bind k).imp fun x _ q v z H1 s1 r1=>?_⟩
 split at q
 .rename_i l hi
  have a:=ab.ext s1
  obtain ⟨_,n,p,es,rfl,_⟩:=a.slot i _ hi
  refine ⟨_,n,ρ,z,a,((Rk.bind q).ext s1).imp fun d _ q u t H2 o r2=>?_⟩
  have j:=a.ext o
  split at q
  .rename_i s
   obtain ⟨B,e,b,A,m⟩:=aB3 y r j hi r2 s.1
   rw[n] at b
   cases b
   refine ⟨p,e,d,rfl,A,?_,?_⟩
   .have:e.length=l.length:=by have:=CL List.length m.k1;simpa using this
    rw[this,fD];exact s.2
   .intro ep
    rw[r]
    exact Rk.ok q σ t _ (s1.trans o).ff (j.putM hi n (m.put r2 (DatV.same o.ff r1)))
  .exact q.elim
 .exact q.elim
end
section
variable{X:Cx}{c:Ct}{E:XK}{e a b:E3}{st:Stmt}{pos p2:Pos}
def n8(fs:Dz->Sg->O9 Sg)(f:Sg->R Dz):Sg->R Fw:=fun ρ=>(f ρ).bind fun x=>(aC3 (fs x ρ)).bind fun ρ'=>.ok (.nx ρ')
def nR{g:TG}{fs:Dz->Sg->O9 Sg}{is:List Nat}{f:Sg->R Dz}(i:Tg c g fs is)(h:PS X st (nZ (tV (dC c) c E f) g)):PSf X c E st (n8 fs f):=PS.imp h fun D σ H a=>by
 obtain ⟨ρ,F,ab,k⟩:=a
 refine ⟨ρ,F,ab,(Rk.bind k).imp fun x _ q v e H1 s1 r1=>?_⟩
 cases h1:fs x ρ with
 | none=>rw[h1] at q;exact q.elim
 | some ρ'=>
  rw[h1] at q
  exact i v x ρ ρ' σ e H1 _ (ab.ext s1) r1 h1 fun d _ _ b=>Rk.ok q d e H1 s1.ff b
def aR8:Dz->R Dz
 | .str z=>if z.length<=16777216 then .ok (.str ⟨z.cps.toList.reverse.toArray⟩) else .bad
 | _=>.bad
def aVW(f:Sg->R Dz)(g:Sg->R (O9 Int)):Sg->R Dz:=fun ρ=>(f ρ).bind fun x=>(g ρ).bind fun o=>if o=some (-1) then aR8 x else .bad
end
def aR9{P:P9}{w:W9}{K:Frag}{mg:Str->O9 V9}{base:H9}{T:Hp}{x:Str}{st:Stmt}{N ps:List Str}{k:Nat}{f:Az}{fd:FuncData}{fb:Sg->R Fw}(i:Fun K x x st f fd)(S:FnScope N ps (aO st))
  (a:∀ (cdv:V9) (A:U9) (outer:List Env) (s:S9) (H F:Hp) (E:XK),Room k (A.deeper (envOfC x (aO st) s.heap.objs.size f cdv))->
   qN ((lL (CXe P w) P w K mg base N x (aO st) f cdv A outer s H E).fly E) ⟨K,mg,w,F,H,gOf P w K mg base T,(envOfC x (aO st) s.heap.objs.size f cdv).cells,fun _=>none⟩ E (dR st) fb):FnOk P w K mg base (CXe P w) (k+1) f fd ps (spF (gOf P w K mg base T) K mg ps.length (fnF N.length fb)):=by
 refine i.okX S (fun vs H Q E h=>?_) (fun cdv A outer s H vs Q E g h=>?_)
 .obtain ⟨F,e,_,_,h2,b,_⟩:=h
  rw[h2.len,b]
 .obtain ⟨F,e,c,h1,h2,b,d⟩:=h
  exact ⟨_,a cdv A outer s H F E g,u0 c h1 h2 d⟩
def aHI(K:Frag)(T:Hp):Sp:=fun vs H Q _=>∃ (a:Az) (ns:List Int),vs=[.ref a]/\ns.length<=63/\aR T H/\SqL K H a (ns.map V.int)/\∀ H',Q (.bl true) H'
theorem aC6{K:Frag}{H:Hp}:∀ (ns:List Int),DatVs K H (ns.map V.int) (ns.map PyData.int)
 | []=>.nil
 | n::t=>.cons (.int n) (aC6 t)
def aSA{P:P9}{w:W9}{K:Frag}{mg:Str->O9 V9}{base:H9}{T:Hp}{k:Nat}{f:Az}{fd:FuncData}{x:Str}{G:List A->R A}(h:FnOk P w K mg base (CXe P w) k f fd [x] (spF (gOf P w K mg base T) K mg 1 G))
  (b:∀ ns:List Int,ns.length<=63->G [.d (.list (ns.map .int))]=.ok (.d (.bool true))):FnOk P w K mg base (CXe P w) k f fd [x] (aHI K T):=h.imp fun vs H Q E=>by
 rintro ⟨a,ns,rfl,hn,ht,hs,q⟩
 refine ⟨H,[.d (.list (ns.map .int))],ht,cT H,⟨.lst hs (aC6 ns),trivial⟩,rfl,?_⟩
 rw[b ns hn]
 intro v c H' _ r
 obtain rfl:=DatV.bl_of r
 exact q H'
def aUM(P:P9)(w:W9)(H:Hp)(s:S9)(e:V9)(s':S9)(h:CXe P w [] H s (fun _ _ _=>False) e s'):False:=by
 obtain ⟨_,_,_,_,_,_,_,_,_,_,_,q⟩:=h
 exact q
def aO2{l:PySem.W.OpenLaw}{k:Nat}{q:P9}{b:List Str}{r:(Str->O9 V9)->H9->Prop}{j:W9->H9->Prop}{d:DefRec}{K:Params->Frag}{x:Str}{qs:List (Pos×Str)}{xs:List Str}
  (c:∀ x∈xs,∃ d∈recsOf q,d.name=x) (hNT:∀ w:W9,PySem.W.noTabs (K w.params)=true)
  (m:l.most=some 63) (g:d.params.defaults=[]) (y:Room k callerA)
  (p:∀ (w:W9) (h:H9),j w h->(K w.params).In h)
  (F:∀ (w:W9) (mg:Str->O9 V9) (fa:Az) (h:H9),(K w.params).In h->h.Ns mainGlobals mg->mg d.name=some (.ref fa)->
   ∃ fd:FuncData,(∀ (s:S9) (u:V9),BindsTo s fd ⟨[u],[]⟩ [(x,u)]) /\
    ∀ (base:H9) (T:Hp),(K w.params).In base->base.Ns mainGlobals mg->aCN mg h base T qs xs->FnOk l.prog w (K w.params) mg base (CXe l.prog w) k fa fd [x] (aHI (K w.params) T)) :
  PySem.W.WalkO q b r j l.row.toRowW d [] (fun f vs=>PySem.call f vs):=
 walk_ofT (K:=K) (CX:=fun w=>CXe l.prog w) (qs:=qs) (xs:=xs) c hNT m (by decide) g y p (fun w mg fa h h1 h2 i=>by
  obtain ⟨fd,v,B⟩:=F w mg fa h h1 h2 i
  exact ⟨fd,v,fun base T h1 h2 i=>⟨_,B base T h1 h2 i,fun H a A o t n=>⟨a,A,rfl,o,t,n,fun _=>rfl⟩⟩⟩) fun w H s e s' z=>aUM _ w H s e s' z
variable{X:Cx}{c:Ct}{E:XK}{e:E3}
def d2(G:Int->Int->Int):Dz->Dz->R Dz
 | .int i,.int j=>.ok (.int (G i j))
 | _,_=>.bad
def d1(G:Int->Int):Dz->R Dz
 | .int i=>.ok (.int (G i))
 | _=>.bad
end Fl
namespace L2
open PyProof.Rows
variable{X:Cx}
end L2
namespace Fl
open L2 PyProof.Rows
variable{X:Cx}{c:Ct}{E:XK}{e:E3}
variable{X:Cx}{c:Ct}{E:XK}{e:E3}{st:Stmt}
def aE7{H:Hp}{p:Az}{a b:HO}:upd (upd H p a) p b=upd H p b:=by
 funext x
 by_cases q:x=p
 · subst q; rw [bN, bN]
 · rw [aU q, aU q, aU q]
section
variable{X:Cx}{a5:List (Az×Obj)}{σ:L2.St}{H:Hp}{s:S9}{a:Az}{es:List Ent}{k:Dz}{kv v:V}{ku u:V9}{A:U9}{E:V9->S9->Prop}
def aHJ{A:U9}(a:A.units+64 < cLine):(lM X.prog X.w).room A:=by show A.units+9 < cLine;omega
def aO3{Q:Unit->S9->Prop}(z:A.units+64 < cLine)(D:DicAt X H a es k kv)(I:Inv X a5 σ H s)(y:bL kv ku)(t:bL v u)(hz:es.length<=sizeLine)(h:∀ ep s',Inv X a5 σ (upd H a (eM X.w a (pH es k kv v) ep)) s'->Q () s') :
  wpAny (model X.prog X.w) A (dictSet a ku u) Q E s:=by
 obtain ⟨r,⟨b,xs,rfl,rfl,e,n,dd⟩|⟨C,xs,rfl,rfl,e,n,dd⟩⟩:=D.cases I y
 .have i:xs.length<=sizeLine:=by rw[<-Paired.length e];exact hz
  refine wpAny_dictSet_heap (a:=b) (aHJ z) n dd (fun h' c q=>?_) i
  obtain ⟨d,ar,ep,f,h2,p,l,_,x⟩:=c
  obtain ⟨g,j⟩:=D.o
  refine h ep _ (oY I (by rw[j];exact True.intro) q ⟨d,f⟩ (lV r ⟨d,ar,f,h2,p,?_⟩))
  rw[l]
  exact sB (aHC t e)
 .have i:xs.length<=sizeLine:=by rw[<-Paired.length e];exact hz
  refine wpAny_dictSet_pairs n dd (fun h' c q=>?_) i
  obtain ⟨d,ar,ep,f,h2,p,l,x,_⟩:=c
  obtain ⟨g,j⟩:=D.o
  refine h ep _ (oY I (by rw[j];exact True.intro) q ⟨d,f⟩ (lV r ⟨d,ar,f,h2,p,?_⟩))
  exact sC (aHD t e) x fun B m=>l B (by simpa using m)
end
abbrev TP:=L2.St->Hp->(List (V×V)->Hp->Prop)->Prop
def aSB(p:V×V)(u:V9×V9):Prop:=bL p.1 u.1/\bL p.2 u.2
def PPr(X:Cx)(keys:List (O9 E3))(vals:List E3)(t:TP):Prop:=∀ (pos:Pos) (a5:List (Az×Obj)) (s:S9) (σ:L2.St) (H:Hp) (Q:List (V×V)->Hp->Prop),Inv X a5 σ H s->t σ H Q->
 wpAny (model X.prog X.w) X.A (evalPairs (pairTrees keys vals X.env pos)) (fun vs s'=>∃ ps H',Inv X a5 σ H' s'/\Paired aSB ps vs/\Q ps H') X.xe s
def aUN:TP:=fun _ H Q=>Q [] H
def aSC(tk tv:TE)(t:TP):TP:=fun σ H Q=>tk σ H fun x H1=>tv σ H1 fun y H2=>t σ H2 fun ps H3=>Q ((x,y)::ps) H3
section
variable{X:Cx}{c:Ct}{E:XK}{e a b:E3}{st:Stmt}{pos:Pos}
def aSD:PPr X [] [] aUN:=fun pos a5 s σ H Q I h=>evalPairs_nil ⟨[],H,I,.nil,h⟩
def aO4{k v:E3}{ks:List (O9 E3)}{vs:List E3}{tk b:TE}{t:TP}(g:PE X k tk)(d:PE X v b)(n:PPr X ks vs t):PPr X (some k::ks) (v::vs) (aSC tk b t):=by
 intro pos a5 s σ H Q I h
 rw[pairTrees.eq_1]
 refine evalPairs_cons (thn (g a5 s σ H _ I h) fun ku s1 a=>?_)
 obtain ⟨x,H1,i,r1,j⟩:=a
 refine AA (thn (d a5 s1 σ H1 _ i j) fun q m a=>?_)
 obtain ⟨y,H2,c,r2,e⟩:=a
 refine AA (DT (AH ?_))
 exact thn (n pos a5 m σ H2 _ c e) fun vs p ⟨ps,H3,l,f,o⟩=>⟨(x,y)::ps,H3,l,.cons ⟨r1,r2⟩ f,o⟩
def i9:List (Dz×Dz)->List (Dz×Dz)->R (List (Dz×Dz))
 | a7,[]=>.ok a7
 | a7,(k,v)::t=>if cK k (a7.map (·.1))=true/\a7.length<=16777216 then i9 (putM a7 k v) t else .bad
def aLY(K:Frag)(F:Hp)(p:V×V)(d:Dz×Dz):Prop:=DatV K F p.1 d.1/\DatV K F p.2 d.2
def aJK{a5:List (Az×Obj)}{σ:L2.St}{p:Az}{F:Hp}(G:X.A.units+64 < cLine)(b:List (Dz×Dz)):∀ (ps:List (V×V)) (vs:List (V9×V9)) (a7 res:List (Dz×Dz)) (es:List Ent) (ep:Nat) (H:Hp) (s:S9) (Q:S9->Prop),
  Inv X a5 σ H s->aR F H->F p=none->H p=some (eM X.w p es ep)->MapRel X.K F es a7->Paired (aLY X.K F) ps b->Paired aSB ps vs->i9 a7 b=.ok res->
  (∀ es' ep' s',Inv X a5 σ (upd H p (eM X.w p es' ep')) s'->MapRel X.K F es' res->Q s')->wpAny (model X.prog X.w) X.A (storeAll p vs) (fun _ s=>Q s) X.xe s:=by
 induction b with
 | nil=>
  intro ps vs a7 res es ep H s Q I f y n m d r e q
  cases d
  cases r
  cases e
  have g:storeAll p []=pure PUnit.unit:=by unfold storeAll;rw[FN]
  rw[g]
  refine AH (q es ep s ?_ m)
  have:upd H p (eM X.w p es ep)=H:=by
   funext x
   by_cases z:x=p
   .subst z;rw[bN,n]
   .rw[aU z]
  rw[this];exact I
 | cons kv t ih=>
  obtain ⟨k,v⟩:=kv
  intro ps vs a7 res es ep H s Q I f y n m d r e q
  cases d with
  | @cons x _ ps _ d ds=>
   cases r with
   | @cons _ u _ vs r rs=>
    unfold i9 at e
    split at e
    .rename_i g
     have D:DicAt X H p es k x.1:=⟨⟨ep,n⟩,fun e J=>(p9 m.k1 m.k2 e J).same f,by rw[m.k1];exact m.nd,d.1.same f,by rw[m.k1];exact g.1⟩
     have E:es.length<=sizeLine:=by
      have:es.length=a7.length:=by simpa using congrArg List.length m.k1
      rw[this,fD];exact g.2
     have h:storeAll p (u::vs)=(do dictSet p u.1 u.2;storeAll p vs):=by
      unfold storeAll
      rw[C3]
      simp
     rw[h]
     refine AA (aO3 G D I r.1 r.2 E fun i s' L=>?_)
     have C:=m.put d.1 d.2
     have B:aR F (upd H p (eM X.w p (pH es k x.1 x.2) i)):=fun a o z=>by rw[aU (bT z y)];exact f a o z
     refine ih ps vs _ res _ _ _ s' Q L B y bN C ds rs e fun es' ep' l c j=>?_
     rw[aE7] at c
     exact q es' ep' l c j
    .cases e
def aNM(X:Cx)(tp:TP):TE:=fun σ H Q=>∀ p,H p=none->tp σ (upd H p (eM X.w p [] 0)) fun ps H2=>∃ (F:Hp) (a6 res:List (Dz×Dz)),aR F H2/\F p=none/\H2 p=some (eM X.w p [] 0)/\Paired (aLY X.K F) ps a6/\i9 [] a6=.ok res /\
 ∀ es' ep',MapRel X.K F es' res->Q (.ref p) (upd H2 p (eM X.w p es' ep'))
def aFO{b:List (O9 E3)}{c:List E3}{l:TP}(p:X.A.units+64 < cLine)(h:PPr X b c l)(h1:(b.all fun x=>x.isSome)=true:=by rfl)(h2:b.length=c.length:=by rfl)(h3:b≠[]:=by exact fun z=>nomatch z)(h4:b.length<=15:=by decide):PE X (.Dict b c pos) (aNM X l):=by
 intro a5 s σ H Q I q
 have t:=I.laid (a:=s.heap.objs.size) (o:=eM X.w s.heap.objs.size [] 0) (t':=s.toks) (fun _ _ q=>AE {cls:=.type "dict",data:=.dict #[]} q) (AU _)
  (lV (D7.mpr (BX (BP I.big))) ⟨_,#[],A4 _ rfl,⟨rfl,rfl,rfl⟩,rfl,.nil⟩)
 have u:=q _ (I.hok.fresh (AU _))
 refine wpAny_Dict_any h1 h2 h3 h4 (thn (h pos a5 _ σ _ _ t u) fun vs D j=>?_)
 obtain ⟨ps,H2,n,r,F,f,g,B,y,v,d,e,z⟩:=j
 exact aJK p f ps vs [] g [] 0 H2 D _ n B y v ⟨rfl,.nil,.nil,CT⟩ d r e fun i k s' C m=>⟨.ref s.heap.objs.size,_,C,rfl,z i k m⟩
def aSE(c:Ct)(E:XK)(f:Sg->R (List (Dz×Dz))):TP:=fun σ H Q=>∃ ρ F,Ab c ρ σ F H/\Rk c E F H (f ρ) fun a6=>∀ ps F' H',Ext F H F' H'->Paired (aLY c.K F') ps a6->Q ps H'
abbrev PPf(X:Cx)(c:Ct)(E:XK)(keys:List (O9 E3))(vals:List E3)(f:Sg->R (List (Dz×Dz))):Prop:=PPr X keys vals (aSE c E f)
def PPr.imp{X:Cx}{ks:List (O9 E3)}{vs:List E3}{t t':TP}(h:PPr X ks vs t)(i:∀ σ H Q,t' σ H Q->t σ H Q):PPr X ks vs t':=fun pos a5 s σ H Q I q=>h pos a5 s σ H Q I (i σ H Q q)
def aC7:Sg->R (List (Dz×Dz)):=fun _=>.ok []
def yA(f g:Sg->R Dz)(r:Sg->R (List (Dz×Dz))):Sg->R (List (Dz×Dz)):=fun ρ=>(f ρ).bind fun x=>(g ρ).bind fun y=>(r ρ).bind fun t=>.ok ((x,y)::t)
def aFP:PPf X c E [] [] aC7:=PPr.imp aSD fun σ H Q ⟨ρ,F,ab,k⟩=>Rk.ok k [] F H (Ext.refl ab.fh) .nil
def aC8{k v:E3}{ks:List (O9 E3)}{vs:List E3}{f g:Sg->R Dz}{r:Sg->R (List (Dz×Dz))}(j:PD X c E k f)(h:PD X c E v g)(m:PPf X c E ks vs r):PPf X c E (some k::ks) (v::vs) (yA f g r):=PPr.imp (aO4 j h m) fun σ H Q d=>by
 obtain ⟨ρ,F,ab,k⟩:=d
 refine ⟨ρ,F,ab,(Rk.bind k).imp fun x _ q v l H1 s1 r1=>?_⟩
 refine ⟨ρ,l,ab.ext s1,((Rk.bind q).ext s1).imp fun y _ q u e H2 a r2=>?_⟩
 refine ⟨ρ,e,ab.ext (s1.trans a),((Rk.bind q).ext (s1.trans a)).imp fun t _ q ps i H3 b n=>?_⟩
 exact Rk.ok q _ i H3 ((s1.trans a).trans b) (.cons ⟨DatV.same (a.trans b).ff r1,DatV.same b.ff r2⟩ n)
def yB(i:Nat)(f:Sg->R (List (Dz×Dz))):Sg->R Fw:=fun ρ=>(f ρ).bind fun a6=>(i9 [] a6).bind fun res=>.ok (.nx (ρ.set i (some (.m res))))
theorem aBB:∀ (a6 a7:List (Dz×Dz)) (x:Er),i9 a7 a6≠.ex x
 | [],a7,x,h=>by cases h
 | (k,v)::t,a7,x,h=>by
  unfold i9 at h
  split at h
  · exact aBB t _ x h
  · cases h
def aFQ{i:Nat}{f:Sg->R (List (Dz×Dz))}(v:X.K=c.K)(y:X.w=c.w)(h:PS X st (nZ (aNM X (aSE c E f)) (l9 i))):PSf X c E st (yB i f):=PS.imp h fun D σ H ⟨ρ,F,ab,k⟩=>fun p d=>by
 have e1:=Ext.own (F:=F) (o:=eM X.w p [] 0) ab.fh d
 refine ⟨ρ,F,ab.ext e1,((Rk.bind k).ext e1).imp fun g _ q ps j H2 b r2=>?_⟩
 have r:j p=none:=b.stay (cL ab.fh d) bN (fun _ z=>aCR z)
 have h2:H2 p=some (eM X.w p [] 0):=b.hh _ _ bN
 cases e:i9 [] g with
 | bad=>rw[e] at q;exact q.elim
 | ex x=>exact absurd e (aBB _ _ _)
 | ok res=>
  rw[e] at q
  refine ⟨j,g,res,b.fh,r,h2,by rw[v];exact r2,e,fun l s m=>?_⟩
  have u:Ext F H j (upd H2 p (eM X.w p l s)):=by
   refine ⟨fun a o z=>?_,b.ff,fun a o z=>?_,fun a z n=>?_⟩
   .have t:a≠p:=bT z d
    rw[aU t]
    exact b.hh a o (by rw[aU t];exact z)
   .rw[aU (bT z r)];exact b.fh a o z
   .have:=b.nw a z n
    by_cases w:a=p
    · subst w; exact .inl d
    · unfold pZ at this; rw [aU w] at this; exact this
  rw[y] at u ⊢
  rw[v] at m
  exact Rk.ok q _ j _ b.ff (ab.setM u d bN r m)
end
end Fl
namespace L2
open PySem.Spec PyProof.Rows
def aSF(X:Cx)(T:String)(r:V->List V->Hp->VK->Prop)(to:TE)(t:TA):TE:=fun σ H Q=>to σ H fun x H1=>(∀ (a5:List (Az×Obj)) (s:S9) (v:V9),Inv X a5 σ H1 s->bL x v->s.TypeIs v T/\∀ a,v=.ref a->∃ ob,s.heap.get? a=some ob/\ob.dict=none)/\t σ H1 fun xs H2=>r x xs H2 Q
def aJL{X:Cx}{o e:E3}{es:List E3}{to:TE}{t:TA}{name:Str}{apos cpos:Pos}{T id:String}{r:V->List V->Hp->VK->Prop}(p:PlainAttrs T)(slot:Slot T name id)(b:typeOf (.builtin id)=pure (.type "method_descriptor"))(k:MtR X id r)(l:PE X o to)(g:PA X (e::es) t)
  (a:attributeBase o name X.env (eval o X.env)=eval o X.env:=by rfl)
  (hfew:((backTo cpos (starEach (e::es) X.env)).all (fun x=>!x.1) && (backToKw cpos (keywordEach [] X.env)).all (fun x=>x.1.isSome)
   && decide ((e::es).length+([]:List Keyword).length+(if ([]:List Keyword).isEmpty then 0 else 1) < 30))=true:=by rfl)
  (hline:(apos.endLine == cpos.line)=true:=by rfl) (hs:starEach (e::es) X.env=(false,eval e X.env)::starEach es X.env:=by rfl) (hplain:(backTo cpos (starEach es X.env)).any (·.1)=false:=by rfl) :
  PE X (.Call (.Attribute o name apos) (e::es) [] cpos) (aSF X T r to t):=by
 intro a5 s σ H Q I h
 refine GY a hfew hline rfl (thn (l a5 s σ H _ I h) fun v s1 c=>?_)
 obtain ⟨x,H1,f,r1,j,n⟩:=c
 obtain ⟨h1,h2⟩:=j a5 s1 v f r1
 refine ⟨T,id,p,slot,b,h1,h2,?_⟩
 have d:=g cpos a5 s1 σ H1 _ f n
 rw[hs] at d ⊢
 refine GZ (by show (false || (backTo cpos (starEach es X.env)).any (·.1))=false;rw[hplain]<;>rfl) (Calls.evalArgs_plain ?_)
 exact thn d fun us q ⟨vs,H2,i,r2,m⟩=>k a5 q σ H2 x vs v us Q i r1 r2 m
end L2
namespace Fl
open L2 PyProof.Rows
section
variable{X:Cx}{c:Ct}{E:XK}{e a b:E3}{st:Stmt}{pos:Pos}
def aSG(i:Nat)(f g:Sg->R Dz):Sg->R Dz:=fun ρ=>match ρ[i]? with
 | some (some (.m a6))=>(f ρ).bind fun k=>(g ρ).bind fun y=>if cK k (a6.map (·.1))=true then .ok ((eO a6 k).getD y) else .bad
 | _=>.bad
end
section
variable{X:Cx}{c:Ct}{E:XK}
end
section
variable{X:Cx}{c:Ct}{E:XK}{e:E3}{P:P9}{w:W9}{base:H9}
end
end Fl
namespace L2
open PySem.Spec PyProof.Rows
def cX.got{P:P9}{w:W9}{H:Hp}{h:H9}{a:Az}{o:HO}(x:cX P w H h a o):∃ u,h.get? a=some u:=by
 cases o with
 | lst xs=>obtain ⟨_,_,_,_,e⟩:=x;exact ⟨_,e⟩
 | tup xs=>obtain ⟨_,_,_,⟨o,e,_⟩⟩:=x;exact ⟨_,e⟩
 | dK a6=>obtain ⟨_,_,_,_,o,_,_,e,_⟩:=x;exact ⟨_,e⟩
 | dT a6=>obtain ⟨_,_,_,_,o,_,_,e,_⟩:=x;exact ⟨_,e⟩
 | set S n=>obtain ⟨o,_,_,_,e,_⟩:=x;exact ⟨_,e⟩
 | ins C dx fs=>obtain ⟨_,_,_,e,_⟩:=x;exact ⟨_,e⟩
 | own y=>exact x
 | xd fs=>obtain ⟨_,⟨_,_,_,e,_⟩,_⟩:=x;exact ⟨_,e⟩
 | rng lo hi=>obtain ⟨_,_,_,e⟩:=x;exact ⟨_,e⟩
 | frz ob u=>exact ⟨_,x.1⟩
 | tbl ps=>obtain ⟨_,e,_⟩:=x;exact ⟨_,e⟩
 | cod q=>obtain ⟨c,o,vs,t,e,b,_⟩:=x;cases e;exact ⟨_,b⟩
 | met f y=>exact ⟨_,x⟩
 | ext φ=>exact x.2.1
def HOk.free{P:P9}{w:W9}{H:Hp}{h:H9}{a:Az}(x:HOk P w H h)(e:h.get? a=none):H a=none:=by
 cases q:H a with
 | none=>rfl
 | some u=>
  obtain ⟨o,z⟩:=(x a u q).got
  rw[e] at z;cases z
def Inv.laidN{X:Cx}{a5:List (Az×Obj)}{σ:St}{H:Hp}{s:S9}{h':H9}{a:Az}{o:HO}{t':Nat}(I:Inv X a5 σ H s)(k:∀ b u,s.heap.get? b=some u->h'.get? b=some u)(g:s.heap.get? a=none)(new:cX X.prog X.w (upd H a o) h' a o) :
  Inv X a5 σ (upd H a o) {s with heap:=h',toks:=t'}:=by
 have d:H a=none:=I.hok.free g
 refine I.un ⟨fun b u q _ _ _=>k b u q,fun b u q _ _ _=>⟨u.slots,k b u q⟩,fun b u q n _=>?_,fun b u q _=>⟨u,k b u q⟩,fun b xs q=>by rw[aU (bT q d)];exact q,fun b u xs q=>by rw[aU (bT q d)];exact q,fun b ps q=>by rw[aU (bT q d)];exact q⟩ fun b u e=>?_
 .rw[aU (fun z=>by rw[z,g] at q;cases q)];exact n
 .by_cases f:b=a
  .subst f;rw[bN] at e;cases e;exact new
  .rw[aU f] at e
   exact (I.hok b u e).stay (fun c v _ q=>k c v q) (fun c q=>by rw[aU (bT q d)];exact q) (fun c xs q=>by rw[aU (bT q d)];exact q) fun c xs q=>by rw[aU (bT q d)];exact q
structure ErrP(K:Frag)(mg:Str->Option V9)(x:Str)(W C:Az):Prop where
 c:SX.ExcC K W C
 m:mg x=some (.ref C)
 lk:∃ nm q N bs sn sub ab col dd k0 k1 k2 k3 k5,K.lookup C=some (excClassObj nm q C N bs (.ref W::SX.k8) true sn sub ab col dd k0 k1 k2 k3 k5 "ValueError.__new__")/\PySem.W.nsOkIn K N=true/\PySem.W.nsIn K N "__init__"=some none
 lw:∃ c0 dd cd sl,K.lookup W=some ⟨c0,dd,.cls cd,sl⟩/\PySem.W.nsOkIn K cd.ns=true/\PySem.W.nsIn K cd.ns "__init__"=some none
def zT(C:Az)(E:XK)(ta:TA):TS:=fun _ σ H=>ta σ H fun vs H1=>vs.length<=1000/\∀ e,H1 e=none->E (.ref C) (some e) (upd H1 e (ExO e C none))
def aNN{K:Frag}{h:H9}{N:Az}{n:Str}(X:K.In h)(a:PySem.W.nsOkIn K N=true)(b:PySem.W.nsIn K N n=some none):∃ m,h.Ns N m/\m n=none:=by
 have:=Heap.Ns.of_isNs (PySem.W.isNs_of_in X a)
 exact ⟨_,this,PySem.W.ns_none_of X this b⟩
section
variable{X:Cx}{E:XK}{W C:Az}{x:Str}{np cpos pos:Pos}{e0:E3}{rest:List E3}{ta:TA}
def t6(M:X.calm=true)(j:ErrP X.K X.mg x W C)(S:Gl X x)(T:PA (X.fly E) (e0::rest) ta)(y:(x == ("__debug__":Str))=false:=by decide)
  (he:starEach (e0::rest) X.env=(false,eval e0 X.env)::starEach rest X.env:=by rfl) (hpl:(backTo cpos (starEach rest X.env)).any (·.1)=false:=by rfl) :
  PS (X.fly E) (.Raise (some (.Call (.Name x np) (e0::rest) [] cpos)) none pos) (zT C E ta):=by
 intro a5 s σ H D I h
 obtain ⟨nm,q,N,bs,sn,sub,ab,col,dd,k0,k1,k2,k3,k5,lk,u,o⟩:=j.lk
 obtain ⟨c0,dw,cd,sl,lw,L,G⟩:=j.lw
 have b:wpAny (model X.prog X.w) X.A (eval (.Call (.Name x np) (e0::rest) [] cpos) X.env) (fun v s1=>∃ e od vs,v=.ref e/\s1.heap.get? C=some (excClassObj nm q C N bs (.ref W::SX.k8) true sn sub ab col dd k0 k1 k2 k3 k5 "ValueError.__new__") /\
   s1.heap.get? e=some {cls:=.ref C,dict:=od,data:=.fields vs}/\vs[1]? = some .none/\Fly X E (.ref e) s1) (Fly X E) s:=by
  refine CP (uU (X:=X) I.unwish S j.m ?_ y)
  refine EO (h₀:=X.base) I.ok.mod.kin j.c.kp (thn (T cpos a5 s σ H _ I h) fun us s1 ⟨vs,H1,i,r,Z,Q⟩=>⟨i.kIn,?_⟩) he hpl
  have J:Inv X a5 σ H1 s1:=i.unwish
  obtain ⟨k,g,d,tk,os⟩:=s1
  have n:us.length<=sizeLine:=by rw[<-r.length,GV];omega
  have kin:X.K.In k:=J.kIn
  obtain ⟨Y,R,l⟩:=aNN kin u o
  obtain ⟨mW,P,B⟩:=aNN kin L G
  refine wpAny_call_exc_subT PySem.F.excBase_ValueError (.own (kin _ _ lw) P B .base) (kin _ _ lk) R l (fun h' e a=>?_) n
  obtain ⟨t,f,_,_⟩:=a.there
  have O:Inv X a5 σ (upd H1 e (ExO e C none)) ⟨h',g,d,tk,os⟩:=J.laidN (t':=tk) a.keeps a.new (aIM f)
  have U:=Q e (J.hok.free a.new)
  have V:Inv X [] σ (upd H1 e (ExO e C none)) ⟨h',g,d,tk,os⟩:=O.pins_of fun p k=>absurd k (by simp)
  exact ⟨e,none,_,rfl,O.kIn _ _ lk,f,rfl,e,C,none,σ,_,rfl,V,⟨bN,_,none,f,rfl,(fun t z=>nomatch z),(fun z=>nomatch z)⟩,U⟩
 show wpAny (model X.prog X.w) X.A (exec (.Raise (some (.Call (.Name x np) (e0::rest) [] cpos)) none pos) X.env) _ (Fly X E) s
 rw[arm_exec_Raise]
 first
  | refine AA (DT (SX.xP (SX.aLA W) (I.ok.hd M) (AA (B0 b (fun v s1 h1=>AA (DT (AH h1))) fun _ _ z=>z))))
  | (simp only[evalOpt,Option.map];refine AA (DT (SX.xP (SX.aLA W) (I.ok.hd M) (AA (B0 b (fun v s1 h1=>AA (DT (AH h1))) fun _ _ z=>z)))))
end
def few(i:Int):Prop:=i=40\/i=60\/i=200\/i=300
def aO5{i:Int}(h:few i):(Str.ofString (toString i)).length<=10/\i.natAbs.log2 < 1920:=by
 rcases h with rfl|rfl|rfl|rfl<;>decide +kernel
def kT(x y:Str):(x++y).length=x.length+y.length:=by
 show (x.cps++y.cps).size=x.cps.size+y.cps.size
 simp
def aSH(ta:TE):TE:=fun σ H Q=>ta σ H fun x H1=>∃ i:Int,x=.int i/\few i/\∀ z:Str,Q (.str z) H1
def aJM{X:Cx}{v:E3}{ta:TE}{a b:Str}{k1 k2:Nat}{j p2 t pos:Pos}(g:PE X v ta)(x:a.length<=1000:=by decide)(hb:b.length<=1000:=by decide) :
  PE X (.JoinedStr [.Constant (.str a) k1 j,.FormattedValue v (-1) none p2,.Constant (.str b) k2 t] pos) (aSH ta):=by
 intro a5 s σ H Q I h
 have w:sizeLine=16777216:=rfl
 have d:(Str.empty).length=0:=rfl
 refine wpAny_JoinedStr (Joins_cons (thn (aB7 (X:=X) a5 s σ H (fun y H1=>y=.str a/\H1=H) I ⟨rfl,rfl⟩) fun u s1 c=>?_))
 obtain ⟨y,H1,m,r1,e1,e2⟩:=c
 subst e1 e2
 obtain ⟨l,rfl⟩:=r1
 refine ⟨a,l,rfl,by rw[kT,d];omega,Joins_cons (wpAny_FormattedValue_plain (thn (g a5 s1 σ _ _ m h) fun u B c=>?_))⟩
 obtain ⟨y,H2,f,r2,i,e,n,q⟩:=c
 subst e
 obtain ⟨C,rfl⟩:=r2
 obtain ⟨A,r⟩:=aO5 n
 refine wpAny_formatField_int r ⟨_,_,rfl,by rw[kT,kT,d];omega,Joins_cons (thn (aB7 (X:=X) a5 _ σ H2 (fun y H1=>y=.str b/\H1=H2) (f.tok _) ⟨rfl,rfl⟩) fun u z c=>?_)⟩
 obtain ⟨y,H3,p,k,e1,e2⟩:=c
 subst e1 e2
 obtain ⟨o,rfl⟩:=k
 refine ⟨b,o,rfl,by rw[kT,kT,kT,d];omega,Joins_nil ⟨by rw[kT,kT,kT,d];omega,?_⟩⟩
 exact ⟨.str _,_,p.tok _,⟨_,rfl⟩,q _⟩
end L2
namespace Fl
open L2 PyProof.Rows
instance (i:Int):Decidable (few i):=by unfold few;infer_instance
def aO6(cn:Str)(f:Sg->R (List Dz)):Sg->R Fw:=fun ρ=>(f ρ).bind fun xs=>if xs.length<=1000 then .ex ⟨cn,[]⟩ else .bad
def vC(cn:Str)(g:Sg->R Dz):Sg->R Fw:=fun ρ=>(g ρ).bind fun x=>match x with
 | .int i=>if few i then .ex ⟨cn,[]⟩ else .bad
 | _=>.bad
section
variable{X:Cx}{c:Ct}{E:XK}{st:Stmt}{cn:Str}{C:Az}
def t6{f:Sg->R (List Dz)}(g:c.mg cn=some (.ref C))(h:PS X st (zT C E (tAd c E f))):PSf X c E st (aO6 cn f):=PS.imp h fun D σ H b=>by
 obtain ⟨ρ,F,ab,k⟩:=b
 refine ⟨ρ,F,ab,(Rk.bind k).imp fun xs _ q vs i H1 s1 r1=>?_⟩
 by_cases a:xs.length<=1000
 .rw[AL a] at q
  exact ⟨by rw[r1.length];exact a,fun e d=>q e C _ _ ((ab.all.trans s1).trans (Ext.new s1.fh d)) ⟨g,none,bN,.inl ⟨rfl,rfl⟩⟩⟩
 .rw[AK a] at q;exact q.elim
def aBC{g:Sg->R Dz}(b:c.mg cn=some (.ref C))(h:PS X st (zT C E (gL (aSH (tV (bO c) c E g)) kC))):PSf X c E st (vC cn g):=PS.imp h fun D σ H ⟨ρ,F,ab,k⟩=>by
 refine ⟨ρ,F,ab,(Rk.bind k).imp fun x f q v j H1 s1 r1=>?_⟩
 clear f
 split at q
 .rename_i i
  split at q
  .rename_i a
   obtain rfl:=bG.int_of r1
   exact ⟨i,rfl,a,fun z=>⟨by show 1<=1000;decide,fun e d=>q e C _ _ ((ab.all.trans s1).trans (Ext.new s1.fh d)) ⟨b,none,bN,.inl ⟨rfl,rfl⟩⟩⟩⟩
  .exact q.elim
 .exact q.elim
end
end Fl
namespace L2
def aSI(e:DictEntry):Bool:=match e.key with
 | .str _ _=>true
 | _=>false
def aFR{K:Frag}{N:Az}{cl:V9}{d:O9 Az}{es:Array DictEntry}{ep:Nat}{sl:Array (O9 V9)}(l:K.lookup N=some ⟨cl,d,.dict es ep,sl⟩)(h:es.toList.all aSI=true):PySem.W.nsOkIn K N=true:=by
 unfold PySem.W.nsOkIn
 rw[show List.lookup N K=some ⟨cl,d,.dict es ep,sl⟩ from l]
 show es.all _=true
 rw[<-Array.all_toList]
 exact h
end L2
namespace Fl
open L2 PyProof.Rows
end Fl
namespace HT
open PySem.Spec PyProof.Rows L2
end HT
namespace Fl
open L2 PyProof.Rows
def FnK(K:Frag)(H:Hp)(f:Az):Prop:=PySem.W.keepIn K (.ref f)=true\/∃ oc od fd sl,H f=some (FnO f ⟨oc,od,.func fd,sl⟩)
def aC9(X:Cx)(i:Nat)(E:XK)(t:TA):TE:=fun σ H Q=>∃ f,σ[i]? = some (some (.ref f))/\FnK X.K H f/\t σ H fun vs H1=>FnK X.K H1 f/\∃ k fd ps sp,Room k X.A/\FnOk X.prog X.w X.K X.mg X.base (CXe X.prog X.w) k f fd ps sp/\lH X.K fd ps []/\sp vs H1 Q E
def aDA{X:Cx}{i:Nat}{x:Str}{E:XK}{p pos:Pos}{e:E3}{es:List E3}{t:TA}(C:PE X (.Name x p) (l8 i))(hx:pB (CXe X.prog X.w) X E)(y:PA X (e::es) t)
  (z:starEach (e::es) X.env=(false,eval e X.env)::starEach es X.env:=by rfl) (hpl:(backTo pos (starEach es X.env)).any (·.1)=false:=by rfl):PE X (.Call (.Name x p) (e::es) [] pos) (aC9 X i E t):=by
 intro a5 s σ H Q I h
 obtain ⟨f,G,d,h⟩:=h
 refine CP (thn (C a5 s σ H (fun v H'=>v=.ref f/\H'=H) I ⟨_,G,rfl,rfl⟩) fun u B l=>?_)
 obtain ⟨v,n,c,D,e1,e2⟩:=l
 subst e1 e2
 obtain rfl:u=Value.ref f:=D
 have g:∀ (us:List V9) (s1:S9),AP X a5 σ (fun vs H1=>FnK X.K H1 f/\∃ k fd ps sp,Room k X.A/\FnOk X.prog X.w X.K X.mg X.base (CXe X.prog X.w) k f fd ps sp/\lH X.K fd ps []/\sp vs H1 Q E) us s1->
   (∃ H1,Inv X a5 σ H1 s1/\FnK X.K H1 f)/\wpAny (model X.prog X.w) X.A (call (.ref f) us) (EP X a5 σ Q) X.xe s1:=by
  rintro us s1 ⟨vs,H1,b,r,a,k,fd,ps,sp,hr,F,hb,q⟩
  refine ⟨⟨H1,b,a⟩,aIG (dvs:=[]) (ds:=[]) F hr hb .nil hx b r ?_⟩
  rw[DP];exact q
 rcases d with d|⟨j,od,fd,sl,d⟩
 .refine EO (h₀:=X.base) c.ok.mod.kin d (thn (y pos a5 B σ n _ c h) fun us s1 m=>?_) z hpl
  obtain ⟨⟨H1,b,_⟩,q⟩:=g us s1 m
  exact ⟨b.kIn,q⟩
 .refine PySem.W.callWith_F ⟨j,od,fd,sl,FnO.get c.hok d⟩ (thn (y pos a5 B σ n _ c h) fun us s1 m=>?_) z hpl
  obtain ⟨⟨H1,b,a⟩,q⟩:=g us s1 m
  refine ⟨?_,q⟩
  rcases a with a|⟨j,od,fd,sl,a⟩
  .cases e:X.K.lookup f with
   | none=>unfold PySem.W.keepIn at a;dsimp only at a;rw[e] at a;cases a
   | some o=>
    have e1:=b.kIn f o e
    exfalso
    have e2:=c.kIn f o e
    obtain ⟨o',h1,h2⟩:∃ o',n f=some (FnO f o')/\True:=⟨_,d,trivial⟩
    have J:=c.bs f o (c.ok.mod.kin f o e)
    rw[J.2] at h1;cases h1
  .exact ⟨j,od,fd,sl,FnO.get b.hok a⟩
def aDB(m i:Nat)(f:Sg->R (List Dz)):Sg->R Dz:=fun ρ=>match ρ[i]? with
 | some (some (.g k n G))=>(f ρ).bind fun ds=>if k<=m/\ds.length=n then G ds else .bad
 | _=>.bad
def aSJ{X:Cx}{c:Ct}{E:XK}{e:E3}{m i:Nat}{T:Hp}{f:Sg->R (List Dz)}(hG:c.g=gOf X.prog X.w X.K X.mg X.base T)(t:X.K=c.K)(M:X.mg=c.mg)(V:Room m X.A)(h:PE X e (aC9 X i E (tAd c E f))):PD X c E e (aDB m i f):=PE.imp h fun σ H Q ⟨ρ,F,ab,k⟩=>by
 unfold aDB at k
 split at k
 .rename_i p n G hi
  obtain ⟨v,L,O⟩:=ab.slot i _ hi
  obtain ⟨y,N,rfl,s1,B⟩:=(show AF c.g c.K c.mg F (.g p n G) v from O)
  rw[hG] at B
  obtain ⟨fd,ps,S,U,I,W⟩:=(show Beh X.prog X.w X.K X.mg X.base T y N p n G from B)
  have j:∀ b H',aR F b->aR b H'->FnK X.K H' y:=fun b H' J D=>W.imp id fun ⟨P,od,fd,sl,e⟩=>⟨P,od,fd,sl,D _ _ (J _ _ (s1 _ _ e))⟩
  refine ⟨y,L,j F H (cT F) ab.fh,ρ,F,ab,(Rk.bind k).imp fun ds _ q vs b H' e1 r=>?_⟩
  refine ⟨j b H' e1.ff e1.fh,?_⟩
  by_cases l:p<=m/\ds.length=n
  .rw[AL l] at q
   refine ⟨p,fd,ps,_,V.mono l.1,I,U,b,ds,fun a o z=>e1.ff a o (s1 a o z),fun a o z=>e1.ff a o (ab.f0 a o (ab.t0 a o (by rw[hG];exact z))),e1.fh,by rw[t];exact r,l.2,?_⟩
   cases u:G ds with
   | bad=>rw[u] at q;exact q
   | ok d=>rw[u] at q;exact fun v s H2 e2 r2=>Rk.ok q v s H2 (e1.trans e2) (by rw[t] at r2;exact r2)
   | ex x=>rw[u] at q;exact fun a C s H2 e2 r2=>q a C s H2 ((ab.all.trans e1).trans e2) (by rw[t,M] at r2;exact r2)
  .rw[AK l] at q;exact q.elim
 .exact k.elim
def vE:Dz->Bool
 | .none=>true
 | .bool _=>true
 | .int _=>true
 | .str _=>true
 | _=>false
def aLZ{K:Frag}{F a:Hp}{v:V}{d:Dz}(h:vE d=true)(r:DatV K F v d):DatV K a v d:=by
 cases d with
 | none=>cases r;exact .non
 | bool b=>cases r;exact .bl b
 | int i=>cases r;exact .int i
 | str x=>cases r;exact .str x
 | list xs=>cases h
 | tuple xs=>cases h
 | dict xs=>cases h
def sM(K:Frag)(F H:Hp):List V->List Dz->Prop
 | [],[]=>True
 | v::vs,d::ds=>bG K F H v d/\sM K F H vs ds
 | _,_=>False
theorem sM.ext{K:Frag}{F H F' H':Hp}(e:Ext F H F' H'):∀ {vs:List V} {ds:List Dz},sM K F H vs ds->sM K F' H' vs ds
 | [],[],_=>trivial
 | v::vs,d::ds,h=>⟨bG.ext e h.1,sM.ext e h.2⟩
def tAr(c:Ct)(E:XK)(f:Sg->R (List Dz)):TA:=fun σ H Q=>∃ ρ F,Ab c ρ σ F H/\Rk c E F H (f ρ) fun ds=>∀ vs F' H',Ext F H F' H'->sM c.K F' H' vs ds->Q vs H'
def aO7{X:Cx}{c:Ct}{E:XK}:PA X [] (tAr c E aM):=PA.imp aK fun σ H Q ⟨ρ,F,ab,k⟩=>Rk.ok k [] F H (Ext.refl ab.fh) trivial
def aDC{X:Cx}{c:Ct}{E:XK}{e:E3}{es:List E3}{f:Sg->R Dz}{g:Sg->R (List Dz)}(h:PR X c E e f)(h2:PA X es (tAr c E g))(i:starEach (e::es) X.env=(false,eval e X.env)::starEach es X.env:=by rfl):PA X (e::es) (tAr c E (aB f g)):=PA.imp (aG h h2 i) fun σ H Q a=>by
 obtain ⟨ρ,F,ab,k⟩:=a
 refine ⟨ρ,F,ab,(Rk.bind k).imp fun x _ q v j H1 s1 r1=>⟨ρ,j,ab.ext s1,((Rk.bind q).ext s1).imp fun xs _ q vs d H2 b r2=>?_⟩⟩
 exact Rk.ok q (v::vs) d H2 (s1.trans b) ⟨bG.ext b r1,r2⟩
theorem aSK{K:Frag}{F H:Hp}(s:aR F H):∀ {vs:List V} {ds:List Dz},sM K F H vs ds->∃ FL,aR F FL/\aR FL H/\DatVs K FL vs ds
 | [],[],_=>⟨F,cT F,s,.nil⟩
 | v::vs,d::ds,h=>by
  obtain ⟨FL,a,b,r⟩:=aSK s h.2
  rcases h.1 with q|⟨p,us,xs,rfl,rfl,h1,h2⟩
  .exact ⟨FL,a,b,.cons (q.same a) r⟩
  .refine ⟨fun x=>if x=p then some (.lst us) else FL x,fun x o z=>?_,fun x o z=>?_,?_⟩
   .by_cases c:x=p
    .subst c
     have:=s x o z
     rw[h1] at this;cases this
     exact AL rfl
    .exact (AK c).trans (a x o z)
   .by_cases c:x=p
    .subst c
     have f:=(AL rfl).symm.trans z
     rw[h1];exact f
    .exact b x o ((AK c).symm.trans z)
   .have e:aR FL (fun x=>if x=p then some (.lst us) else FL x):=fun x o z=>by
     by_cases c:x=p
     .subst c
      have:=b x o z
      rw[h1] at this;cases this
      exact AL rfl
     .exact (AK c).trans z
    exact .cons (.lst (SqL.of (AL rfl)) (h2.same fun x o z=>e x o (a x o z))) (r.same e)
def yC(m i:Nat)(f:Sg->R (List Dz)):Sg->R Dz:=fun ρ=>match ρ[i]? with
 | some (some (.g k n G))=>(f ρ).bind fun ds=>if k<=m/\ds.length=n then (match G ds with | .ok d=>if vE d=true then .ok d else .bad|_=>.bad) else .bad
 | _=>.bad
def aO8{X:Cx}{c:Ct}{E:XK}{e:E3}{m i:Nat}{T:Hp}{f:Sg->R (List Dz)}(hG:c.g=gOf X.prog X.w X.K X.mg X.base T)(D:X.K=c.K)(hM:X.mg=c.mg)(Y:Room m X.A)(h:PE X e (aC9 X i E (tAr c E f))):PD X c E e (yC m i f):=PE.imp h fun σ H Q ⟨ρ,F,ab,k⟩=>by
 unfold yC at k
 split at k
 .rename_i t n G hi
  obtain ⟨v,L,V⟩:=ab.slot i _ hi
  obtain ⟨C,U,rfl,s1,B⟩:=(show AF c.g c.K c.mg F (.g t n G) v from V)
  rw[hG] at B
  obtain ⟨fd,ps,W,O,J,Z⟩:=(show Beh X.prog X.w X.K X.mg X.base T C U t n G from B)
  have l:∀ j H',aR F j->aR j H'->FnK X.K H' C:=fun j H' S I=>Z.imp id fun ⟨N,od,fd,sl,e⟩=>⟨N,od,fd,sl,I _ _ (S _ _ (s1 _ _ e))⟩
  refine ⟨C,L,l F H (cT F) ab.fh,ρ,F,ab,(Rk.bind k).imp fun ds _ q vs j H' e1 r=>?_⟩
  refine ⟨l j H' e1.ff e1.fh,?_⟩
  by_cases p:t<=m/\ds.length=n
  .rw[AL p] at q
   obtain ⟨M,a,b,P⟩:=aSK e1.fh r
   refine ⟨t,fd,ps,_,Y.mono p.1,J,O,M,ds,fun x o z=>a x o (e1.ff x o (s1 x o z)),fun x o z=>a x o (e1.ff x o (ab.f0 x o (ab.t0 x o (by rw[hG];exact z)))),b,by rw[D];exact P,p.2,?_⟩
   cases u:G ds with
   | bad=>rw[u] at q;exact q
   | ok d=>
    rw[u] at q
    intro v F2 H2 e2 r2
    have s:Rk c E F H (if vE d=true then R.ok d else .bad) _:=q
    by_cases y:vE d=true
    .rw[AL y] at s
     refine Rk.ok s v j H2 (e1.trans ⟨e2.hh,cT j,fun x o z=>e2.hh x o (e1.fh x o z),fun x z n=>absurd z n⟩) (by rw[D] at r2;exact aLZ y r2)
    .rw[AK y] at s;exact s.elim
   | ex x=>rw[u] at q;exact q.elim
  .rw[AK p] at q;exact q.elim
 .exact k.elim
def aO9{K:Frag}{F:Hp}{cs:List Az}{a:Az}{xs:List V}(b:Celd cs F)(h:SqL K F a xs):SqL K (hid cs F) a xs:=by
 rcases h with (h|⟨o,h⟩)|h
 · exact .inl (.inl (by rw [cH (b.out h fun _ v z => nomatch z)]; exact h))
 · exact .inl (.inr ⟨o, by rw [cH (b.out h fun _ v z => by unfold fU at z; cases z)]; exact h⟩)
 · exact .inr h
def aPA{K:Frag}{F:Hp}{cs:List Az}{a:Az}{xs:List V}(b:Celd cs F)(h:SqT K F a xs):SqT K (hid cs F) a xs:=by
 rcases h with (h|⟨o,h⟩)|h
 · exact .inl (.inl (by rw [cH (b.out h fun _ v z => nomatch z)]; exact h))
 · exact .inl (.inr ⟨o, by rw [cH (b.out h fun _ v z => by unfold fU at z; cases z)]; exact h⟩)
 · exact .inr h
mutual
theorem aFS{K:Frag}{F:Hp}{cs:List Az}(hc:Celd cs F):∀ {v:V} {d:Dz},DatV K F v d->DatV K (hid cs F) v d
 | _,_,.non=>.non
 | _,_,.bl b=>.bl b
 | _,_,.int i=>.int i
 | _,_,.str x=>.str x
 | _,_,.lst h r=>.lst (aO9 hc h) (pJ hc r)
 | _,_,.tup h r=>.tup (aPA hc h) (pJ hc r)
theorem pJ{K:Frag}{F:Hp}{cs:List Az}(hc:Celd cs F):∀ {vs:List V} {ds:List Dz},DatVs K F vs ds->DatVs K (hid cs F) vs ds
 | _,_,.nil=>.nil
 | _,_,.cons h r=>.cons (aFS hc h) (pJ hc r)
end
def aPB{e C b:Az}{od:O9 Az}{o:Obj}{v:V}(h:ExO e C od=fU b o v):False:=by unfold ExO fU at h;cases h
def aL0{K:Frag}{mg:Str->O9 V9}{F:Hp}{e:Er}{a C:Az}{cs:List Az}(b:Celd cs F)(h:n6 K mg F e a C):n6 K mg (hid cs F) e a C/\a∉cs:=by
 obtain ⟨m,od,h1,h2⟩:=h
 have c:=b.out h1 fun _ v z=>aPB z
 refine ⟨⟨m,od,by rw[cH c];exact h1,h2.imp id ?_⟩,c⟩
 rintro ⟨d,fvs,e1,e2,e3,e4⟩
 exact ⟨d,fvs,e1,by rw[cH (b.out e2 fun _ v z=>nomatch z)];exact e2,e3,pJ b e4⟩
def aDD{c:Cv}{H a:Hp}(s:aR (pub c H) a):Celd (eI c) a:=fun b d=>by
 obtain ⟨p,e⟩:=j2.mp d
 exact ⟨p.1,p.2,s _ _ (tU e)⟩
def aL1{a:Cv}{F H:Hp}(s:aR F H):aR (pub a F) (pub a H):=fun b o e=>by
 by_cases c:b∈eI a
 .obtain ⟨p,q⟩:=j2.mp c
  rw[tU q] at e ⊢;exact e
 .rw[fV c] at e ⊢;exact s b o e
def aBD{c:Cv}{F H h H2:Hp}(g:∀ b∈eI c,H b=none)(s:aR F H)(e:Ext (pub c F) (pub c H) h H2):Ext F H (hid (eI c) h) (hid (eI c) H2):=by
 have j:∀ b∈eI c,F b=none:=fun b a=>cL s (g b a)
 have d:∀ b o,H b=some o->b∉eI c:=fun b o q z=>by rw[g b z] at q;cases q
 have f:∀ b o,F b=some o->b∉eI c:=fun b o q z=>by rw[j b z] at q;cases q
 refine ⟨fun b o q=>?_,fun b o q=>?_,fun b o q=>?_,fun b q n=>?_⟩
 .have a:=d b o q
  rw[cH a];exact e.hh b o (by rw[fV a];exact q)
 .have a:=f b o q
  rw[cH a];exact e.ff b o (by rw[fV a];exact q)
 .obtain ⟨i,a⟩:=r6 q
  rw[cH a];exact e.fh b o i
 .by_cases a:b∈eI c
  .exact absurd (qW a) n
  .rw[cH a] at n
   have:=e.nw b (by rw[fV a];exact q) n
   unfold pZ at this ⊢
   rw[fV a] at this;exact this
def dOf:R A->R Dz
 | .ok (.d x)=>.ok x
 | .ok _=>.bad
 | .ex e=>.ex e
 | .bad=>.bad
def CloOk(P:P9)(w:W9)(K:Frag)(mg:Str->O9 V9)(base:H9)(T:Hp)(S:ClSt)(fr:List Str)(k n:Nat)(Gm:List A->List Dz->R Dz):Prop:=
 ∀ (F0 F1:Hp) (caps:List A) (cvs:List V) (f:Az) (cl:List (Str×Az)) (doc pm ct:V9) (cc:Az),aR T F0->AFs (gOf P w K mg base T) K mg F0 caps cvs->aR F0 F1->
  F1 f=some (FnO f (S.obj cl doc pm cc ct))->F1 cc=some (.cod S.qual)->CapAt F1 fr cl cvs->(∀ c∈bK fr cl,F0 c=none)->Beh P w K mg base T f F1 k n (Gm caps)
def aFT{cs:List Az}{F H d H2:Hp}(s:aR F H)(i:Celd cs F)(f:∀ c∈cs,H2 c=none)(e:Ext (hid cs F) (hid cs H) d H2):Ext F H (shw cs F d) (shw cs H H2)/\aR d (shw cs F d):=by
 have g:∀ c∈cs,d c=none:=fun c h=>cL e.fh (f c h)
 refine ⟨⟨fun b o q=>?_,fun b o q=>?_,fun b o q=>?_,fun b q n=>?_⟩,fun b o q=>?_⟩
 .by_cases a:b∈cs
  .rw[tT a];exact q
  .rw[fS a];exact e.hh b o (by rw[cH a];exact q)
 .by_cases a:b∈cs
  .rw[tT a];exact q
  .rw[fS a];exact e.ff b o (by rw[cH a];exact q)
 .by_cases a:b∈cs
  .rw[tT a] at q ⊢;exact s b o q
  .rw[fS a] at q ⊢;exact e.fh b o q
 .by_cases a:b∈cs
  .obtain ⟨o,v,z⟩:=i b a
   rw[z] at q;cases q
  .rw[fS a] at n
   have:=e.nw b (by rw[cH a];exact q) n
   unfold pZ at this ⊢
   rw[cH a] at this;exact this
 .rw[fS fun z=>by rw[g b z] at q;cases q];exact q
theorem AFs.data{g:Gb}{K:Frag}{mg:Str->O9 V9}{F:Hp}:∀ {vs:List V} {ds:List Dz},DatVs K F vs ds->AFs g K mg F (ds.map .d) vs
 | _,_,.nil=>trivial
 | _,_,.cons h r=>⟨h,AFs.data r⟩
theorem AFs.append{g:Gb}{K:Frag}{mg:Str->O9 V9}{F:Hp}:∀ {as bs:List A} {vs us:List V},AFs g K mg F as vs->AFs g K mg F bs us->AFs g K mg F (as++bs) (vs++us)
 | [],_,[],_,_,h=>h
 | a::as,bs,v::vs,us,h,h2=>⟨h.1,AFs.append h.2 h2⟩
section
variable{P:P9}{w:W9}{K:Frag}{mg:Str->O9 V9}{base:H9}{T:Hp}{S:ClSt}{N ps fr:List Str}{k:Nat}
def aBE{e l F H:Hp}{a:List A}{cvs vs:List V}{ds:List Dz}{cl:List (Str×Az)}(k:aR T e)(f:AFs (gOf P w K mg base T) K mg e a cvs)(j:aR e l)(g:aR l F)(i:aR F H)(C:CapAt l fr cl cvs)(h:∀ c∈bK fr cl,e c=none)(p:DatVs K F vs ds) :
  Celd (bK fr cl) F/\aR T (hid (bK fr cl) F)/\aR (hid (bK fr cl) F) (hid (bK fr cl) H)/\AFs (gOf P w K mg base T) K mg (hid (bK fr cl) F) (ds.map .d++a) (vs++cvs):=by
 have n:Celd (bK fr cl) F:=(C.same g).celd
 have m:aR e (hid (bK fr cl) F):=fun b o q=>by
  rw[cH fun z=>by rw[h b z] at q;cases q];exact g b o (j b o q)
 refine ⟨n,fun b o q=>m b o (k b o q),fun b o q=>?_,(AFs.data (pJ n p)).append (f.same m)⟩
 obtain ⟨r,s⟩:=r6 q
 rw[cH s];exact i b o r
def jA(n:Nat)(fb:Sg->R Fw):List A->List Dz->R Dz:=fun caps ds=>dOf (fnF n fb (ds.map .d++caps))
theorem aFU{F H:Hp}{cs:List Az}{Q:VK}{E:XK}{r:R A}(b:aR F H)(j:Celd cs F)(h:match dOf r with
 | .bad=>False
 | .ok d=>∀ v F' H',Ext F H F' H'->DatV K F' v d->Q v H'
 | .ex e=>∀ a C F' H',Ext F H F' H'->n6 K mg F' e a C->E (.ref C) (some a) H'):match (generalizing:=false) r with
 | .bad=>False
 | .ok a=>∀ v F' H',Ext (hid cs F) (hid cs H) F' H'->AF (gOf P w K mg base T) K mg F' a v->(∀ a∈cs,H' a=none)->Q v (shw cs H H')
 | .ex e=>∀ a C F' H',Ext (hid cs F) (hid cs H) F' H'->n6 K mg F' e a C->(∀ a∈cs,H' a=none)->E (.ref C) (some a) (shw cs H H'):=by
 cases r with
 | bad=>exact h
 | ok a=>
  cases a with
  | d x=>
   intro v F' H' e q c
   obtain ⟨e2,i⟩:=aFT b j c e
   exact h v _ _ e2 (DatV.same i q)
  | l xs=>exact False.elim h
  | m xs=>exact False.elim h
  | x e=>exact False.elim h
  | g k n f=>exact False.elim h
  | k S=>exact False.elim h
  | f S=>exact False.elim h
 | ex x=>
  intro a C F' H' e q c
  obtain ⟨e2,i⟩:=aFT b j c e
  exact h a C _ _ e2 (q.same i)
def aJN{body:List Stmt}{fb:Sg->R Fw}(U:S.body=.stmts body)(Sc:CloScope N ps fr S.scope)(q:∀ (cl:List (Str×Az)) (doc pm:V9) (cc:Az) (ct:V9) (us:List V9),us.length=ps.length->bindArgs (S.fd cl doc pm cc ct) ⟨us,[]⟩=pure (ps.zip us))
  (i:∀ (f cc:Az) (cl:List (Str×Az)) (A:U9) (outer:List Env) (s:S9) (H F:Hp) (E E':XK),Room k (A.deeper (dG S.qual S.scope s.heap.objs.size f (.ref cc) cl))->
   qN ((kR (CXe P w) P w K mg base N fr S.qual S.scope f (.ref cc) cl A outer s H E').fly E) ⟨K,mg,w,F,hid (bK fr cl) H,gOf P w K mg base T,(dG S.qual S.scope s.heap.objs.size f (.ref cc) cl).cells,fun _=>none⟩ E body fb) :
  CloOk P w K mg base T S fr (k+1) ps.length (jA N.length fb):=by
 intro F0 F1 g cvs f cl doc pm ct cc G l u J y C t
 refine ⟨S.fd cl doc pm cc ct,ps,rfl,.all (q cl doc pm cc ct),⟨fun vs H Q E h=>?_,fun A outer s H args us vs Q E Y e0 B O p=>?_⟩,.inr ⟨_,_,_,_,J⟩⟩
 .obtain ⟨F,ds,_,_,_,h1,h2,_⟩:=h
  rw[h1.length,h2]
 .obtain ⟨F,ds,h1,h2,m,I,Z,X⟩:=p
  obtain ⟨M,W,L,V⟩:=aBE G l u h1 m C t I
  refine aIZ U (m _ _ (h1 _ _ J)) (m _ _ (h1 _ _ y)) Sc (C.same fun b o z=>m b o (h1 b o z)) Y e0 B O (by rw[I.length,Z]) fun D=>⟨_,i f cc cl A outer s H (hid (bK fr cl) F) _ E D,?_⟩
  have j:=aFU (P:=P) (w:=w) (base:=base) (T:=T) (r:=fnF N.length fb (ds.map .d++g)) m M X
  refine u0 (n:=N.length) (fb:=fb) (Q:=fun v H'=>(∀ a∈bK fr cl,H' a=none)->Q v (shw (bK fr cl) H H')) (E:=fun c e H'=>(∀ a∈bK fr cl,H' a=none)->E c e (shw (bK fr cl) H H')) W L V ?_
  cases e:fnF N.length fb (ds.map .d++g) with
  | bad=>rw[e] at j;exact j
  | ok a=>rw[e] at j;exact j
  | ex x=>rw[e] at j;exact j
def aSL{body:E3}{fe:Sg->R Dz}(U:S.body=.expr body)(Sc:CloScope N ps fr S.scope)(p:∀ (cl:List (Str×Az)) (doc pm:V9) (cc:Az) (ct:V9) (us:List V9),us.length=ps.length->bindArgs (S.fd cl doc pm cc ct) ⟨us,[]⟩=pure (ps.zip us))
  (i:∀ (f cc:Az) (cl:List (Str×Az)) (A:U9) (outer:List Env) (s:S9) (H F:Hp) (E E':XK),Room k (A.deeper (dG S.qual S.scope s.heap.objs.size f (.ref cc) cl))->
   PD ((kR (CXe P w) P w K mg base N fr S.qual S.scope f (.ref cc) cl A outer s H E').fly E) ⟨K,mg,w,F,hid (bK fr cl) H,gOf P w K mg base T,(dG S.qual S.scope s.heap.objs.size f (.ref cc) cl).cells,fun _=>none⟩ E body fe) :
  CloOk P w K mg base T S fr (k+1) ps.length (jA N.length (bM (vD fe))):=by
 intro F0 F1 c cvs f cl doc pm ct cc G j u J y C t
 refine ⟨S.fd cl doc pm cc ct,ps,rfl,.all (p cl doc pm cc ct),⟨fun vs H Q E h=>?_,fun A outer s H args us vs Q E Y e0 B O n=>?_⟩,.inr ⟨_,_,_,_,J⟩⟩
 .obtain ⟨F,ds,_,_,_,h1,h2,_⟩:=h
  rw[h1.length,h2]
 .obtain ⟨F,ds,h1,h2,l,I,Z,X⟩:=n
  obtain ⟨M,W,L,V⟩:=aBE G j u h1 l C t I
  refine aLI U (l _ _ (h1 _ _ J)) (l _ _ (h1 _ _ y)) Sc (C.same fun b o z=>l b o (h1 b o z)) Y e0 B O (by rw[I.length,Z]) fun D=>⟨_,i f cc cl A outer s H (hid (bK fr cl) F) _ E D,?_⟩
  have g:=aFU (P:=P) (w:=w) (base:=base) (T:=T) (r:=fnF N.length (bM (vD fe)) (ds.map .d++c)) l M X
  refine ⟨_,_,aC4 W L V,?_⟩
  unfold fnF bM vD at g
  cases e:fe ((ds.map Fl.A.d++c).map some++List.replicate (N.length - (ds.map Fl.A.d++c).length) none) with
  | bad=>rw[e] at g;exact g
  | ok d=>rw[e] at g;exact fun v q H' e1 r1 m=>g v q H' e1 r1 m
  | ex x=>rw[e] at g;exact fun a C q H' e1 r1 m=>g a C q H' e1 r1 m
end
def sN(c:Ct)(F:Hp)(S:ClSt)(v:V):Prop:=∃ f cl doc pm cc ct,v=.ref f/\F f=some (FnO f (S.obj cl doc pm cc ct))/\F cc=some (.cod S.qual)/\ClOf c.cells S.scope cl
def sN.same{c:Ct}{F a:Hp}{S:ClSt}{v:V}(s:aR F a):sN c F S v->sN c a S v:=by
 rintro ⟨f,cl,doc,pm,cc,ct,h1,h2,h3,h4⟩
 exact ⟨f,cl,doc,pm,cc,ct,h1,s _ _ h2,s _ _ h3,h4⟩
def aFV{c:Ct}{S:ClSt}{P0:Az}{qs:List (Pos×Str)}{cells:List (Str×Az)}{ρ:Sg}{σ:L2.St}{F H:Hp}{Q:VK}(e:cells=c.cells)(l:c.g.T P0=some (.tbl qs))(ab:Ab c ρ σ F H)(h:∀ v F' H',Ext F H F' H'->sN c F' S v->Q v H'):tMk cells S P0 qs σ H Q:=by
 subst e
 refine ⟨ab.fh _ _ (ab.f0 _ _ (ab.t0 _ _ l)),fun f b cl doc pm ct H1 m k j=>?_⟩
 have e1:∃ d,Ext F H d H1/\d b=some (.cod S.qual):=by
  rcases m with ⟨q,rfl⟩|⟨q,rfl⟩
  .refine ⟨upd F b (.cod S.qual),⟨cT _,fun a o z=>?_,fun a o z=>?_,fun a z n=>?_⟩,bN⟩
   .by_cases w:a=b
    .subst w
     have:=ab.fh a o z
     rw[q] at this;cases this
     exact bN
    .rw[aU w];exact z
   .by_cases w:a=b
    .subst w;rw[bN] at z;rw[q];exact z
    .rw[aU w] at z;exact ab.fh a o z
   .by_cases w:a=b
    .subst w;exact .inr ⟨_,q⟩
    .rw[aU w] at n;exact absurd z n
  .exact ⟨upd F b (.cod S.qual),Ext.new ab.fh q,bN⟩
 obtain ⟨d,e1,i⟩:=e1
 have e2:Ext d H1 (upd d f (FnO f (S.obj cl doc pm b ct))) (upd H1 f (FnO f (S.obj cl doc pm b ct))):=Ext.new e1.fh k
 exact h (.ref f) _ _ (e1.trans e2) ⟨f,cl,doc,pm,b,ct,rfl,bN,e2.ff _ _ i,j⟩
def vF(i:Nat)(q:Str):Sg->R Fw:=fun ρ=>.ok (.nx (ρ.set i (some (.k q))))
def aFW{X:Cx}{c:Ct}{E:XK}{st:Stmt}{i:Nat}{q:Str}{S:ClSt}{P0:Az}{qs:List (Pos×Str)}{cells:List (Str×Az)}(b:cells=c.cells)(l:c.cls q=some S)(m:c.g.T P0=some (.tbl qs))(h:PS X st (nZ (tMk cells S P0 qs) (l9 i))):PSf X c E st (vF i q):=PS.imp h fun D σ H d=>by
 obtain ⟨ρ,F,ab,k⟩:=d
 refine aFV b m ab fun v j H' e n=>?_
 exact Rk.ok k _ j H' e.ff ((ab.ext e).setF (a:=.k q) (let ⟨f,cl,doc,pm,cc,ct,h⟩:=n;⟨S,f,cl,doc,pm,cc,ct,l,h⟩) fun z=>nomatch z)
def vG:O9 (O9 A)->O9 A
 | some (some (.d x))=>some (.d x)
 | some (some (.x e))=>some (.x e)
 | some (some (.g k n G))=>some (.g k n G)
 | _=>none
def jB:List Nat->Sg->O9 (List A)
 | [],_=>some []
 | j::js,ρ=>match vG ρ[j]?,jB js ρ with
  | some a,some as=>some (a::as)
  | _,_=>none
def yD{o:O9 (O9 A)}{a:A}(h:vG o=some a):o=some (some a)/\∀ {c:Ct} {F H:Hp} {v:V},AO c F H a v->AF c.g c.K c.mg F a v:=by
 unfold vG at h
 split at h<;>cases h
 · exact ⟨rfl, fun z => z⟩
 · exact ⟨rfl, fun z => z⟩
 · exact ⟨rfl, fun z => z⟩
theorem aFX{c:Ct}{ρ:Sg}{σ:L2.St}{F H:Hp}(ab:Ab c ρ σ F H):∀ {js:List Nat} {caps:List A},jB js ρ=some caps->∃ cvs,AFs c.g c.K c.mg F caps cvs/\cvs.length=js.length/\∀ (i:Nat) j,js[i]? = some j->∃ v,cvs[i]? = some v/\σ[j]? = some (some v)
 | [],_,h=>by cases h;exact ⟨[],trivial,rfl,fun i j z=>by simp at z⟩
 | j::js,caps,h=>by
  unfold jB at h
  split at h
  .rename_i a as h1 h2
   cases h
   obtain ⟨cvs,r,l,g⟩:=aFX ab h2
   obtain ⟨b,n⟩:=yD h1
   obtain ⟨v,m,p⟩:=ab.slot j a b
   refine ⟨v::cvs,⟨n p,r⟩,by simp[l],fun i o e=>?_⟩
   cases i with
   | zero=>simp at e;subst e;exact ⟨v,rfl,m⟩
   | succ i=>obtain ⟨d,k,f⟩:=g i o (by simpa using e);exact ⟨d,by simpa using k,f⟩
  .cases h
def aDE(X:Cx)(T:Hp)(c:Ct)(js:List Nat)(ρ:Sg)(F:Hp)(a:A)(v:V):Prop:=AF c.g c.K c.mg F a v \/
 ∃ S fr sl k n Gm caps,a=.g k n (Gm caps)/\sN c F S v/\CloOk X.prog X.w X.K X.mg X.base T S fr k n Gm/\(∀ y,(y,NameKind.free)∈S.scope.names->y∈fr)/\(∀ y∈fr,(y,NameKind.free)∈S.scope.names)/\sl.map (fun j=>X.N[j]?)=fr.map some/\(∀ j∈sl,j∈js)/\jB sl ρ=some caps
def aDE.same{X:Cx}{T:Hp}{c:Ct}{js:List Nat}{ρ:Sg}{F d:Hp}{a:A}{v:V}(s:aR F d)(h:aDE X T c js ρ F a v):aDE X T c js ρ d a v:=by
 rcases h with h|⟨S,fr,sl,k,n,Gm,b,h1,h2,e⟩
 · exact .inl (AF.same s h)
 · exact .inr ⟨S, fr, sl, k, n, Gm, b, h1, h2.same s, e⟩
def aHK(X:Cx)(T:Hp)(c:Ct)(js:List Nat)(ρ:Sg)(F:Hp):List A->List V->Prop
 | [],[]=>True
 | a::as,v::vs=>aDE X T c js ρ F a v/\aHK X T c js ρ F as vs
 | _,_=>False
def tK1(X:Cx)(T:Hp)(c:Ct)(js:List Nat)(E:XK)(f:Sg->R A):TE:=fun σ H Q=>∃ ρ F,Ab c ρ σ F H/\Rk c E F H (f ρ) fun a=>∀ v F' H',Ext F H F' H'->aDE X T c js ρ F' a v->Q v H'
def tKs(X:Cx)(T:Hp)(c:Ct)(js:List Nat)(E:XK)(f:Sg->R (List A)):TA:=fun σ H Q=>∃ ρ F,Ab c ρ σ F H/\Rk c E F H (f ρ) fun as=>∀ vs F' H',Ext F H F' H'->aHK X T c js ρ F' as vs->Q vs H'
section
variable{X:Cx}{T:Hp}{c:Ct}{js:List Nat}{E:XK}{e:E3}{es:List E3}
def aHL{f:Sg->R A}(h:PV X c E e f):PE X e (tK1 X T c js E f):=PE.imp h fun σ H Q ⟨ρ,F,ab,k⟩=>⟨ρ,F,ab,k.imp fun a _ q v b H' e1 r=>q v b H' e1 (.inl r)⟩
def sO(q:Str)(sl:List Nat)(k n:Nat)(Gm:List A->List Dz->R Dz)(i:Nat):Sg->R A:=fun ρ=>match ρ[i]?,jB sl ρ with
 | some (some (.k q')),some caps=>if q'=q then .ok (.g k n (Gm caps)) else .bad
 | _,_=>.bad
def aFY{q:Str}{S:ClSt}{fr:List Str}{sl:List Nat}{k n i:Nat}{Gm:List A->List Dz->R Dz}(l:c.cls q=some S)(M:CloOk X.prog X.w X.K X.mg X.base T S fr k n Gm)(h1:∀ y,(y,NameKind.free)∈S.scope.names->y∈fr)(h2:∀ y∈fr,(y,NameKind.free)∈S.scope.names)
  (t:sl.map (fun j=>X.N[j]?)=fr.map some) (p:∀ j∈sl,j∈js) (h:PE X e (l8 i)):PE X e (tK1 X T c js E (sO q sl k n Gm i)):=PE.imp h fun σ H Q ⟨ρ,F,ab,k⟩=>by
 unfold sO at k
 split at k
 .rename_i m a hi s
  by_cases d:m=q
  .rw[AL d] at k
   subst d
   obtain ⟨v,o,u,f,cl,doc,pm,r,ct,g,b⟩:=ab.slot i _ hi
   rw[l] at g;cases g
   have b:sN c F S v:=⟨f,cl,doc,pm,r,ct,b⟩
   exact ⟨v,o,Rk.ok k v F H (Ext.refl ab.fh) (.inr ⟨_,fr,sl,_,_,Gm,a,rfl,b,M,h1,h2,t,p,s⟩)⟩
  .rw[AK d] at k;exact k.elim
 .exact k.elim
def zU(sl:List Nat)(k n:Nat)(Gm:List A->List Dz->R Dz):Sg->R A:=fun ρ=>match jB sl ρ with
 | some caps=>.ok (.g k n (Gm caps))
 | none=>.bad
def aSM{S:ClSt}{fr:List Str}{sl:List Nat}{k n:Nat}{Gm:List A->List Dz->R Dz}{P0:Az}{qs:List (Pos×Str)}{cells:List (Str×Az)}(b:cells=c.cells)(f:c.g.T P0=some (.tbl qs))(M:CloOk X.prog X.w X.K X.mg X.base T S fr k n Gm)(h1:∀ y,(y,NameKind.free)∈S.scope.names->y∈fr)(h2:∀ y∈fr,(y,NameKind.free)∈S.scope.names)
  (i:sl.map (fun j=>X.N[j]?)=fr.map some) (l:∀ j∈sl,j∈js) (h:PE X e (tMk cells S P0 qs)):PE X e (tK1 X T c js E (zU sl k n Gm)):=PE.imp h fun σ H Q ⟨ρ,F,ab,k⟩=>by
 unfold zU at k
 split at k
 .rename_i a m
  exact aFV b f ab fun v d H' e1 o=>Rk.ok k v d H' e1 (.inr ⟨_,fr,sl,_,_,Gm,a,rfl,o,M,h1,h2,i,l,m⟩)
 .exact k.elim
def aFZ:PA X [] (tKs X T c js E aM):=PA.imp aK fun σ H Q ⟨ρ,F,ab,k⟩=>Rk.ok k [] F H (Ext.refl ab.fh) trivial
end
section
variable{X:Cx}{T:Hp}{c:Ct}{js:List Nat}{E:XK}{e:E3}{es:List E3}
def mT{f:Sg->R A}{g:Sg->R (List A)}(h:PE X e (tK1 X T c js E f))(h2:PA X es (tKs X T c js E g))(i:starEach (e::es) X.env=(false,eval e X.env)::starEach es X.env:=by rfl):PA X (e::es) (tKs X T c js E (aB f g)):=PA.imp (aG h h2 i) fun σ H Q a=>by
 obtain ⟨ρ,F,ab,k⟩:=a
 refine ⟨ρ,F,ab,(Rk.bind k).imp fun x _ q v j H1 s1 r1=>⟨ρ,j,ab.ext s1,((Rk.bind q).ext s1).imp fun xs _ q vs d H2 b r2=>?_⟩⟩
 exact Rk.ok q (v::vs) d H2 (s1.trans b) ⟨r1.same b.ff,r2⟩
theorem aDF:∀ {js:List Nat} {ρ:Sg} {caps:List A},jB js ρ=some caps->∀ j∈js,∃ a,ρ[j]? = some (some a)
 | [],_,_,_,j,hj=>by simp at hj
 | i::js,ρ,caps,h,j,hj=>by
  unfold jB at h
  split at h
  .rename_i a b h1 h2
   rcases AT.mp hj with z|z
   · subst z; exact ⟨a, (yD h1).1⟩
   · exact aDF h2 j z
  .cases h
def aPC{α:Type}{N:List α}{sl:List Nat}{fr:List α}(h:sl.map (fun j=>N[j]?)=fr.map some):sl.length=fr.length/\∀ (i:Nat) x,fr[i]? = some x->∃ j,sl[i]? = some j/\N[j]? = some x:=by
 have a:sl.length=fr.length:=by have:=CL List.length h;simpa using this
 refine ⟨a,fun i x e=>?_⟩
 have hi:i < fr.length:=(AI.mp e).1
 have h2:(sl.map (fun j=>N[j]?))[i]? = (fr.map some)[i]?:=by rw[h]
 rw[AC,AC,e,AD (by omega)] at h2
 exact ⟨sl[i],AD _,BL h2⟩
def aL2{S:ClSt}{fr:List Str}{sl:List Nat}{k n:Nat}{Gm:List A->List Dz->R Dz}{d:List A}{ρ:Sg}{σ:L2.St}{F H:Hp}{m:Cv}{v:V}(hG:c.g=gOf X.prog X.w X.K X.mg X.base T)(D:X.K=c.K)(E:X.mg=c.mg)(p:X.env.cells=c.cells)(ab:Ab c ρ σ F H)(R:PubRel X σ H js m)
  (hA:sN c F S v) (M:CloOk X.prog X.w X.K X.mg X.base T S fr k n Gm) (h1:∀ y,(y,NameKind.free)∈S.scope.names->y∈fr) (h2:∀ y∈fr,(y,NameKind.free)∈S.scope.names)
  (h3:sl.map (fun j=>X.N[j]?)=fr.map some) (W:∀ j∈sl,j∈js) (Z:jB sl ρ=some d):AF c.g c.K c.mg (pub m F) (.g k n (Gm d)) v:=by
 obtain ⟨f,cl,doc,pm,Y,ct,rfl,q1,q2,C⟩:=hA
 obtain ⟨cvs,r,l,gt⟩:=aFX ab Z
 obtain ⟨Q,g3⟩:=aPC h3
 have B:∀ b∈eI m,F b=none:=fun b hb=>cL ab.fh (R.free b hb)
 have G:aR F (pub m F):=mP B
 have key:∀ (i:Nat) x v,fr[i]? = some x->cvs[i]? = some v->∃ a o,cl.lookup x=some a/\m.lookup a=some (o,v):=fun i x v e1 e2=>by
  obtain ⟨j,q,s⟩:=g3 i x e1
  obtain ⟨v',O,e6⟩:=gt i j q
  rw[e2] at O;cases O
  obtain ⟨x',a,o,v2,L,e8,P,J⟩:=R.all j (W j (AM q))
  rw[s] at L;cases L
  rw[e6] at P;cases P
  obtain ⟨U,u⟩:=C.all (x,.free) (h2 x (AM e1)) rfl
  have t:=C.of _ _ u
  rw[<-p] at t
  have h:X.env.cells.lookup x=some U:=t
  rw[e8] at h;cases h
  exact ⟨a,o,u,J⟩
 refine ⟨f,pub m F,rfl,cT _,?_⟩
 rw[hG]
 refine M F (pub m F) d cvs f cl doc pm ct Y (fun a o z=>ab.f0 a o (ab.t0 a o (by rw[hG];exact z))) (by rw[D,E,<-D,<-E];rw[hG] at r;rw[<-D,<-E] at r;exact r) G (G _ _ q1) (G _ _ q2) ⟨l.trans Q,fun n c e=>h1 n (C.only n c e),fun n n' c e e'=>R.inj n n' c (by rw[p];exact C.of _ _ e) (by rw[p];exact C.of _ _ e'),fun i x v e1 e2=>?_⟩ fun a ha=>?_
 .obtain ⟨a,o,q,s⟩:=key i x v e1 e2
  exact ⟨a,o,q,tU s⟩
 .obtain ⟨x,hx,e⟩:=DK.mp ha
  obtain ⟨i,hi,I⟩:=EK.mp hx
  obtain ⟨U,o,q,s⟩:=key i x (cvs[i]'(by rw[l,Q];exact hi)) (by rw[AD hi,I]) (AD _)
  rw[e] at q;cases q
  exact B a (j2.mpr ⟨_,s⟩)
theorem aBF{ρ:Sg}{σ:L2.St}{F H:Hp}{cv:Cv}(hG:c.g=gOf X.prog X.w X.K X.mg X.base T)(hK:X.K=c.K)(hM:X.mg=c.mg)(hcl:X.env.cells=c.cells)(ab:Ab c ρ σ F H)(R:PubRel X σ H js cv):∀ {as:List A} {vs:List V},aHK X T c js ρ F as vs->AFs c.g c.K c.mg (pub cv F) as vs
 | [],[],_=>trivial
 | a::as,v::vs,h=>by
  refine ⟨?_,aBF hG hK hM hcl ab R h.2⟩
  rcases h.1 with q|⟨S,fr,sl,k,n,Gm,d,rfl,f,m,p,i,l,e,o⟩
  · exact AF.same (mP fun b j => cL ab.fh (R.free b j)) q
  · exact aL2 hG hK hM hcl ab R f m p i l e o
def pK(js:List Nat)(n:Nat)(G:List A->R A)(f:Sg->R (List A)):Sg->R A:=fun ρ=>match jB js ρ with
 | some _=>(f ρ).bind fun as=>if as.length=n then (dOf (G as)).bind fun x=>.ok (.d x) else .bad
 | none=>.bad
def aJO{n:Nat}{G:List A->R A}{g:Gb}{K:Frag}{mg:Str->O9 V9}{f:Sg->R (List A)}(hG:c.g=gOf X.prog X.w X.K X.mg X.base T)(U:X.K=c.K)(W:X.mg=c.mg)(B:X.env.cells=c.cells)(Z:g=c.g)(hk:K=c.K)(hm:mg=c.mg)
  (r:∀ j∈js,∃ x,X.N[j]? = some x/\X.env.kindOf x=some .cell/\X.fn x=true) (h:PE X e (aI4 X js (spF g K mg n G) E (tKs X T c js E f))):PV X c E e (pK js n G f):=PE.imp h fun σ H Q ⟨ρ,F,ab,k⟩=>by
 subst Z hk hm
 unfold pK at k
 split at k
 .rename_i J V
  refine ⟨ρ,F,ab,(Rk.bind k).imp fun s _ q vs L H1 e1 r1=>⟨fun j I=>?_,fun D R=>?_⟩⟩
  .obtain ⟨x,a1,O,a3⟩:=r j I
   obtain ⟨a,ha⟩:=aDF V j I
   obtain ⟨v,P,_⟩:=ab.slot j a ha
   exact ⟨x,v,a1,O,a3,P⟩
  .by_cases p:s.length=n
   .rw[AL p] at q
    have u:=ab.ext e1
    have y:∀ b∈eI D,L b=none:=fun b t=>cL e1.fh (R.free b t)
    refine ⟨pub D L,s,fun a o z=>mP y a o (e1.ff a o (ab.f0 a o (ab.t0 a o z))),aL1 e1.fh,aBF hG U W B u R r1,p,?_⟩
    cases i:G s with
    | bad=>rw[i] at q;exact q
    | ok a=>
     rw[i] at q
     cases a with
     | d x=>
      intro v M H2 e2 r2
      exact Rk.ok q v _ _ (e1.trans (aBD R.free e1.fh e2)) (aFS (aDD e2.ff) r2)
     | l xs=>exact False.elim q
     | m xs=>exact False.elim q
     | x xs=>exact False.elim q
     | g k n f=>exact False.elim q
     | k S=>exact False.elim q
     | f S=>exact False.elim q
    | ex x=>
     rw[i] at q
     intro a C M H2 e2 r2
     obtain ⟨Y,q2⟩:=aL0 (aDD e2.ff) r2
     exact ⟨q a C _ _ ((ab.all.trans e1).trans (aBD R.free e1.fh e2)) Y,fun b t=>by cases t;exact q2⟩
   .rw[AK p] at q;exact q.elim
 .exact k.elim
end
section
variable{P:P9}{w:W9}{K:Frag}{mg:Str->O9 V9}{base:H9}{T:Hp}
def gF(G:List A->R A):List Dz->R Dz:=fun ds=>dOf (G (ds.map .d))
def aJP{k:Nat}{x:Str}{ps:List Str}{G:List A->R A}(C:aT P w K mg base T k x ps G):∃ f,mg x=some (.ref f)/\∀ F1,Beh P w K mg base T f F1 k ps.length (gF G):=by
 obtain ⟨f,fd,F,b,m,o⟩:=C
 refine ⟨f,m,fun F1=>⟨fd,ps,rfl,b,F.imp fun vs H Q E h=>?_,.inl o⟩⟩
 obtain ⟨F,ds,_,h2,i,j,p,c⟩:=h
 refine ⟨F,ds.map .d,h2,i,AFs.data j,by simpa using p,?_⟩
 unfold gF at c
 cases e:G (ds.map .d) with
 | bad=>rw[e] at c;exact c
 | ok a=>
  rw[e] at c
  cases a with
  | d x=>exact c
  | l xs=>exact False.elim c
  | m xs=>exact False.elim c
  | x xs=>exact False.elim c
  | g k n f=>exact False.elim c
  | k S=>exact False.elim c
  | f S=>exact False.elim c
 | ex x=>rw[e] at c;exact c
def aHM(k n:Nat)(G:List A->R A):Sg->R A:=fun _=>.ok (.g k n (gF G))
def aPD{X:Cx}{c:Ct}{E:XK}{k:Nat}{x:Str}{ps:List Str}{G:List A->R A}{p:Pos}(hG:c.g=gOf X.prog X.w X.K X.mg X.base T)(C:aT X.prog X.w X.K X.mg X.base T k x ps G)(b:Gl X x)(a:(x == ("__debug__":Str))=false:=by decide):PV X c E (.Name x p) (aHM k ps.length G):=by
 obtain ⟨f,m,B⟩:=aJP C
 exact PE.imp (oX (v:=.ref f) b m rfl a) fun σ H Q ⟨ρ,F,ab,k⟩=>Rk.ok k (.ref f) F H (Ext.refl ab.fh) ⟨f,F,rfl,cT F,by rw[hG];exact B F⟩
structure DefAtT(K:Frag)(mg:Str->Option V9)(base:Heap)(T:Hp)(qs:List (Pos×Str))(x:Str)(st:Stmt)(ps:List Str):Prop where
 ex:∃ f oc od kV doc pm an c0 ct osl P0,K.lookup f=some ⟨oc,od,.func (PySem.W.fnOf x x (iZ st) (dR st) (aO st) .none kV doc pm an (.ref c0) ct),osl⟩/\PySem.W.codeIn K (.ref c0) x=true/\PySem.W.keepIn K (.ref f)=true /\
  lH K (PySem.W.fnOf x x (iZ st) (dR st) (aO st) .none kV doc pm an (.ref c0) ct) ps []/\mg x=some (.ref f)/\Tb mg base c0 P0/\T P0=some (.tbl qs)
def aSN{h:H9}{qs:List (Pos×Str)}{xs:List Str}{x:Str}{st:Stmt}{ps:List Str}(D:DefAt K mg x st ps)(j:K.In h)(i:aCN mg h base T qs xs)(hx:x∈xs):DefAtT K mg base T qs x st ps:=by
 obtain ⟨f,fd,F,b,m⟩:=D.ex
 obtain ⟨k,od,kV,doc,pm,o,c,ct,a,rfl,g,d⟩:=F.ex
 obtain ⟨c0,P0,l,p,n⟩:=i x hx
 have e:c=.ref c0:=n f _ _ m (j _ _ g) rfl
 subst e
 exact ⟨f,k,od,kV,doc,pm,o,c0,ct,a,P0,g,d,F.kp,b,m,p,l⟩
def aF0{x:Str}{st:Stmt}{N ps:List Str}{k:Nat}{qs:List (Pos×Str)}{cls:Str->O9 ClSt}{fb:Sg->R Fw}(D:DefAtT K mg base T qs x st ps)(S:FnScope N ps (aO st))
  (a:∀ (f c0 P0:Az) (A:U9) (outer:List Env) (s:S9) (H F:Hp) (E:XK),Tb mg base c0 P0->T P0=some (.tbl qs)->Room k (A.deeper (envOfC x (aO st) s.heap.objs.size f (.ref c0)))->
   qN ((lL (CXe P w) P w K mg base N x (aO st) f (.ref c0) A outer s H E).fly E) ⟨K,mg,w,F,H,gOf P w K mg base T,(envOfC x (aO st) s.heap.objs.size f (.ref c0)).cells,cls⟩ E (dR st) fb):aT P w K mg base T (k+1) x ps (fnF N.length fb):=by
 obtain ⟨f,r,od,kV,doc,pm,t,c0,ct,e,P0,o,c,j,b,m,q,n⟩:=D.ex
 refine ⟨f,_,aG0 o c S (fun vs H Q E h=>?_) (fun A outer s H vs Q E l h=>?_),b,m,j⟩
 .obtain ⟨F,p,_,_,h2,d,_⟩:=h
  rw[h2.len,d]
 .obtain ⟨F,p,g,h1,h2,d,i⟩:=h
  exact ⟨_,(a f c0 P0 A outer s H F E q n l).unfly fun _ _ z=>aA4 z,u0 g h1 h2 i⟩
end
def aSO:Stmt->E3
 | .Assign _ e _=>e
 | .Return (some e) _=>e
 | _=>.Constant .none 0 ⟨0,0,0,0⟩
def aSP(e:E3)(i:Nat):E3:=match e with
 | .Call _ as _ _=>as.getD i (.Constant .none 0 ⟨0,0,0,0⟩)
 | e=>e
def clS(q:Str):Stmt->ClSt
 | .FunctionDef x a b _ _ _ sc _ _ _=>⟨x,q,a,.stmts b,sc⟩
 | s=>⟨"",q,iZ s,.stmts [],aO s⟩
def clE(q:Str):E3->ClSt
 | .Lambda a b sc _=>⟨"<lambda>",q,a,.expr b,sc⟩
 | _=>⟨"",q,iZ (.Pass ⟨0,0,0,0⟩),.stmts [],aO (.Pass ⟨0,0,0,0⟩)⟩
def aSQ:Stmt->Pos
 | .FunctionDef _ _ _ _ _ _ _ _ _ p=>p
 | _=>⟨0,0,0,0⟩
def aVX:E3->Pos
 | .Lambda _ _ _ p=>p
 | _=>⟨0,0,0,0⟩
def aJQ{X:Cx}:∀ j∈([]:List Nat),∃ x,X.N[j]? = some x/\X.env.kindOf x=some .cell/\X.fn x=true:=fun j h=>by simp at h
def zV{X:Cx}{i:Nat}{js:List Nat}(h:∃ x,X.N[i]? = some x/\X.env.kindOf x=some .cell/\X.fn x=true)(t:∀ j∈js,∃ x,X.N[j]? = some x/\X.env.kindOf x=some .cell/\X.fn x=true):∀ j∈i::js,∃ x,X.N[j]? = some x/\X.env.kindOf x=some .cell/\X.fn x=true:=fun j a=>by
 rcases AT.mp a with z|z
 · subst z; exact h
 · exact t j z
end Fl
namespace Zp
section
variable{prog:P9}{w:W9}{A:U9}{E:V9->S9->Prop}{s:S9}
def vT{it t:Az}{i:Nat}{items}{x:V9}{Q:V9->S9->Prop}(a:s.heap.IsTupleIter it t i)
  (f:s.heap.IsTuple t items) (hx:items[i]? = some x) (g:∀ h',h'.IsTupleIter it t (i+1)->Heap.SameBut it s.heap h'->Q x {s with heap:=h'}) :
  wpAny (model prog w) A (Builtin.SmallTypes.nextOf (.ref it)) Q E s:=by
 obtain ⟨o,c,h,b⟩:=id a
 obtain ⟨k,e,_,j,d⟩:=f
 unfold Builtin.SmallTypes.nextOf
 refine AA (CU (name:=Str.ofString "__next__") a.typeIs DW
  (EJ DW a.typeIs FS ?_ (FP _)))
 show wpAny _ _ (field (.ref it) 0 >>= _) _ _ s
 refine AA (B2 c b (x:=.ref t) rfl ?_)
 show wpAny _ _ (if (Value.ref t == Value.none)=true then _ else _) _ _ s
 rw[AK (show ¬ ((Value.ref t == Value.none)=true) from B9)]
 show wpAny _ _ (field (.ref it) 1 >>= _) _ _ s
 refine AA (B2 c b (x:=.int i 0) rfl ?_)
 show wpAny _ _ (seqItems? (.ref t) >>= _) _ _ s
 refine AA (C7 e d ?_)
 simp only[Int.toNat_natCast,hx]
 refine AA (ET c b (by simp) (AH ⟨x,rfl,AH (g _ ?_ (CI ..))⟩))
 exact ⟨_,CO _ c (E2 (ED b _)),(Obj.cls_mapFields ..).trans h,by
  rw[ED b];simp[rawInt]⟩
def wS{it t:Az}{i:Nat}{items}{Q:V9->S9->Prop}(h:A.handled=none)
  (b:s.heap.IsTupleIter it t i) (j:s.heap.IsTuple t items) (hx:items[i]? = none)
  (k:∀ h' e,Heap.ExtBut it s.heap h'->(∃ o,h'.get? e=some o/\o.cls=.type "StopIteration")->E (.ref e) {s with heap:=h'}) :
  wpAny (model prog w) A (Builtin.SmallTypes.nextOf (.ref it)) Q E s:=by
 obtain ⟨o,g,p,c⟩:=id b
 obtain ⟨n,f,_,l,d⟩:=j
 unfold Builtin.SmallTypes.nextOf
 refine AA (CU (name:=Str.ofString "__next__") b.typeIs DW
  (EJ DW b.typeIs FS ?_ (FP _)))
 show wpAny _ _ (field (.ref it) 0 >>= _) _ _ s
 refine AA (B2 g c (x:=.ref t) rfl ?_)
 show wpAny _ _ (if (Value.ref t == Value.none)=true then _ else _) _ _ s
 rw[AK (show ¬ ((Value.ref t == Value.none)=true) from B9)]
 show wpAny _ _ (field (.ref it) 1 >>= _) _ _ s
 refine AA (B2 g c (x:=.int i 0) rfl ?_)
 show wpAny _ _ (seqItems? (.ref t) >>= _) _ _ s
 refine AA (C7 f d ?_)
 simp only[Int.toNat_natCast,hx]
 refine AA (FA (AA (ET g c (by simp) ?_)))
 show wpAny _ _ (newExc (.type "StopIteration") [] >>= _) _ _ _
 refine AA ?_
 simp only[newExc,newTuple]
 refine AA (CV ?_ (by size_fits))
 refine AA (m:=firstArgMember _ _) (FR (a:=Value.none) (by first|rfl|(simp only[firstArgMember];rfl)) ?_)
 refine CV ?_ (by size_fits)
 simp only[raiseNew]
 refine AA (wpAny_handled ?_)
 first|rw[show A.in1.handled=none from h]|rw[h]
 refine AA (AH (wpAny_throw ?_))
 exact k _ _ (((CI ..).extBut.push _).push _) ⟨_,A4 _ rfl,rfl⟩
end
def aEZ{prog:P9}{w:W9}{A:U9}(g:A.handled=none)(it l:Az)(c:l≠it)(items:Array V9) :
  Draws prog w A it [it,l] items.size (fun i v=>items[i]? = some v) (fun i h=>h.IsTupleIter it l i/\h.IsTuple l items) where
 live:=fun _ _ st=>let ⟨o,ho,_⟩:=st.1;⟨o,ho⟩
 frame:=fun _ _ _ st d=>⟨let ⟨o,ho,r⟩:=st.1;⟨o,d it (by simp) o ho,r⟩,let ⟨o,ho,r⟩:=st.2;⟨o,d l (by simp) o ho,r⟩⟩
 item:=fun i s Q E hi st e=>by
  refine vT st.1 st.2 (x:=items[i]) (by simp[hi]) fun h' a b=>?_
  exact e _ h' s.toks (by simp[hi]) ⟨a,st.2.extBut b.extBut c⟩ b
 done:=fun s Q E st f=>wS g st.1 st.2 (by simp) f
structure Apart(z TI TO i1 i2:Az)(f1 f2:List Az):Prop where
 TIz:TI≠z
 TOz:TO≠z
 i1z:i1≠z
 i2z:i2≠z
 TITO:TI≠TO
 TIi1:TI≠i1
 TIi2:TI≠i2
 TOi1:TO≠i1
 TOi2:TO≠i2
 i12:i1≠i2
 z1:z∉f1
 z2:z∉f2
 t1:TO∉f1
 t2:TO∉f2
 i1f2:i1∉f2
 i2f1:i2∉f1
section
variable{prog:P9}{w:W9}{A:U9}{E:V9->S9->Prop}{s:S9}
abbrev pL(h:H9)(z TI TO:Az)(f0 f1:V9):Prop:=h.get? z=some {cls:=.type "zip",dict:=none,data:=.fields #[f0,f1,.bool false,.ref TI,.ref TO],slots:=#[]}
def aL3{M:Model}{A:U9}{E:V9->S9->Prop}{s:S9}{a:Az}{Q:O9 Obj->S9->Prop}(h:Q (s.heap.get? a) s):wpAny M A (loadIfAlive a) Q E s:=fun Γ p _=>by
 unfold loadIfAlive
 rw[Sem.wp_loadIfAlive]
 exact h
def aBG{z TI TO:Az}{f0:V9}{b:Bool}{Q:Bool->S9->Prop}(hz:pL s.heap z TI TO f0 (.bool b))(c:f0=.none\/∃ T:Az,f0=rawInt T/\s.heap.get? T=none)(h:Q true s):wpAny (model prog w) A (Builtin.SmallTypes.ownedTupleIsFree (.ref z)) Q E s:=by
 unfold Builtin.SmallTypes.ownedTupleIsFree
 refine AA (B2 hz rfl (x:=f0) rfl ?_)
 rcases c with rfl|⟨T,rfl,a⟩
 .exact AH h
 .show wpAny _ _ (loadIfAlive ((T:Int)).toNat >>= _) _ _ s
  refine AA (aL3 ?_)
  rw[show ((T:Int)).toNat=T by omega,a]
  exact AH h
def aJR{z TI TO U V:Az}{f1 f2:List Az}{n1 n2 i:Nat}{P1 P2:Nat->V9->Prop}{S1 S2:Nat->H9->Prop}{a b f0:V9}{bb:Bool}{Q:V9->S9->Prop}(D:Apart z TI TO U V f1 f2)
  (D1:Draws prog w A U f1 n1 P1 S1) (D2:Draws prog w A V f2 n2 P2 S2)
  (hz:pL s.heap z TI TO f0 (.bool bb)) (ae:f0=.none\/∃ T:Az,f0=rawInt T/\s.heap.get? T=none) (ag:IsPair s.heap TI (.ref U) (.ref V)) (ah:IsPair s.heap TO a b) (h1:S1 i s.heap) (h2:S2 i s.heap) (l1:i < n1) (l2:i < n2)
  (hQ:∀ x y h' tk,P1 i x->P2 i y->IsZip h' z TI TO (rawInt s.heap.objs.size)->IsPair h' TO x y->S1 (i+1) h'->S2 (i+1) h'->IsPair h' s.heap.objs.size x y->h'.objs.size=s.heap.objs.size+1->
   (∀ c o,c≠z->c≠TO->c≠U->c≠V->s.heap.get? c=some o->h'.get? c=some o)->Q (.ref s.heap.objs.size) {s with heap:=h',toks:=tk}) :
  wpAny (model prog w) A (Builtin.«zip.__next__» ⟨[.ref z],[]⟩) (fun ai s'=>∃ v,ai=.done (.ret v)/\Q v s') E s:=by
 show wpAny _ _ (field (.ref z) 2 >>= _) _ _ _
 refine AA (B2 hz rfl (x:=.bool false) rfl ?_)
 show wpAny _ _ (field (.ref z) 3 >>= _) _ _ _
 refine AA (B2 hz rfl (x:=.ref TI) rfl ?_)
 refine AA (C7 ag rfl ?_)
 show wpAny _ _ (Builtin.SmallTypes.ownedTupleIsFree (.ref z) >>= _) _ _ _
 refine AA (aBG hz ae ?_)
 simp only[CD]
 refine AA (FA ?_)
 refine AA (B2 hz rfl (x:=.ref TO) rfl ?_)
 refine AA (DL hz (by simp) fun N F n=>?_)
 replace F:pL N z TI TO .ellipsis (.bool bb):=F
 refine AA ?_
 simp only[List.zipIdx_cons,List.zipIdx_nil,C3,FN]
 have fr:∀ {f:List Az} {c:Az} {g g':H9},Heap.SameBut c g g'->c∉f->∀ b∈f,∀ o,g.get? b=some o->g'.get? b=some o:=fun hs hc b hb o e=>hs.extBut _ _ (fun z=>hc (z▸hb)) e
 refine AA (AA (FZ ?_))
 show wpAny _ _ (Builtin.SmallTypes.nextOf (.ref U) >>= _) _ _ _
 refine AA (D1.item i {s with heap:=N} _ _ l1 (D1.frame _ _ _ h1 (fr n D.z1)) fun x H ad px P l=>AH ?_)
 have J:IsPair H TO a b:=l.extBut _ _ D.TOi1 (n.extBut _ _ D.TOz ah)
 refine AA (C7 J rfl ?_)
 refine AA (FB J fun G r k=>?_)
 replace r:IsPair G TO x b:=r
 refine AA (G0 (AH ?_))
 refine AA (AA (FZ ?_))
 show wpAny _ _ (Builtin.SmallTypes.nextOf (.ref V) >>= _) _ _ _
 refine AA (D2.item i {s with heap:=G,toks:=ad} _ _ l2 (D2.frame _ _ _ (D2.frame _ _ _ (D2.frame _ _ _ h2 (fr n D.z2)) (fr l D.i1f2)) (fr k D.t2)) fun y I af py Y j=>AH ?_)
 have j:Heap.SameBut V G I:=j
 have l:Heap.SameBut U N H:=l
 have K:IsPair I TO x b:=j.extBut _ _ D.TOi2 r
 refine AA (C7 K rfl ?_)
 refine AA (FB K fun d m h=>?_)
 replace m:IsPair d TO x y:=m
 refine AA (G0 (AH (AH ?_)))
 refine AA (C7 m rfl ?_)
 refine AA (wpAny_newTuple ?_)
 have aa:d.objs.size=s.heap.objs.size:=by rw[h.1];show I.objs.size=_;rw[j.1,k.1];show H.objs.size=_;rw[l.1,n.1]
 have k:Heap.SameBut TO H G:=k
 have h:Heap.SameBut TO I d:=h
 have M:pL d z TI TO .ellipsis (.bool bb):=h.extBut _ _ D.TOz.symm (j.extBut _ _ D.i2z.symm (k.extBut _ _ D.TOz.symm (l.extBut _ _ D.i1z.symm F)))
 have Z:∀ c o,c≠z->c≠TO->c≠U->c≠V->s.heap.get? c=some o->d.get? c=some o:=fun c o S c2 c3 c4 e=>
  h.extBut _ _ c2 (j.extBut _ _ c4 (k.extBut _ _ c2 (l.extBut _ _ c3 (n.extBut _ _ S e))))
 have R:S1 (i+1) d:=D1.frame _ _ _ (D1.frame _ _ _ (D1.frame _ _ _ P (fr k D.t1)) (fr j D.i2f1)) (fr h D.t1)
 have X:S2 (i+1) d:=D2.frame _ _ _ Y (fr h D.t2)
 have O:z < d.objs.size:=AV M
 show wpAny _ _ (Builtin.SmallTypes.ownedTupleHandOut (.ref z) (.ref d.objs.size) >>= _) _ _ _
 refine AA ?_
 unfold Builtin.SmallTypes.ownedTupleHandOut
 have W:pL (d.push {cls:=.type "tuple",data:=.seq #[x,y]}) z TI TO .ellipsis (.bool bb):=AE _ M
 refine AA (DL W (by simp) fun h₇ u B=>?_)
 replace u:pL h₇ z TI TO (rawInt d.objs.size) (.bool bb):=u
 refine DL u (by simp) fun t p C=>?_
 replace p:IsZip t z TI TO (rawInt d.objs.size):=p
 have up:∀ c o,c≠z->d.get? c=some o->t.get? c=some o:=fun c o S e=>C.extBut _ _ S (B.extBut _ _ S (AE _ e))
 have L:IsPair t d.objs.size x y:=C.extBut _ _ (DB O) (B.extBut _ _ (DB O) (A4 _ rfl))
 have ac:t.objs.size=d.objs.size+1:=by rw[C.1,B.1,B6]
 rw[aa] at p L ac
 refine AH ⟨_,rfl,?_⟩
 show Q (.ref d.objs.size) _
 rw[aa]
 exact hQ x y t af px py p (up _ _ D.TOz m) (D1.frame _ _ _ R fun b hb o e=>up b o (fun q=>D.z1 (q▸hb)) e) (D2.frame _ _ _ X fun b hb o e=>up b o (fun q=>D.z2 (q▸hb)) e) L ac fun c o S c2 c3 c4 e=>up c o S (Z c o S c2 c3 c4 e)
def aL4{z TI TO F G:Az}{f1 f2:List Az}{n1 n2 i:Nat}{P1 P2:Nat->V9->Prop}{Y Z:Nat->H9->Prop}{a b f0:V9}{O:Bool}{Q:Fin->S9->Prop}(D:Apart z TI TO F G f1 f2)
  (N:Draws prog w A F f1 n1 P1 Y) (L:Draws prog w A G f2 n2 P2 Z)
  (hz:pL s.heap z TI TO f0 (.bool O)) (R:f0=.none\/∃ T:Az,f0=rawInt T/\s.heap.get? T=none) (U:IsPair s.heap TI (.ref F) (.ref G)) (V:IsPair s.heap TO a b) (h1:Y i s.heap) (h2:Z i s.heap) (K:i=n1\/(i < n1/\i=n2))
  (hE:∀ h' tk e,(∀ c o,c≠z->c≠TO->c≠F->c≠G->s.heap.get? c=some o->h'.get? c=some o)->(∃ o,h'.get? e=some o/\o.cls=.type "StopIteration")->E (.ref e) {s with heap:=h',toks:=tk}) :
  wpAny (model prog w) A (Builtin.«zip.__next__» ⟨[.ref z],[]⟩) Q E s:=by
 show wpAny _ _ (field (.ref z) 2 >>= _) _ _ _
 refine AA (B2 hz rfl (x:=.bool false) rfl ?_)
 show wpAny _ _ (field (.ref z) 3 >>= _) _ _ _
 refine AA (B2 hz rfl (x:=.ref TI) rfl ?_)
 refine AA (C7 U rfl ?_)
 show wpAny _ _ (Builtin.SmallTypes.ownedTupleIsFree (.ref z) >>= _) _ _ _
 refine AA (aBG hz R ?_)
 simp only[CD]
 refine AA (FA ?_)
 refine AA (B2 hz rfl (x:=.ref TO) rfl ?_)
 refine AA (DL hz (by simp) fun r l j=>?_)
 replace l:pL r z TI TO .ellipsis (.bool O):=l
 refine AA ?_
 simp only[List.zipIdx_cons,List.zipIdx_nil,C3,FN]
 have fr:∀ {f:List Az} {c:Az} {g g':H9},Heap.SameBut c g g'->c∉f->∀ b∈f,∀ o,g.get? b=some o->g'.get? b=some o:=fun hs hc b hb o e=>hs.extBut _ _ (fun z=>hc (z▸hb)) e
 refine AA (AA (FZ ?_))
 show wpAny _ _ (Builtin.SmallTypes.nextOf (.ref F) >>= _) _ _ _
 rcases K with rfl|⟨l1,rfl⟩
 .refine AA (N.done {s with heap:=r} _ _ (N.frame _ _ _ h1 (fr j D.z1)) fun n e d W=>?_)
  obtain ⟨X,p,y⟩:=W
  have u:pL n z TI TO .ellipsis (.bool O):=d _ _ D.i1z.symm l
  have C:e≠z:=fun x=>by subst x;rw[u] at p;cases p;simp at y
  refine DL u (by simp) fun m _ h=>hE m s.toks e (fun c o J _ S _ x=>h.extBut _ _ J (d _ _ S (j.extBut _ _ J x))) ⟨X,h.extBut _ _ C p,y⟩
 .refine AA (N.item i {s with heap:=r} _ _ l1 (N.frame _ _ _ h1 (fr j D.z1)) fun x n H px P d=>AH ?_)
  have d:Heap.SameBut F r n:=d
  have q:IsPair n TO a b:=d.extBut _ _ D.TOi1 (j.extBut _ _ D.TOz V)
  refine AA (C7 q rfl ?_)
  refine AA (FB q fun m M h=>?_)
  have h:Heap.SameBut TO n m:=h
  refine AA (G0 (AH ?_))
  refine AA (AA (FZ ?_))
  show wpAny _ _ (Builtin.SmallTypes.nextOf (.ref G) >>= _) _ _ _
  refine AA (L.done {s with heap:=m,toks:=H} _ _ (L.frame _ _ _ (L.frame _ _ _ (L.frame _ _ _ h2 (fr j D.z2)) (fr d D.i1f2)) (fr h D.t2)) fun B e k W=>?_)
  have k:Heap.ExtBut G m B:=k
  obtain ⟨X,p,y⟩:=W
  have t:pL B z TI TO .ellipsis (.bool O):=k _ _ D.i2z.symm (h.extBut _ _ D.TOz.symm (d.extBut _ _ D.i1z.symm l))
  have C:e≠z:=fun x=>by subst x;rw[t] at p;cases p;simp at y
  refine DL t (by simp) fun I _ v=>hE I H e (fun c o J c2 S c4 x=>v.extBut _ _ J (k _ _ c4 (h.extBut _ _ c2 (d.extBut _ _ S (j.extBut _ _ J x))))) ⟨X,v.extBut _ _ C p,y⟩
def aL5{z TI TO e d:Az}{m n:List Az}{n1 n2 i:Nat}{l p:Nat->V9->Prop}{h j:Nat->H9->Prop}{a b:V9}{Q:V9->S9->Prop}(D:Apart z TI TO e d m n)
 (u:Draws prog w A e m n1 l h) (q:Draws prog w A d n n2 p j)
 (hz:IsZip s.heap z TI TO .none) (k:IsPair s.heap TI (.ref e) (.ref d)) (f:IsPair s.heap TO a b) (h1:h i s.heap) (h2:j i s.heap) (r:i < n1) (B:i < n2)
 (t:∀ x y h' tk,l i x->p i y->IsZip h' z TI TO (rawInt s.heap.objs.size)->IsPair h' TO x y->h (i+1) h'->j (i+1) h'->IsPair h' s.heap.objs.size x y->h'.objs.size=s.heap.objs.size+1->
  (∀ c o,c≠z->c≠TO->c≠e->c≠d->s.heap.get? c=some o->h'.get? c=some o)->Q (.ref s.heap.objs.size) {s with heap:=h',toks:=tk}) :
 wpAny (model prog w) A (Builtin.«zip.__next__» ⟨[.ref z],[]⟩) (fun g s'=>∃ v,g=.done (.ret v)/\Q v s') E s:=aJR D u q hz (.inl rfl) k f h1 h2 r B t
def aPE{z TI TO f g:Az}{m n:List Az}{n1 n2 i:Nat}{t u:Nat->V9->Prop}{k l:Nat->H9->Prop}{a b:V9}{Q:Fin->S9->Prop}(D:Apart z TI TO f g m n)
 (r:Draws prog w A f m n1 t k) (q:Draws prog w A g n n2 u l)
 (hz:IsZip s.heap z TI TO .none) (h:IsPair s.heap TI (.ref f) (.ref g)) (j:IsPair s.heap TO a b) (h1:k i s.heap) (h2:l i s.heap) (d:i=n1\/(i < n1/\i=n2))
 (p:∀ h' tk e,(∀ c o,c≠z->c≠TO->c≠f->c≠g->s.heap.get? c=some o->h'.get? c=some o)->(∃ o,h'.get? e=some o/\o.cls=.type "StopIteration")->E (.ref e) {s with heap:=h',toks:=tk}) :
 wpAny (model prog w) A (Builtin.«zip.__next__» ⟨[.ref z],[]⟩) Q E s:=aL4 D r q hz (.inl rfl) h j h1 h2 d p
def aJS{z TI TO e d:Az}{n p:List Az}{n1 n2 i:Nat}{k m:Nat->V9->Prop}{g h:Nat->H9->Prop}{a b:V9}{Q:O9 V9->S9->Prop}(D:Apart z TI TO e d n p)
  (K:Draws prog w A.in1 e n n1 k g) (v:Draws prog w A.in1 d p n2 m h)
  (hz:IsZip s.heap z TI TO .none) (j:IsPair s.heap TI (.ref e) (.ref d)) (f:IsPair s.heap TO a b) (h1:g i s.heap) (h2:h i s.heap) (G:i < n1) (L:i < n2)
  (J:∀ x y h' tk,k i x->m i y->IsZip h' z TI TO (rawInt s.heap.objs.size)->IsPair h' TO x y->g (i+1) h'->h (i+1) h'->IsPair h' s.heap.objs.size x y->h'.objs.size=s.heap.objs.size+1->
   (∀ c o,c≠z->c≠TO->c≠e->c≠d->s.heap.get? c=some o->h'.get? c=some o)->Q (some (.ref s.heap.objs.size)) {s with heap:=h',toks:=tk}) :
  wpAny (model prog w) A (pyNext (.ref z)) Q E s:=by
 have l:s.TypeIs (.ref z) "zip":=⟨_,hz,rfl⟩
 unfold pyNext
 exact AA (FV (CU (name:=Str.ofString "__next__") l FC
  (EJ FC l F.entry_zip_next
   (aL5 D K v hz j f h1 h2 G L fun x y h' tk C p2 u t q I H r B=>AH (J x y h' tk C p2 u t q I H r B)) (F.args_zip_next_1 _))))
def aL6{z TI TO g f:Az}{n p:List Az}{n1 n2 i:Nat}{r C:Nat->V9->Prop}{k l:Nat->H9->Prop}{a b:V9}{Q:O9 V9->S9->Prop}(D:Apart z TI TO g f n p)
  (y:Draws prog w A.in1 g n n1 r k) (q:Draws prog w A.in1 f p n2 C l)
  (hz:IsZip s.heap z TI TO .none) (j:IsPair s.heap TI (.ref g) (.ref f)) (h:IsPair s.heap TO a b) (h1:k i s.heap) (h2:l i s.heap) (d:i=n1\/(i < n1/\i=n2))
  (x:∀ h' tk,(∀ c o,c≠z->c≠TO->c≠g->c≠f->s.heap.get? c=some o->h'.get? c=some o)->Q none {s with heap:=h',toks:=tk}):wpAny (model prog w) A (pyNext (.ref z)) Q E s:=by
 have m:s.TypeIs (.ref z) "zip":=⟨_,hz,rfl⟩
 unfold pyNext
 refine AA (FV (CU (name:=Str.ofString "__next__") m FC
  (EJ FC m F.entry_zip_next (aPE D y q hz j h h1 h2 d fun h' tk e B u=>?_) (F.args_zip_next_1 _))))
 obtain ⟨o,v,t⟩:=u
 refine AA (EL (T:="StopIteration") (b:=true) ⟨o,v,t⟩ isSubtype_stop ?_)
 exact AH (x _ _ B)
end
def pM(v:V9)(o:Obj)(h:H9):Prop:=∀ (prog:P9) (w:W9) (A:U9) (E:V9->S9->Prop) (s:S9) (Q:V9->S9->Prop),s.heap=h->Q (.ref h.objs.size) {s with heap:=h.push o}->wpAny (model prog w) A (pyIter v) Q E s
noncomputable abbrev H2(h:H9)(o1 o2:Obj):H9:=(h.push o1).push o2
noncomputable abbrev H3(h:H9)(o1 o2:Obj):H9:=(H2 h o1 o2).push {cls:=.type "tuple",data:=.seq #[.ref h.objs.size,.ref (h.push o1).objs.size]}
noncomputable abbrev H4(h:H9)(o1 o2:Obj):H9:=(H3 h o1 o2).push {cls:=.type "tuple",data:=.seq #[.none,.none]}
noncomputable abbrev H5(h:H9)(o1 o2:Obj):H9:=(H4 h o1 o2).push {cls:=.type "zip",data:=.fields #[.none,.bool false,.bool false,.ref (H2 h o1 o2).objs.size,.ref (H3 h o1 o2).objs.size]}
def aJT(i f:V9)(a c:Obj) :
  Meets (Builtin.«zip.__new__» ⟨[.type "zip",i,f],[]⟩) (fun _ R s=>pM i a s.heap/\pM f c (s.heap.push a) /\
   R (.ok (.ret (.ref (H4 s.heap a c).objs.size))) {s with heap:=H5 s.heap a c}):=
 .of_wp fun prog w A R s h=>by
  obtain ⟨b,g,d,tk,os⟩:=s;obtain ⟨k,e,h⟩:=h
  have l:=sub_zip
  have m:∀ {A:U9} {E:V9->S9->Prop} {Q:V9->S9->Prop},Q (.ref b.objs.size) ⟨b.push a,g,d,tk,os⟩->wpAny (model prog w) A (pyIter i) Q E ⟨b,g,d,tk,os⟩:=fun j=>k prog w _ _ ⟨b,g,d,tk,os⟩ _ rfl j
  have p2:∀ {A:U9} {E:V9->S9->Prop} {Q:V9->S9->Prop},Q (.ref (b.push a).objs.size) ⟨(b.push a).push c,g,d,tk,os⟩->wpAny (model prog w) A (pyIter f) Q E ⟨b.push a,g,d,tk,os⟩:=fun j=>e prog w _ _ ⟨b.push a,g,d,tk,os⟩ _ rfl j
  wp_walk using m,p2
  exact ⟨_,rfl,h⟩
section
variable{prog:P9}{w:W9}{A:U9}{E:V9->S9->Prop}{s:S9}
def aL7{f e:V9}{a b:Obj}{Q:V9->S9->Prop}(h1:pM f a s.heap)(h2:pM e b (s.heap.push a))(q:a.isFreed=false)(t:b.isFreed=false)
  (h:∀ h',IsZip h' (s.heap.objs.size+4) (s.heap.objs.size+2) (s.heap.objs.size+3) .none->IsPair h' (s.heap.objs.size+2) (.ref s.heap.objs.size) (.ref (s.heap.objs.size+1))->
   IsPair h' (s.heap.objs.size+3) .none .none->h'.get? s.heap.objs.size=some a->h'.get? (s.heap.objs.size+1)=some b->h'.objs.size=s.heap.objs.size+5->
   (∀ c o,s.heap.get? c=some o->h'.get? c=some o)->Q (.ref (s.heap.objs.size+4)) {s with heap:=h'}) :
  wpAny (model prog w) A (call (.type "zip") [f,e]) Q E s:=by
 refine callType_new F.called_zip (by decide) (F.typeCall_zip_2 _ _) (F.newCall_zip_2 _ _) (fun obj=>F.args_object_init_3 obj _ _) F.entry_zip_new
  (aJT f e a b) ⟨h1,h2,?_⟩
 have i:(s.heap.push a).objs.size=s.heap.objs.size+1:=B6 ..
 have d:(H2 s.heap a b).objs.size=s.heap.objs.size+2:=by rw[B6,i]
 have j:(H3 s.heap a b).objs.size=s.heap.objs.size+3:=by rw[B6,d]
 have k:(H4 s.heap a b).objs.size=s.heap.objs.size+4:=by rw[B6,j]
 have p:(H5 s.heap a b).objs.size=s.heap.objs.size+5:=by rw[B6,k]
 have g:(H5 s.heap a b).get? (H4 s.heap a b).objs.size=some _:=A4 _ rfl
 have n:(H5 s.heap a b).get? (H3 s.heap a b).objs.size=some _:=AE _ (A4 _ rfl)
 have l:(H5 s.heap a b).get? (H2 s.heap a b).objs.size=some _:=AE _ (AE _ (A4 _ rfl))
 have m:(H5 s.heap a b).get? (s.heap.push a).objs.size=some b:=AE _ (AE _ (AE _ (A4 _ t)))
 have r:(H5 s.heap a b).get? s.heap.objs.size=some a:=AE _ (AE _ (AE _ (AE _ (A4 _ q))))
 show _/\_
 rw[d,j,k] at g
 rw[i,d] at l
 rw[j] at n
 rw[i] at m
 rw[k]
 exact ⟨⟨_,g,rfl⟩,h _ g l n r m p fun c o x=>
  AE _ (AE _ (AE _ (AE _ (AE _ x))))⟩
end
end Zp
namespace L2
open PySem.Spec PyProof.Rows
abbrev Col:=Hp->List V->Prop
structure ColOk(P:Program)(w:World)(K:Frag)(C:Col)(it:Az)(tn:Nat->Heap->Prop):Prop where
 obj:∀ i h,tn i h->∃ o,h.get? it=some o/\∀ v,o.data≠.cell v
 keep:∀ i h h',tn i h->(∀ o,h.get? it=some o->h'.get? it=some o)->tn i h'
 one:∀ (X:Cx),X.prog=P->X.w=w->X.K=K->∀ a5 s σ H xs ys,Inv X a5 σ H s->C H xs->C H ys->xs=ys
 draw:∀ (X:Cx),X.prog=P->X.w=w->X.K=K->∀ (i:Nat) (a5:List (Az×Obj)) (s:S9) (σ:St) (H:Hp) (xs:List V) (A:Around),Inv X a5 σ H s->k7 X a5 H it->tn i s.heap->C H xs->A.handled=none->
  ∃ fp Pv St,Draws P w A it fp xs.length Pv St/\St i s.heap/\(∀ j h,St j h->tn j h)/\(∀ j v,Pv j v->∃ x,xs[j]? = some x/\bL x v)/\∀ b,k7 X a5 H b->b≠it->b∉fp
def aF1{X:Cx}{a5:List (Az×Obj)}{σ:St}{H:Hp}{s:S9}{b a:Az}{o:Obj}(I:Inv X a5 σ H s)(f:k7 X a5 H b)(e:X.base.get? a=some o):b≠a:=by
 obtain ⟨_,_,_,d,_⟩:=f
 intro z
 rcases d with c|c
 .exact I.ok.noex a o e (z▸c)
 .have h:=AV e
  have g:=I.ok.bsz
  rw[z] at c
  exact absurd (A8 h (BR g c)) (BW _)
def aJU{X:Cx}{a5:List (Az×Obj)}{σ:St}{H:Hp}{s:S9}{b a:Az}{xs:List V}(I:Inv X a5 σ H s)(c:k7 X a5 H b)(h:SqL X.K H a xs):b≠a:=by
 rcases h with (h|⟨o,h⟩)|⟨o,vs,n,h,_⟩
 · intro z; rw [<- z, c.1] at h; cases h
 · intro z; rw [<- z, c.1] at h; cases h
 · exact aF1 I c (I.ok.mod.kin _ _ h)
def aJV{X:Cx}{a5:List (Az×Obj)}{σ:St}{H:Hp}{s:S9}{b a:Az}{xs:List V}(I:Inv X a5 σ H s)(c:k7 X a5 H b)(h:SqT X.K H a xs):b≠a:=by
 rcases h with (h|⟨o,h⟩)|⟨o,vs,n,h,_⟩
 · intro z; rw [<- z, c.1] at h; cases h
 · intro z; rw [<- z, c.1] at h; cases h
 · exact aF1 I c (I.ok.mod.kin _ _ h)
def aL8{P:P9}{w:W9}{K:Frag}(a it:Az):ColOk P w K (fun H xs=>SqL K H a xs) it (fun i h=>h.IsListIter it a i) where
 obj:=fun i h ⟨o,e,c,d⟩=>⟨o,e,fun v z=>by rw[d] at z;cases z⟩
 keep:=fun i h h' st k=>st.at fun o e=>k o e
 one:=by
  intro X q r g a5 s σ H xs ys I h1 h2
  subst g
  exact I.list_inj h1 h2
 draw:=by
  intro X q r g i a5 s σ H xs A I F st l D
  subst q r g
  obtain ⟨f,m,p,J⟩:=I.list l
  have n:=aJU I F l
  refine ⟨[it,a],(fun i v=>f.toArray[i]? = some v),(fun i h=>h.IsListIter it a i/\h.IsList a f.toArray),by rw[show xs.length=f.toArray.size by rw[m.length];simp];exact Draws.list D it a (BX n) f.toArray,⟨st,p.isList⟩,fun j h z=>z.1,fun j v e=>?_,fun b G B C=>?_⟩
  .have y:f[j]? = some v:=by simpa using e
   have x:j < xs.length:=by rw[m.length];exact (AI.mp y).1
   obtain ⟨u,t,E⟩:=m.get (AD x)
   rw[y] at t;cases t
   exact ⟨_,AD x,E⟩
  .rcases AT.mp C with z|z
   · exact B z
   · exact aJU I G l (by simpa using z)
def aJW{P:P9}{w:W9}{K:Frag}(a it:Az):ColOk P w K (fun H xs=>SqT K H a xs) it (fun i h=>h.IsTupleIter it a i) where
 obj:=fun i h ⟨o,e,c,d⟩=>⟨o,e,fun v z=>by rw[d] at z;cases z⟩
 keep:=fun i h h' ⟨o,e,r⟩ k=>⟨o,k o e,r⟩
 one:=by
  intro X q t g a5 s σ H xs ys I h1 h2
  subst g
  exact I.tuple_inj h1 h2
 draw:=by
  intro X q t g i a5 s σ H xs A I G st l E
  subst q t g
  obtain ⟨f,m,p,L⟩:=I.tuple l
  have n:=aJV I G l
  refine ⟨[it,a],(fun i v=>f.toArray[i]? = some v),(fun i h=>h.IsTupleIter it a i/\h.IsTuple a f.toArray),by rw[show xs.length=f.toArray.size by rw[m.length];simp];exact Zp.aEZ E it a (BX n) f.toArray,⟨st,p⟩,fun j h z=>z.1,fun j v e=>?_,fun b J C D=>?_⟩
  .have B:f[j]? = some v:=by simpa using e
   have y:j < xs.length:=by rw[m.length];exact (AI.mp B).1
   obtain ⟨u,x,F⟩:=m.get (AD y)
   rw[B] at x;cases x
   exact ⟨_,AD y,F⟩
  .rcases AT.mp D with z|z
   · exact C z
   · exact aJV I J l (by simpa using z)
def wU(z:Str):List V:=z.cps.toList.map fun c=>V.str ⟨#[c]⟩
def aPF{P:P9}{w:W9}{K:Frag}(z:Str)(t:Tok)(it:Az):ColOk P w K (fun _ xs=>xs=wU z) it (fun i h=>h.IsStrIter it (strIterType z) z t i) where
 obj:=fun i h ⟨o,e,c,d⟩=>⟨o,e,fun v z=>by rw[d] at z;cases z⟩
 keep:=fun i h h' ⟨o,e,r⟩ k=>⟨o,k o e,r⟩
 one:=fun _ _ _ _ _ _ _ _ _ _ _ h1 h2=>h1.trans h2.symm
 draw:=by
  intro X f g m i a5 s σ H xs A I x st p a
  subst f g m p
  have q:Draws X.prog X.w A it [it] z.cps.size (fun i v=>∃ c u,z.cps[i]? = some c/\v=.str ⟨#[c]⟩ u) (fun i h=>h.IsStrIter it (strIterType z) z t i):=by
   unfold strIterType
   split
   · exact Draws.strAscii a it z t
   · exact Draws.strWide a it z t
  refine ⟨[it],_,_,by rw[show (wU z).length=z.cps.size by unfold wU;simp];exact q,st,fun j h z=>z,?_,fun b y l n=>l (by simpa using n)⟩
  rintro j v ⟨c,u,hc,rfl⟩
  exact ⟨.str ⟨#[c]⟩,by unfold wU;rw[AC,E4,hc];rfl,u,rfl⟩
def Itz(C1 C2:Col):It:=
 ⟨fun i H=>∃ xs ys,C1 H xs/\C2 H ys/\i < xs.length/\i < ys.length,fun i H x H'=>∃ p u v,H p=none/\x=.ref p/\H'=upd H p (.tup [u,v])/\(∀ xs,C1 H xs->xs[i]? = some u)/\∀ ys,C2 H ys->ys[i]? = some v,
  fun i H=>∃ xs ys,C1 H xs/\C2 H ys/\(i=xs.length\/(i < xs.length/\i=ys.length))⟩
def aL9{P:P9}{w:W9}{K:Frag}{es:List E3}{k1}{ag:Pos}{C1 C2:Col}{z TI TO j l:Az}{t1 t2:Nat->H9->Prop}(R:ColOk P w K C1 j t1)(U:ColOk P w K C2 l t2)(hd:[z,TI,TO,j,l].Nodup) :
  Turn P w K (.Tuple es k1 ag) (Itz C1 C2) [z,TI,TO,j,l] z (fun i h=>IsZip h z TI TO .none/\IsPair h TI (.ref j) (.ref l)/\(∃ a b,IsPair h TO a b)/\t1 i h/\t2 i h) where
 mem:=by simp
 obj:=fun i h al c hc=>by
  obtain ⟨s1,M,⟨a,b,Q⟩,N,O⟩:=al
  simp only[AT,CC,D0] at hc
  rcases hc with rfl|rfl|rfl|rfl|rfl
  .exact ⟨_,s1,fun v z=>by have z':Data.fields _=Data.cell v:=z;cases z'⟩
  .exact ⟨_,M,fun v z=>by have z':Data.seq _ _=Data.cell v:=z;cases z'⟩
  .exact ⟨_,Q,fun v z=>by have z':Data.seq _ _=Data.cell v:=z;cases z'⟩
  .exact R.obj i h N
  .exact U.obj i h O
 keep:=fun i h h' ⟨s1,M,⟨a,b,Q⟩,N,O⟩ k=>⟨k z (by simp) _ s1,k TI (by simp) _ M,⟨a,b,k TO (by simp) _ Q⟩,R.keep i h h' N fun o e=>k j (by simp) o e,U.keep i h h' O fun o e=>k l (by simp) o e⟩
 item:=by
  intro X L J G hc i a5 s σ H E I f st hg
  obtain ⟨s1,M,⟨a,b,Q⟩,N,O⟩:=st
  obtain ⟨xs,ys,q1,q2,l1,l2⟩:=hg
  simp only[C0,AT,CC,D0,G2,CT,and_true,F9] at hd
  obtain ⟨⟨d1,d2,Z,d4⟩,⟨d5,d6,d7⟩,⟨d8,d9⟩,B⟩:=hd
  have F:X.A.in1.handled=none:=I.ok.hd hc
  obtain ⟨f1,P1,S1,D1,a1,a2,a3,V⟩:=R.draw X L J G i a5 s σ H xs X.A.in1 I (f j (by simp)) N q1 F
  obtain ⟨f2,P2,S2,D2,b1,b2,b3,Y⟩:=U.draw X L J G i a5 s σ H ys X.A.in1 I (f l (by simp)) O q2 F
  have aa:=fun zs (h:C1 H zs)=>R.one X L J G a5 s σ H zs xs I h q1
  have ad:=fun zs (h:C2 H zs)=>U.one X L J G a5 s σ H zs ys I h q2
  subst L J G
  have D:Zp.Apart z TI TO j l f1 f2:=⟨BX d1,BX d2,BX Z,BX d4,d5,d6,d7,d8,d9,B,V z (f z (by simp)) Z,Y z (f z (by simp)) d4,V TO (f TO (by simp)) d8,Y TO (f TO (by simp)) d9,Y j (f j (by simp)) B,V l (f l (by simp)) (BX B)⟩
  refine Zp.aJS D D1 D2 s1 M Q a1 b1 l1 l2 fun x y h' tk px py g1 g2 g3 g4 g5 g6 kp=>?_
  obtain ⟨u,hu,ru⟩:=a3 i x px
  obtain ⟨v,hv,rv⟩:=b3 i y py
  refine ⟨_,rfl,wpAny_letOwnedTupleGo_zip g1 fun h2 se sb=>?_⟩
  have aj:s.heap.objs.size≠z:=DB (AV s1)
  have ak:h2.get? s.heap.objs.size=some {cls:=.type "tuple",data:=.seq #[x,y]}:=(sb.2 _ aj).trans g5
  have fT:H s.heap.objs.size=none:=I.hok.fresh (AU _)
  have g:∀ c o,c∉[z,TI,TO,j,l]->s.heap.get? c=some o->h2.get? c=some o:=fun c o d q=>by
   simp only[AT,CC,D0,G2] at d
   exact (sb.2 c d.1).trans (kp c o d.1 d.2.2.1 d.2.2.2.1 d.2.2.2.2 q)
  have C:∀ c t,H c=some t->c∉[z,TI,TO,j,l]:=fun c t q p=>by rw[(f c p).1] at q;cases q
  have af:HOk X.prog X.w H h2:=fun c t q=>by
   refine (I.hok c t q).stay (fun c' v' d q'=>g c' v' ?_ q') (fun _ q=>q) (fun _ _ q=>q) fun _ _ q=>q
   rcases d with p|p
   .rw[p];exact C c t q
   .exact C c' _ p
  have ac:HOk X.prog X.w (upd H s.heap.objs.size (.tup [u,v])) h2:=HOk.track af fT ⟨by show 2<=sizeLine;decide,[x,y],.cons ru (.cons rv .nil),⟨_,ak,rfl,_,rfl⟩⟩
  have W:∀ c t,H c=some t->c≠s.heap.objs.size:=fun c t q=>bT q fT
  have I2:Inv X a5 σ (upd H s.heap.objs.size (.tup [u,v])) {s with heap:=h2,gens:=s.gens,drawn:=s.drawn,toks:=tk}:=by
   refine I.step (ch:=[z,TI,TO,j,l]) (fun c d=>?_) (fun c o _ _ d q _=>g c o d q) (fun c o _ _ d q _=>⟨o.slots,g c o d q⟩)
    (fun c o _ q n=>by rw[aU (BP (AV q))];exact n) (fun c o d q=>⟨o,g c o d q⟩) (fun c ys q=>by rw[aU (W c _ q)];exact q) (fun c o t q=>by rw[aU (W c _ q)];exact q)
    (fun c ps q=>by rw[aU (W c _ q)];exact q) (fun m hm=>?_) ac I.bare
   .obtain ⟨e0,e1,e2,e3,e4,e5⟩:=f c d
    exact ⟨e3,e1,e4,e5⟩
   .obtain ⟨o,S,ep,ho,r⟩:=hm
    exact ⟨o,S,ep,g _ o (fun p=>(f _ p).2.1 rfl) ho,r⟩
  refine ⟨.ref s.heap.objs.size,_,I2,rfl,⟨_,u,v,fT,rfl,rfl,fun zs T=>by rw[aa zs T];exact hu,fun zs T=>by rw[ad zs T];exact hv⟩,⟨se,(sb.2 TI (BX d1)).trans (kp TI _ (BX d1) d5 d6 d7 M),⟨x,y,(sb.2 TO (BX d2)).trans g2⟩,R.keep _ _ _ (a2 _ _ g3) fun o e=>(sb.2 j (BX Z)).trans e,U.keep _ _ _ (b2 _ _ g4) fun o e=>(sb.2 l (BX d4)).trans e⟩,fun c d=>?_⟩
  rw[aU]
  .exact (f c d).1
  .intro p
   have ae:c < s.heap.objs.size:=by
    simp only[AT,CC,D0] at d
    rcases d with rfl|rfl|rfl|rfl|rfl
    · exact AV s1
    · exact AV M
    · exact AV Q
    · obtain ⟨o, e, _⟩ := R.obj _ _ N; exact AV e
    · obtain ⟨o, e, _⟩ := U.obj _ _ O; exact AV e
   rw[p] at ae
   exact absurd ae (BW _)
 done:=by
  intro X L J G hc i a5 s σ H E I f st hg
  obtain ⟨s1,M,⟨a,b,Q⟩,N,O⟩:=st
  obtain ⟨xs,ys,q1,q2,ah⟩:=hg
  simp only[C0,AT,CC,D0,G2,CT,and_true,F9] at hd
  obtain ⟨⟨d1,d2,Z,d4⟩,⟨d5,d6,d7⟩,⟨d8,d9⟩,B⟩:=hd
  have F:X.A.in1.handled=none:=I.ok.hd hc
  obtain ⟨f1,P1,S1,D1,a1,a2,a3,V⟩:=R.draw X L J G i a5 s σ H xs X.A.in1 I (f j (by simp)) N q1 F
  obtain ⟨f2,P2,S2,D2,b1,b2,b3,Y⟩:=U.draw X L J G i a5 s σ H ys X.A.in1 I (f l (by simp)) O q2 F
  subst L J G
  have D:Zp.Apart z TI TO j l f1 f2:=⟨BX d1,BX d2,BX Z,BX d4,d5,d6,d7,d8,d9,B,V z (f z (by simp)) Z,Y z (f z (by simp)) d4,V TO (f TO (by simp)) d8,Y TO (f TO (by simp)) d9,Y j (f j (by simp)) B,V l (f l (by simp)) (BX B)⟩
  refine Zp.aL6 D D1 D2 s1 M Q a1 b1 ah fun h' tk kp=>⟨rfl,?_⟩
  have g:∀ c o,c∉[z,TI,TO,j,l]->s.heap.get? c=some o->h'.get? c=some o:=fun c o d q=>by
   simp only[AT,CC,D0,G2] at d
   exact kp c o d.1 d.2.2.1 d.2.2.2.1 d.2.2.2.2 q
  have C:∀ c t,H c=some t->c∉[z,TI,TO,j,l]:=fun c t q p=>by rw[(f c p).1] at q;cases q
  have ai:∀ c o,s.heap.get? c=some o->c∈[TI]->h'.get? c=some o:=fun c o e hm=>by
   have:c=TI:=by simpa using hm
   subst this
   exact kp c o (BX d1) d5 d6 d7 e
  refine I.step (g':=s.gens) (d':=s.drawn) (ch:=[z,TI,TO,j,l]) (fun c d=>?_) (fun c o _ _ d q _=>g c o d q) (fun c o _ _ d q _=>⟨o.slots,g c o d q⟩) (fun _ _ _ _ n=>n) (fun c o d q=>⟨o,g c o d q⟩) (fun _ _ q=>q) (fun _ _ _ q=>q) (fun _ _ q=>q) (fun m hm=>?_) (fun c t q=>?_) I.bare
  .obtain ⟨e0,e1,e2,e3,e4,e5⟩:=f c d
   exact ⟨e3,e1,e4,e5⟩
  .obtain ⟨o,S,ep,ho,r⟩:=hm
   exact ⟨o,S,ep,g _ o (fun p=>(f _ p).2.1 rfl) ho,r⟩
  .refine (I.hok c t q).stay (fun c' v' d q'=>g c' v' ?_ q') (fun _ q=>q) (fun _ _ q=>q) fun _ _ q=>q
   rcases d with p|p
   .rw[p];exact C c t q
   .exact C c' _ p
 self:=fun _ _ _ _ _ st h=>wpAny_pyIter_zip st.1 h
def zW(K:Frag)(H:Hp)(x:V)(C:Col):Prop:=
 (∃ a xs,x=.ref a/\SqL K H a xs/\C=fun H xs=>SqL K H a xs)\/(∃ a xs,x=.ref a/\SqT K H a xs/\C=fun H xs=>SqT K H a xs)\/∃ z,x=.str z/\C=fun _ xs=>xs=wU z
def wV{X:Cx}{a5:List (Az×Obj)}{σ:St}{H:Hp}{s:S9}{x:V}{u:V9}{C:Col}(I:Inv X a5 σ H s)(r:bL x u)(h:zW X.K H x C) :
  ∃ (o:Obj) (tn:Az->Nat->H9->Prop),(∀ h':H9,(∀ b ob,s.heap.get? b=some ob->h'.get? b=some ob)->Zp.pM u o h')/\o.isFreed=false/\(∀ it,ColOk X.prog X.w X.K C it (tn it))/\∀ it h',h'.get? it=some o->tn it 0 h':=by
 rcases h with ⟨a,xs,rfl,f,rfl⟩|⟨a,xs,rfl,f,rfl⟩|⟨z,rfl,rfl⟩
 .cases r
  obtain ⟨c,g,p,j⟩:=I.list f
  refine ⟨{cls:=.type "list_iterator",data:=.fields #[.ref a,.int 0 0]},fun it i h=>h.IsListIter it a i,fun h' d prog w A E s' Q e q=>?_,rfl,fun it=>aL8 a it,fun it h' e=>⟨_,e,rfl,rfl⟩⟩
  subst e
  refine EV (l:=a) (items:=c.toArray) ?_ q
  obtain ⟨o,e,r⟩:=p.isList
  exact ⟨o,d _ _ e,r⟩
 .cases r
  obtain ⟨c,g,p,j⟩:=I.tuple f
  refine ⟨{cls:=.type "tuple_iterator",data:=.fields #[.ref a,.int 0 0]},fun it i h=>h.IsTupleIter it a i,fun h' d prog w A E s' Q e q=>?_,rfl,fun it=>aJW a it,fun it h' e=>⟨_,e,rfl,rfl⟩⟩
  subst e
  refine wpAny_pyIter_tuple (t:=a) (items:=c.toArray) ?_ q
  obtain ⟨o,e,r⟩:=p
  exact ⟨o,d _ _ e,r⟩
 .obtain ⟨t,rfl⟩:=r
  refine ⟨{cls:=.type (strIterType z),data:=.fields #[.str z t,.int 0 0]},fun it i h=>h.IsStrIter it (strIterType z) z t i,fun h' d prog w A E s' Q e q=>?_,rfl,fun it=>aPF z t it,fun it h' e=>⟨_,e,rfl,rfl⟩⟩
  subst e
  exact wpAny_pyIter_strU q
def aSR(K:Frag)(ta:TA):TI:=fun σ H R=>ta σ H fun vs H1=>∃ x y C1 C2,vs=[x,y]/\zW K H1 x C1/\zW K H1 y C2/\R (Itz C1 C2) H1
def aSS{X:Cx}{es:List E3}{k1}{d:Pos}{a b:E3}{ta:TA}{p pos:Pos}(t:Gl X "zip")(J:X.mg "zip"=none)(w:PA X [a,b] ta)(v:starEach [a,b] X.env=[(false,eval a X.env),(false,eval b X.env)]:=by rfl)(hs2:starEach [b] X.env=[(false,eval b X.env)]:=by rfl) :
  PI X (.Tuple es k1 d) (.Call (.Name "zip" p) [a,b] [] pos) (aSR X.K ta):=by
 intro a5 s σ H R I h
 refine Call_ (nI I t J PyProof.Rows.boot_zip (CZ (thn (w pos a5 s σ H _ I h) fun us s1 ⟨vs,H1,f,r1,o⟩=>?_) (by rw[v,hs2]) (by rw[hs2];rfl)))
 obtain ⟨x,y,S,V,rfl,k,E,q⟩:=o
 cases r1 with
 | cons ru rr=>
  cases rr with
  | cons rv rr=>
   cases rr
   rename_i U _ T
   obtain ⟨Y,W,D,l,A,L⟩:=wV f ru k
   obtain ⟨P,Z,G,n,O,u⟩:=wV f rv E
   refine Zp.aL7 (D _ fun _ _ e=>e) (G _ fun _ _ e=>AE _ e) l n fun h' j C r N M Q m=>?_
   have B:Inv X a5 σ H1 {s1 with heap:=h'}:=f.kept (t':=s1.toks) m
   refine wpAny_pyIter_zip j ?_
   refine ⟨s1.heap.objs.size+4,[s1.heap.objs.size+4,s1.heap.objs.size+2,s1.heap.objs.size+3,s1.heap.objs.size,s1.heap.objs.size+1],_,_,H1,rfl,B,aL9 (A _) (O _) ?_,⟨j,C,⟨_,_,r⟩,L _ _ N,u _ _ M⟩,fun c i=>?_,q⟩
   .simp only[C0,AT,CC,D0,G2,CT,and_true,F9]
    refine ⟨⟨?_,?_,?_,?_⟩,⟨?_,?_,?_⟩,⟨?_,?_⟩,?_⟩<;>(intro z;have F:=CL (fun x:Nat=>x - s1.heap.objs.size) z;simp at F)
   .have g:s1.heap.objs.size<=c:=by
     simp only[AT,CC,D0] at i
     rcases i with rfl|rfl|rfl|rfl|rfl
     · exact EZ _ _
     · exact EZ _ _
     · exact EZ _ _
     · exact AU _
     · exact EZ _ _
    exact f.fpOk g (f.hok.fresh g)
end L2
namespace Fl
open L2 PyProof.Rows
def aNO(p:Dz×Dz):Dz:=.tuple [p.1,p.2]
def aDG(x y:Dz):R (List Dz):=(a9 x).bind fun xs=>(a9 y).bind fun ys=>.ok ((xs.zip ys).map aNO)
def yE{d:Dz}{xs:List Dz}(h:a9 d=.ok xs):xs.length<=16777216:=by
 unfold a9 at h
 split at h
 .split at h
  · rename_i a; cases h; exact a
  · cases h
 .split at h
  · rename_i a; cases h; exact a
  · cases h
 .split at h
  · rename_i a; cases h; rw [AB]; exact a
  · cases h
 .cases h
def t7{d:Dz}{e:Er}:a9 d≠.ex e:=by
 intro h
 unfold a9 at h
 split at h
 · split at h <;> cases h
 · split at h <;> cases h
 · split at h <;> cases h
 · cases h
theorem wW{K:Frag}{F:Hp}:∀ (cs:List Nat),DatVs K F (cs.map fun c=>V.str ⟨#[c]⟩) (cs.map fun c=>PyData.str ⟨#[c]⟩)
 | []=>.nil
 | c::t=>.cons (.str _) (wW t)
def aF2{K:Frag}{F B:Hp}{v:V}{d:Dz}{xs:List Dz}(s:aR F B)(r:bG K F B v d)(h:a9 d=.ok xs):∃ C vs,zW K B v C/\(∀ H1,aR B H1->C H1 vs)/\DatVs K F vs xs:=by
 unfold a9 at h
 split at h
 .split at h
  .cases h
   obtain ⟨p,vs,rfl,h1,h2⟩:=bG.lst_of s r
   exact ⟨_,vs,.inl ⟨p,vs,rfl,h1,rfl⟩,fun H1 q=>h1.same q,h2⟩
  .cases h
 .split at h
  .cases h
   obtain ⟨p,vs,rfl,h1,_,h2⟩:=bG.tup_of s r
   exact ⟨_,vs,.inr (.inl ⟨p,vs,rfl,h1.same s,rfl⟩),fun H1 q=>(h1.same s).same q,h2⟩
  .cases h
 .rename_i z
  split at h
  .cases h
   obtain rfl:=bG.str_of r
   exact ⟨_,wU z,.inr (.inr ⟨z,rfl,rfl⟩),fun _ _=>rfl,wW _⟩
  .cases h
 .cases h
def aMA{K:Frag}{F B:Hp}{v:V}{d:Dz}{xs:List Dz}(s:aR F B)(r:DatV K F v d)(h:a9 d=.ok xs):∃ C vs,zW K B v C/\(∀ H1,aR F H1->C H1 vs)/\DatVs K F vs xs:=by
 unfold a9 at h
 split at h
 .split at h
  .cases h
   obtain ⟨p,vs,rfl,h1,h2⟩:=DatV.lst_of r
   exact ⟨_,vs,.inl ⟨p,vs,rfl,h1.same s,rfl⟩,fun H1 q=>h1.same q,h2⟩
  .cases h
 .split at h
  .cases h
   obtain ⟨p,vs,rfl,h1,h2⟩:=DatV.tup_of r
   exact ⟨_,vs,.inr (.inl ⟨p,vs,rfl,h1.same s,rfl⟩),fun H1 q=>h1.same q,h2⟩
  .cases h
 .rename_i z
  split at h
  .cases h
   obtain rfl:=DatV.str_of r
   exact ⟨_,wU z,.inr (.inr ⟨z,rfl,rfl⟩),fun _ _=>rfl,wW _⟩
  .cases h
 .cases h
theorem aF3{α β:Type}:∀ {xs:List α} {ys:List β} {i:Nat} {x:α} {y:β},xs[i]? = some x->ys[i]? = some y->(xs.zip ys)[i]? = some (x,y)
 | [],_,_,_,_,h,_=>by simp at h
 | _::_,[],_,_,_,_,h=>by simp at h
 | x::xs,y::ys,0,_,_,h1,h2=>by simp at h1 h2;subst h1 h2;rfl
 | x::xs,y::ys,i+1,_,_,h1,h2=>by
  show (xs.zip ys)[i]? = _
  exact aF3 (by simpa using h1) (by simpa using h2)
def aPG{K:Frag}{F B:Hp}{h g:Col}{us vs:List V}{xs ys:List Dz}(hz:xs.length<=16777216)(h1:∀ H1,aR F H1->aR B H1->h H1 us)(h2:∀ H1,aR F H1->aR B H1->g H1 vs)(d1:DatVs K F us xs)(d2:DatVs K F vs ys) :
  Yld K (Itz h g) F B ((xs.zip ys).map aNO) where
 len:=by rw[fD,AB,FD];omega
 go:=fun i f H1 d c a hi=>by
  rw[AB,FD] at hi
  have b:aR F H1:=fun x o z=>c x o (d x o z)
  exact ⟨us,vs,h1 H1 b a,h2 H1 b a,by rw[d1.length];omega,by rw[d2.length];omega⟩
 yld:=fun i f H1 v H2 x d c a y e=>by
  obtain ⟨p,u,w,k,rfl,rfl,l,m⟩:=y
  have b:aR F H1:=fun x o z=>c x o (d x o z)
  obtain ⟨dx,e1,r1⟩:=d1.get (l us (h1 H1 b a))
  obtain ⟨n,e2,r2⟩:=d2.get (m vs (h2 H1 b a))
  rw[AC,aF3 e1 e2] at e
  cases e
  have j:=aR.upd (o:=.tup [u,w]) (cL c k)
  exact ⟨_,Ext.new c k,.tup (SqT.of bN) (.cons ((r1.same d).same j) (.cons ((r2.same d).same j) .nil))⟩
 stop:=fun f H1 d c a=>by
  have b:aR F H1:=fun x o z=>c x o (d x o z)
  refine ⟨us,vs,h1 H1 b a,h2 H1 b a,?_⟩
  rw[AB,FD,d1.length,d2.length]
  omega
section
variable{X:Cx}{c:Ct}{E:XK}{tg e:E3}
def aPH{f g:Sg->R Dz}(n:X.K=c.K)(h:PI X tg e (aSR X.K (gL (tV (bO c) c E f) (gL (tV (bO c) c E g) kC)))):PIf X c E tg e (fun ρ=>(f ρ).bind fun x=>(g ρ).bind fun y=>aDG x y):=PI.imp h fun σ H Q a=>by
 obtain ⟨ρ,F,ab,k⟩:=a
 refine ⟨ρ,F,ab,(Rk.bind k).imp fun x _ q v o H1 s1 r1=>⟨ρ,o,ab.ext s1,((Rk.bind q).ext s1).imp fun y _ q w d H' s r=>?_⟩⟩
 unfold aDG at q
 cases e1:a9 x with
 | bad=>rw[e1] at q;exact q.elim
 | ex e=>exact absurd e1 t7
 | ok xs=>
  rw[e1] at q
  cases e2:a9 y with
  | bad=>rw[R.bind_ok,e2] at q;exact q.elim
  | ex e=>exact absurd e2 t7
  | ok ys=>
   rw[R.bind_ok,e2] at q
   have b:bG c.K d H' v x:=bG.ext s r1
   obtain ⟨u,us,l,j,i⟩:=aF2 s.fh b e1
   obtain ⟨t,vs,m,p,A⟩:=aF2 s.fh r e2
   rw[n]
   exact ⟨v,w,u,t,rfl,l,m,Rk.ok q _ H' d H' (s1.trans s) (cT _) (aPG (yE e1) (fun H1 _ z=>j H1 z) (fun H1 _ z=>p H1 z) i A)⟩
end
end Fl
namespace L2
open PySem.Spec PyProof.Rows
section
variable{K:Type}[DecidableEq K]{prog:P9}{w:W9}{knd:KeyKind prog w K}{A:U9}{E:V9->S9->Prop}{s:S9}
def rB{a:List (K×V9)}{k:K}(h:valueAt a k=none):k∉a.map (·.1):=fun q=>by
 obtain ⟨kv,b,e⟩:=AN.mp q
 unfold valueAt at h
 have h:=Option.map_eq_none_iff.mp h
 rw[List.find?_eq_none] at h
 exact h kv b (AX e)
def aMB{d:Az}{f:List (K×V9)}{k:K}{key y:V9}{Q:V9->S9->Prop}(c:knd.is k key=true)(n:s.heap.DictOf knd d f)
  (h1:∀ v,valueAt f k=some v->Q v {s with toks:=s.toks+1})
  (h2:valueAt f k=none->∀ h',h'.DictOf knd d (f++[(k,y)])->Heap.SameBut d s.heap h'->Q y {s with heap:=h',toks:=s.toks+1})
  (hsz:f.length<=sizeLine):wpAny (model prog w) A (dictSetDefault d key y) Q E s:=by
 have hz:s.heap.DictLe d sizeLine:=fun o es ep h g=>by
  obtain ⟨o',F,H,a,_,b,_,m,_⟩:=n
  rw[h] at a;cases a
  rw[g] at b;cases b
  have e1:=m.length
  have e2:es.toList.length=es.size:=by simp
  omega
 cases e:valueAt f k with
 | some v=>exact wpAny_dictSetDefault_of (hz:=hz) c n.mapOf (fun u B=>h1 u B) fun j=>by rw[e] at j;cases j
 | none=>
  have i:=rB e
  obtain ⟨o,es,ep,h,C,g,t,m,j⟩:=n
  have hi:(es.findIdx? fun e=>knd.is k e.key)=none:=by
   have q:(es.findIdx? fun e=>knd.is k e.key)=f.findIdx? fun kv=>decide (kv.1=k):=by rw[<-m.findIdx k];obtain ⟨l⟩:=es;simp
   rw[q,List.findIdx?_eq_none_iff]
   intro kv p
   exact BA fun z=>i (AN.mpr ⟨kv,p,z⟩)
  unfold dictSetDefault
  try with_reducible refine CA ?_
  refine AA (knd.pyHash c (AA (wpAny_dictFind_of (s:={s with toks:=s.toks+1}) c h g t ?_)))
  rw[hi]
  have G:=hz _ _ _ h g
  refine AA (FA (AA (wpAny_updateDictKeys (hz:=G) (s:={s with toks:=s.toks+1}) h g (AH (h2 e _ ⟨_,_,ep+1,CO _ h (Obj.isFreed_of_dict (EM g _)),C.mapDictKeys _,EM g _,t.push c _,?_,?_⟩ (CI ..))))))
  .have q:=m.append c (knd.hash k) y
   obtain ⟨l⟩:=es
   simpa using q
  .rw[BJ,CW]
   refine ⟨j,by simp,fun x D z r=>?_⟩
   rw[show z=k by simpa using r]
   exact fun q=>i (q▸D)
end
section
variable{K:Type}[DecidableEq K]{prog:P9}{w:W9}{knd:HeapKind prog w K}{A:U9}{E:V9->S9->Prop}{s:S9}
def aPI{d a:Az}{xs:List (K×Az×V9)}{k:K}{y:V9}{Q:V9->S9->Prop}(v:knd.room A)(b:knd.is s.heap k a)(C:s.heap.DictOfH knd d xs)
  (h1:∀ p,atKey xs k=some p->Q p.2 {s with toks:=s.toks+knd.draws k})
  (h2:atKey xs k=none->∀ h',h'.DictOfH knd d (storedH xs k a y)->Heap.SameBut d s.heap h'->Q y {s with heap:=h',toks:=s.toks+knd.draws k})
  (hsz:xs.length<=sizeLine):wpAny (model prog w) A (dictSetDefault d (.ref a) y) Q E s:=by
 obtain ⟨o,es,ep,g,D,c,n,m,r⟩:=C
 unfold dictSetDefault
 try with_reducible refine CA ?_
 refine AA (knd.pyHash v b (AA (wpAny_dictFind_heap (s:={s with toks:=s.toks+knd.draws k}) v b g c n m r (fun i=>?_) (fun j p B=>?_))))
 .have h:k∉xs.map (·.1):=not_mem_keys_of_get i
  have l:=atKey_none_of_get i
  have h2:=h2 l
  rw[storedH_new l] at h2
  have t:es.size<=sizeLine:=by have e:=size_of_entries n;omega
  refine AA (FA (AA (wpAny_updateDictKeys (hz:=t) (s:={s with toks:=s.toks+knd.draws k}) g c (AH (h2 _ ⟨_,_,ep+1,CO _ g (Obj.isFreed_of_dict (EM c _)),D.mapDictKeys _,EM c _,by simp[n,entryOfKey],fun x f=>?_,?_⟩ (CI ..))))))
  .rcases BK.mp f with f|f
   · exact knd.keeps (m x f) g c (CI ..)
   · rw [AQ.mp f]; exact knd.keeps b g c (CI ..)
  .rw[BJ,CW]
   refine ⟨r,by simp,fun x f z u=>?_⟩
   rw[show z=k by simpa using u]
   exact fun q=>h (q▸f)
 .refine AA (wpAny_dictEntries (s:={s with toks:=s.toks+knd.draws k}) g c ?_)
  rw[entry_at n j,B]
  exact AA (FA (AH (h1 p (atKey_of_get r B))))
end
def aDH{prog:P9}{w:W9}{d:Az}{key y:V9}(b:(d == sysModules)=false) :
  MeetsIn prog w (Builtin.«dict.setdefault» ⟨[.ref d,key,y],[]⟩) (fun A R s=>s.TypeIs (.ref d) "dict"/\wpAny (model prog w) A.in1 (dictSetDefault d key y) (fun v s'=>R (.ok (.ret v)) s') (fun e s'=>R (.error e) s') s):=
 .of_wp fun A R s a=>by
  obtain ⟨c,h⟩:=a
  unfold Builtin.«dict.setdefault»
  refine AA ?_
  unfold Builtin.Dict.keyAndDefault
  refine AA (wpAny_notOrdered_dict c ?_)
  show wpAny _ _ (pure (d,key,some y)) _ _ s
  refine AH ?_
  show wpAny _ _ (if (d == sysModules)=true then _ else (dictSetDefault d key y >>= _)) _ _ s
  rw[AK (by rw[b];exact B9)]
  exact AA (B0 h (fun v s' q=>AH ⟨v,rfl,q⟩) fun _ _ q=>q)
end L2
namespace Fl
open L2 PyProof.Rows
def aST(X:Cx):V->List V->Hp->VK->Prop:=fun x xs H Q=>∃ p es k kv y,x=.ref p/\xs=[kv,y]/\DicAt X H p es k kv/\es.length<=sizeLine/\(∀ v,atE es k=some v->Q v H)/\(atE es k=none->∀ ep,Q y (upd H p (eM X.w p (pH es k kv y) ep)))
section
variable{X:Cx}{c:Ct}{E:XK}{e a b:E3}{st:Stmt}{pos:Pos}
def aJX(O:X.A.units+64 < cLine):MtR X "dict.setdefault" (aST X):=by
 intro a5 s σ H x xs v us Q I P R h
 obtain ⟨p,es,k,kv,y,rfl,rfl,D,K,L,M⟩:=h
 cases (show v=Value.ref p from P)
 cases R with
 | @cons _ ku _ us r1 t=>
  cases t with
  | @cons _ yu _ us r2 t=>
   cases t
   have c:s.TypeIs (.ref p) "dict":=by
    obtain ⟨ep,i⟩:=D.o
    obtain ⟨⟨_,o,ar,h1,h2,_⟩,_,_⟩:=(show cX X.prog X.w H s.heap p (eM X.w p es ep) from I.hok p _ i)
    exact ⟨o,h1,h2.1⟩
   obtain ⟨m,⟨b,xs,rfl,rfl,f,J,dd⟩|⟨d,xs,rfl,rfl,f,J,dd⟩⟩:=D.cases I r1
   .have u:xs.length<=sizeLine:=by rw[<-Paired.length f];exact K
    have a:=qX (k:=k) f
    refine call_meetsIn DI c FI (FE _ _ _) (aDH m) ⟨c,aPI (nM O) J dd (fun T E=>?_) (fun E h' g F=>?_) u⟩
    .rw[E] at a
     cases e:atE es k with
     | none=>rw[e] at a;cases a
     | some z=>
      rw[e] at a
      exact ⟨_,H,I.tok _,a,L z e⟩
    .rw[E] at a
     have e:atE es k=none:=by
      cases e:atE es k with
      | none=>rfl
      | some z=>rw[e] at a;cases a
     obtain ⟨l,ar,ep,j,h2,G,B,_,N⟩:=g
     obtain ⟨q,i⟩:=D.o
     refine ⟨y,_,oY I (by rw[i];exact True.intro) F ⟨l,j⟩ (lV (ep:=ep) m ⟨l,ar,j,h2,G,?_⟩),r2,M e ep⟩
     rw[B]
     exact sB (aHC r2 f)
   .have u:xs.length<=sizeLine:=by rw[<-Paired.length f];exact K
    have a:=qY (k:=d) f
    refine call_meetsIn DI c FI (FE _ _ _) (aDH m) ⟨c,aMB J dd (fun v n=>?_) (fun n h' g F=>?_) u⟩
    .rw[n] at a
     cases e:atE es (j7 d) with
     | none=>rw[e] at a;cases a
     | some z=>
      rw[e] at a
      exact ⟨_,H,I.tok _,a,L z e⟩
    .rw[n] at a
     have e:atE es (j7 d)=none:=by
      cases e:atE es (j7 d) with
      | none=>rfl
      | some z=>rw[e] at a;cases a
     have pv:=aHD (k:=d) r2 f
     have r:stored xs d yu=xs++[(d,yu)]:=by
      unfold stored
      rw[AK]
      intro z
      obtain ⟨kv,h1,h2⟩:=GK.mp z
      exact rB n (AN.mpr ⟨kv,h1,BF h2⟩)
     rw[r] at pv
     obtain ⟨l,ar,ep,j,h2,G,B,N,_⟩:=g
     obtain ⟨q,i⟩:=D.o
     refine ⟨y,_,oY I (by rw[i];exact True.intro) F ⟨l,j⟩ (lV (ep:=ep) m ⟨l,ar,j,h2,G,?_⟩),r2,M e ep⟩
     exact sC pv N fun S C=>B S (by simpa using C)
def oP(i:Nat)(f g:Sg->R Dz):Sg->R Fw:=fun ρ=>match ρ[i]? with
 | some (some (.m a6))=>(f ρ).bind fun k=>(g ρ).bind fun y=>if cK k (a6.map (·.1))=true/\a6.length<=16777216 then .ok (.nx (if cQ a6 k=true then ρ else ρ.set i (some (.m (putM a6 k y))))) else .bad
 | _=>.bad
def aF4{i:Nat}{f g:Sg->R Dz}(P:X.K=c.K)(A:X.w=c.w)(h:PS X st (aBV (aSF X "dict" (aST X) (l8 i) (gL (tV (dC c) c E f) (gL (tV (dC c) c E g) kC))))):PSf X c E st (oP i f g):=PS.imp h fun D σ H ⟨ρ,F,ab,k⟩=>by
 unfold oP at k
 split at k
 .rename_i b hi
  obtain ⟨_,C,p,es,rfl,⟨ep,L⟩,_⟩:=ab.slot i _ hi
  refine ⟨_,C,fun a5 s v I r=>?_,ρ,F,ab,(Rk.bind k).imp fun d _ q v Q H1 s1 r1=>?_⟩
  .cases (show v=Value.ref p from r)
   rw[<-A] at L
   obtain ⟨⟨_,o,ar,h1,h2,_⟩,_,_⟩:=(show cX X.prog X.w H s.heap p (eM X.w p es ep) from I.hok p _ L)
   exact ⟨⟨o,h1,h2.1⟩,fun a z=>by cases z;exact ⟨o,h1,h2.2.1⟩⟩
  .refine ⟨ρ,Q,ab.ext s1,((Rk.bind q).ext s1).imp fun y _ q u M H2 J r2=>?_⟩
   split at q
   .rename_i O
    have j:=s1.trans J
    have e:=ab.ext j
    obtain ⟨T,t,l,S,m⟩:=aB3 P A e hi (DatV.same J.ff r1) O.1
    rw[C] at l
    cases l
    have N:=zR (k:=d) m.k1 m.vs
    refine ⟨p,t,d,v,u,rfl,rfl,S,?_,fun z n=>?_,fun n=>?_⟩
    .have:t.length=b.length:=by have:=CL List.length m.k1;simpa using this
     rw[this,fD];exact O.2
    .have B:cQ b d=true:=by
      rcases N with ⟨G,_⟩|⟨_,_,_,x,_⟩
      · rw [G] at n; cases n
      · unfold cQ; rw [x]; rfl
     rw[AL B] at q
     exact Rk.ok q σ M _ j.ff e
    .have B:¬ cQ b d=true:=by
      rcases N with ⟨_,x⟩|⟨_,_,G,_,_⟩
      · unfold cQ; rw [x]; intro z; cases z
      · rw [G] at n; cases n
     rw[AK B] at q
     intro ep
     rw[A]
     exact Rk.ok q σ M _ j.ff (e.putM hi C (m.put (DatV.same J.ff r1) r2))
   .exact q.elim
 .exact k.elim
end
def aVY(i:Nat):Sg->R Fw:=fun ρ=>match ρ[i]? with
 | some (some (.l xs))=>.ok (.nx (ρ.set i (some (.l xs.reverse))))
 | _=>.bad
end Fl
namespace Zp
def aJY(v:V9)(o:Obj) :
  Meets (Builtin.«enumerate.__new__» ⟨[.type "enumerate",v],[]⟩) (fun _ R s=>pM v o s.heap /\
   R (.ok (.ret (.ref (s.heap.push o).objs.size))) {s with heap:=(s.heap.push o).push {cls:=.type "enumerate",data:=.fields #[.none,.bool false,.ref s.heap.objs.size,rawInt 0,.none,.none]}}):=
 .of_wp fun prog w A R s h=>by
  obtain ⟨a,g,d,tk,os⟩:=s;obtain ⟨f,h⟩:=h
  have e:=sub_enumerate
  have b:∀ {A:U9} {E:V9->S9->Prop} {Q:V9->S9->Prop},Q (.ref a.objs.size) ⟨a.push o,g,d,tk,os⟩->wpAny (model prog w) A (pyIter v) Q E ⟨a,g,d,tk,os⟩:=fun i=>f prog w _ _ ⟨a,g,d,tk,os⟩ _ rfl i
  wp_walk
  refine wpAny_stack_any fun st=>AH ?_
  split
  .rename_i c _ _ _ _ _
   cases (c == Value.type "enumerate")<;>(wp_walk using b;exact ⟨_,rfl,h⟩)
  .wp_walk using b
   exact ⟨_,rfl,h⟩
def aMC{prog:P9}{w:W9}{A:U9}{E:V9->S9->Prop}{s:S9}{v:V9}{o:Obj}{Q:V9->S9->Prop}(h1:pM v o s.heap)(d:o.isFreed=false)
  (h:∀ h',IsEnum h' (s.heap.objs.size+1) s.heap.objs.size 0 .none->h'.get? s.heap.objs.size=some o->h'.objs.size=s.heap.objs.size+2->(∀ b o,s.heap.get? b=some o->h'.get? b=some o)->Q (.ref (s.heap.objs.size+1)) {s with heap:=h'}) :
  wpAny (model prog w) A (call (.type "enumerate") [v]) Q E s:=by
 refine callType_new F.called_enumerate (by decide) (F.typeCall_enumerate_1 _) (F.newCall_enumerate_1 _) (fun obj=>F.args_object_init_2 obj _) F.entry_enumerate_new (aJY v o) ⟨h1,?_⟩
 have a:(s.heap.push o).objs.size=s.heap.objs.size+1:=B6 ..
 show _/\_
 rw[a]
 have c:IsEnum ((s.heap.push o).push {cls:=.type "enumerate",data:=.fields #[.none,.bool false,.ref s.heap.objs.size,rawInt 0,.none,.none]}) (s.heap.objs.size+1) s.heap.objs.size 0 .none:=by
  have q:=A4 (s.heap.push o) (o:={cls:=.type "enumerate",data:=.fields #[.none,.bool false,.ref s.heap.objs.size,rawInt 0,.none,.none]}) rfl
  rw[a] at q;exact q
 exact ⟨⟨_,c,rfl⟩,h _ c (AE _ (A4 _ d)) (by rw[B6,a]) fun b o y=>AE _ (AE _ y)⟩
end Zp
namespace L2
open PySem.Spec PyProof.Rows
def Itn(C:Col):It:=
 ⟨fun i H=>∃ xs,C H xs/\i < xs.length,fun i H x H'=>∃ p v,H p=none/\x=.ref p/\H'=upd H p (.tup [.int i,v])/\∀ xs,C H xs->xs[i]? = some v,fun i H=>∃ xs,C H xs/\i=xs.length⟩
def aJZ{P:P9}{w:W9}{K:Frag}{es:List E3}{k1}{O:Pos}{C:Col}{e it:Az}{tn:Nat->H9->Prop}(c:ColOk P w K C it tn)(y:e≠it) :
  Turn P w K (.Tuple es k1 O) (Itn C) [e,it] e (fun i h=>(∃ old,IsEnum h e it i old)/\tn i h) where
 mem:=by simp
 obj:=fun i h st b d=>by
  obtain ⟨⟨old,s1⟩,t⟩:=st
  rcases AT.mp d with z|z
  .subst z
   exact ⟨_,s1,fun v z=>by have z':Data.fields _=Data.cell v:=z;cases z'⟩
  .obtain rfl:b=it:=by simpa using z
   exact c.obj i h t
 keep:=fun i h h' st k=>by
  obtain ⟨⟨old,s1⟩,t⟩:=st
  exact ⟨⟨old,k e (by simp) _ s1⟩,c.keep i h h' t fun o q=>k it (by simp) o q⟩
 item:=by
  intro X L J G hc i a5 s σ H E I p st V
  obtain ⟨⟨old,s1⟩,t⟩:=st
  obtain ⟨xs,R,l⟩:=V
  have F:X.A.in1.handled=none:=I.ok.hd hc
  obtain ⟨fp,Pv,S,D,a1,a2,a3,a4⟩:=c.draw X L J G i a5 s σ H xs X.A.in1 I (p it (by simp)) t R F
  have one:=fun zs (h:C H zs)=>c.one X L J G a5 s σ H zs xs I h R
  subst L J G
  obtain ⟨o2,ac,_⟩:=c.obj _ _ t
  refine wpAny_pyNext_enum_itemD D s1 a1 l y (a4 e (p e (by simp)) y) fun u h' tk pu so si st ad kp=>?_
  obtain ⟨x,Y,ru⟩:=a3 i u pu
  refine ⟨_,rfl,wpAny_letOwnedTupleGo_enum so fun h2 se sb=>?_⟩
  have Z:s.heap.objs.size≠e:=DB (AV s1)
  have aa:h2.get? s.heap.objs.size=some {cls:=.type "tuple",data:=.seq #[.int i tk,u]}:=(sb.2 _ Z).trans st
  have T:H s.heap.objs.size=none:=I.hok.fresh (AU _)
  have f:∀ b o,b∉[e,it]->s.heap.get? b=some o->h2.get? b=some o:=fun b o d q=>by
   simp only[AT,CC,D0,G2] at d
   exact (sb.2 b d.1).trans (kp b o d.1 d.2 q)
  have M:∀ b g,H b=some g->b∉[e,it]:=fun b g q j=>by rw[(p b j).1] at q;cases q
  have N:HOk X.prog X.w H h2:=fun b g q=>by
   refine (I.hok b g q).stay (fun c' v' a q'=>f c' v' ?_ q') (fun _ q=>q) (fun _ _ q=>q) fun _ _ q=>q
   rcases a with j|j
   .rw[j];exact M b g q
   .exact M c' _ j
  have Q:HOk X.prog X.w (upd H s.heap.objs.size (.tup [.int i,x])) h2:=HOk.track N T ⟨by show 2<=sizeLine;decide,[.int i tk,u],.cons ⟨_,rfl⟩ (.cons ru .nil),⟨_,aa,rfl,_,rfl⟩⟩
  have B:∀ b g,H b=some g->b≠s.heap.objs.size:=fun b g q=>bT q T
  have I2:Inv X a5 σ (upd H s.heap.objs.size (.tup [.int i,x])) {s with heap:=h2,gens:=s.gens,drawn:=s.drawn,toks:=tk+1}:=by
   refine I.step (ch:=[e,it]) (fun b d=>?_) (fun b o _ _ a q _=>f b o a q) (fun b o _ _ a q _=>⟨o.slots,f b o a q⟩)
    (fun b o _ q n=>by rw[aU (BP (AV q))];exact n) (fun b o a q=>⟨o,f b o a q⟩) (fun b ys q=>by rw[aU (B b _ q)];exact q) (fun b o g q=>by rw[aU (B b _ q)];exact q)
    (fun b ps q=>by rw[aU (B b _ q)];exact q) (fun m hm=>?_) Q I.bare
   .obtain ⟨e0,e1,e2,e3,e4,e5⟩:=p b d
    exact ⟨e3,e1,e4,e5⟩
   .obtain ⟨o,U,ep,ho,r⟩:=hm
    exact ⟨o,U,ep,f _ o (fun j=>(p _ j).2.1 rfl) ho,r⟩
  refine ⟨.ref s.heap.objs.size,_,I2,rfl,⟨_,x,T,rfl,rfl,fun zs W=>by rw[one zs W];exact Y⟩,⟨⟨_,by simpa using se⟩,c.keep _ _ _ (a2 _ _ si) fun o q=>(sb.2 it y.symm).trans q⟩,fun b d=>?_⟩
  rw[aU]
  .exact (p b d).1
  .intro j
   have l:b < s.heap.objs.size:=by
    simp only[AT,CC,D0] at d
    rcases d with rfl|rfl
    · exact AV s1
    · exact AV ac
   rw[j] at l
   exact absurd l (BW _)
 done:=by
  intro X L J G hc i a5 s σ H E I p st V
  obtain ⟨⟨old,s1⟩,t⟩:=st
  obtain ⟨xs,R,rfl⟩:=V
  have F:X.A.in1.handled=none:=I.ok.hd hc
  obtain ⟨fp,Pv,S,D,a1,a2,a3,a4⟩:=c.draw X L J G _ a5 s σ H xs X.A.in1 I (p it (by simp)) t R F
  subst L J G
  obtain ⟨g0,g1,g2,g3,g4,g5⟩:=p it (by simp)
  exact wpAny_pyNext_enum_endD D s1 a1 fun h' eb=>⟨rfl,I.turned (t':=s.toks) (fun b o d q=>eb b o d q) g0 g1 g3 g4 g5⟩
 self:=fun _ _ _ _ _ st h=>wpAny_pyIter_enum st.1.choose_spec h
def aNP(K:Frag)(ta:TA):TI:=fun σ H R=>ta σ H fun vs H1=>∃ x C,vs=[x]/\zW K H1 x C/\R (Itn C) H1
def aF5{X:Cx}{es:List E3}{k1}{d:Pos}{a:E3}{ta:TA}{p pos:Pos}(m:Gl X "enumerate")(B:X.mg "enumerate"=none)(t:PA X [a] ta)(r:starEach [a] X.env=[(false,eval a X.env)]:=by rfl) :
  PI X (.Tuple es k1 d) (.Call (.Name "enumerate" p) [a] [] pos) (aNP X.K ta):=by
 intro a5 s σ H R I h
 refine Call_ (nI I m B PyProof.Rows.boot_enumerate (CZ (thn (t pos a5 s σ H _ I h) fun us s1 f=>?_) r rfl))
 obtain ⟨vs,H1,c,r1,l⟩:=f
 obtain ⟨x,C,rfl,i,q⟩:=l
 obtain ⟨u,rfl,E⟩:=oM r1
 obtain ⟨G,F,y,j,v,D⟩:=wV c E i
 refine Zp.aMC (y _ fun _ _ e=>e) j fun h' g A n k=>?_
 have w:Inv X a5 σ H1 {s1 with heap:=h'}:=c.kept (t':=s1.toks) k
 refine wpAny_pyIter_enum g ?_
 refine ⟨s1.heap.objs.size+1,[s1.heap.objs.size+1,s1.heap.objs.size],_,_,H1,rfl,w,aJZ (v _) (DB (GG _)),⟨⟨_,g⟩,D _ _ A⟩,fun b o=>?_,q⟩
 rcases AT.mp o with z|z
 .subst z
  exact c.fpOk (Nat.le_succ _) (c.hok.fresh (Nat.le_succ _))
 .obtain rfl:b=s1.heap.objs.size:=by simpa using z
  exact c.fpOk (AU _) (c.hok.fresh (AU _))
end L2
namespace Fl
open L2 PyProof.Rows
def t8(p:Dz×Nat):Dz:=.tuple [.int (p.2:Int),p.1]
def sP(x:Dz):R (List Dz):=(a9 x).bind fun xs=>.ok (xs.zipIdx.map t8)
def aPJ{K:Frag}{F B:Hp}{C:Col}{us:List V}{xs:List Dz}(hz:xs.length<=16777216)(h1:∀ H1,aR F H1->aR B H1->C H1 us)(d1:DatVs K F us xs):Yld K (Itn C) F B (xs.zipIdx.map t8) where
 len:=by rw[fD,AB,EE];exact hz
 go:=fun i g H1 b a c hi=>by
  rw[AB,EE] at hi
  have d:aR F H1:=fun x o z=>a x o (b x o z)
  exact ⟨us,h1 H1 d c,by rw[d1.length];exact hi⟩
 yld:=fun i g H1 v H2 x b a c y e=>by
  obtain ⟨p,u,f,rfl,rfl,j⟩:=y
  have d:aR F H1:=fun x o z=>a x o (b x o z)
  obtain ⟨dx,e1,r1⟩:=d1.get (j us (h1 H1 d c))
  rw[AC,FF,e1] at e
  simp only[DS,G8] at e
  cases e
  have h:=aR.upd (o:=.tup [.int i,u]) (cL a f)
  exact ⟨_,Ext.new a f,.tup (SqT.of bN) (.cons (.int _) (.cons ((r1.same b).same h) .nil))⟩
 stop:=fun g H1 b a c=>by
  have d:aR F H1:=fun x o z=>a x o (b x o z)
  refine ⟨us,h1 H1 d c,?_⟩
  rw[AB,EE,d1.length]
section
variable{X:Cx}{c:Ct}{E:XK}{tg e:E3}
def aF6{f:Sg->R Dz}(l:X.K=c.K)(h:PI X tg e (aNP X.K (gL (tV (dC c) c E f) kC))):PI0 X c E tg e (e1 sP f):=PI.imp h fun σ H Q a=>by
 obtain ⟨ρ,F,ab,k⟩:=a
 refine ⟨ρ,F,ab,(Rk.bind k).imp fun x _ q v d H' s r=>?_⟩
 unfold sP at q
 cases e1:a9 x with
 | bad=>rw[e1] at q;exact q.elim
 | ex e=>exact absurd e1 t7
 | ok xs=>
  rw[e1] at q
  obtain ⟨b,us,j,i,g⟩:=aMA s.fh r e1
  rw[l]
  exact ⟨v,b,rfl,j,Rk.ok q _ d H' s (aPJ (yE e1) (fun H1 z _=>i H1 z) g)⟩
end
def fzM(i:Nat)(ρ:Sg):Sg:=match ρ[i]? with
 | some (some (.m a6))=>ρ.set i (some (.f a6))
 | _=>ρ
def aVZ(i:Nat)(f:Sg->R Fw):Sg->R Fw:=fun ρ=>f (fzM i ρ)
def aV0(neg:Bool)(i:Nat)(f:Sg->R Dz):Sg->R Dz:=fun ρ=>(f ρ).bind fun k=>match ρ[i]? with
 | some (some (.f a6))=>if cK k (a6.map (·.1))=true then .ok (.bool (if neg=true then !cQ a6 k else cQ a6 k)) else .bad
 | _=>.bad
def aUO(i:Nat)(f:Sg->R Dz):Sg->R Dz:=fun ρ=>match ρ[i]? with
 | some (some (.f a6))=>(f ρ).bind fun k=>if cK k (a6.map (·.1))=true then (match eO a6 k with
  | some v=>.ok v
  | none=>.bad) else .bad
 | _=>.bad
end Fl
namespace Zp
def Raw(h:H9)(d:Az)(ar:Array DictEntry)(ep:Nat):Prop:=∃ o,h.get? d=some o/\o.ExactDict/\o.data=.dict ar ep
end Zp
namespace Fl
open L2 PyProof.Rows
def aPK{X:Cx}{a5:List (Az×Obj)}{σ:L2.St}{H:Hp}{s:S9}{d:Az}{es:List Ent}{ep:Nat}(I:Inv X a5 σ H s)(h:H d=some (eM X.w d es ep)):(d == sysModules)=false/\∃ ar,Zp.Raw s.heap d ar ep/\Paired (sA X.w) es ar.toList:=by
 obtain ⟨⟨a,o,ar,h1,h2,b,c⟩,_,_⟩:=(show cX X.prog X.w H s.heap d (eM X.w d es ep) from I.hok d _ h)
 exact ⟨a,ar,⟨o,h1,h2,b⟩,c⟩
section
variable{X:Cx}{c:Ct}{E:XK}{tg e:E3}
def aUP(i:Nat):Sg->R (List Dz):=fun ρ=>match ρ[i]? with
 | some (some (.f a6))=>if a6.length<=16777216 then .ok (a6.map (·.1)) else .bad
 | _=>.bad
def vH(i:Nat):Sg->R Dz:=fun ρ=>match ρ[i]? with
 | some (some (.m a6))=>if a6.length<=16777216 then .ok (.int (a6.length:Int)) else .bad
 | some (some (.f a6))=>if a6.length<=16777216 then .ok (.int (a6.length:Int)) else .bad
 | _=>.bad
end
end Fl
namespace Zp
structure Jz(P1 P2:Nat->V9->Prop)(S1 S2:Nat->Heap->Prop)(s0:Heap)(z TI TO i1 i2 S:Az)(n:Nat)(a7:Array V9)(h:Heap):Prop where
 size:a7.size<=n
 inc:∀ (j k p q:Nat),j < k->a7[j]? = some (.ref p)->a7[k]? = some (.ref q)->p < q
 top:∀ (j p:Nat),a7[j]? = some (.ref p)->p < h.objs.size
 told:∀ (j:Nat) v,a7[j]? = some v->∃ p x y,v=.ref p/\S < p/\IsPair h p x y/\P1 j x/\P2 j y
 s1:S1 a7.size h
 s2:S2 a7.size h
 ti:IsPair h TI (.ref i1) (.ref i2)
 keep:∀ c o,c≠z->c≠TO->c≠i1->c≠i2->c≠S->s0.get? c=some o->h.get? c=some o
 big:S < h.objs.size
 st:(a7.size=0/\IsZip h z TI TO .none/\∃ a b,IsPair h TO a b)\/(0 < a7.size/\∃ (T:Az) (bb:Bool) (o:Obj),pL h z TI TO (rawInt T) (.bool bb)/\h.get? T=some o/\S < T)
end Zp
namespace L2
open PySem.Spec PyProof.Rows
structure LZ(H1 H2:Hp)(xs ys:List V)(l:Az)(ps:List Az):Prop where
 same:∀ b o,H1 b=some o->H2 b=some o
 new:H1 l=none
 lst:H2 l=some (.lst (ps.map .ref))
 len:ps.length=min xs.length ys.length
 tup:∀ (j:Nat) p,ps[j]? = some p->H1 p=none/\∃ u v,xs[j]? = some u/\ys[j]? = some v/\H2 p=some (.tup [u,v])
end L2
namespace HT
open PySem.Spec PyProof.Rows L2
end HT
namespace Fl
open L2 PyProof.Rows
end Fl
namespace L2
open PySem.Spec PyProof.Rows
end L2
namespace Zp
open PySem.Spec PyProof.Rows
section
variable{prog:P9}{w:W9}{A:U9}{E:V9->S9->Prop}{s:S9}{d:Az}{ar:Array DictEntry}{ep:Nat}
def aBR(c:(d == sysModules)=false) :
  MeetsIn prog w (Builtin.«dict.__len__» ⟨[.ref d],[]⟩) (fun _ R s=>∃ ar ep,Raw s.heap d ar ep/\R (.ok (.ret (.int ar.size s.toks))) {s with toks:=s.toks+1}):=
 .of_wp fun A R s b=>by
  obtain ⟨ar,ep,e,h⟩:=b
  obtain ⟨o,f,g,a⟩:=e
  show wpAny _ _ (dictSize d >>= _) _ _ s
  unfold dictSize
  refine AA (AA (wpAny_dictEntries f a (AH ?_)))
  show wpAny _ _ (Builtin.Dict.pendingCount d >>= _) _ _ s
  refine AA (wpAny_pendingCount_other c ?_)
  refine wpAny_ret_mkInt ?_
  rw[Nat.add_zero];exact h
def aPL{Q:V9->S9->Prop}(f:(d == sysModules)=false)(e:Raw s.heap d ar ep)(b:(ar.size:Int) < 2 ^ 63)
  (h:∀ t t',Q (.int ar.size t) {s with toks:=t'}):wpAny (model prog w) A (call (.builtin "len") [.ref d]) Q E s:=by
 have a:s.TypeIs (.ref d) "dict":=by
  obtain ⟨o,i,g,c⟩:=id e
  exact ⟨o,i,g.1⟩
 refine Calls.call_function_entry kind_len plain_len entry_len (args_len1 _) ?_
 unfold Builtin.«len»
 refine AA (m:=oneArg "len" _) (AH ?_)
 refine AA (m:=callSpecial? (.ref d) (Str.ofString "__len__")) (CU (name:=Str.ofString "__len__") a F.slot_dict_len
  (call_meetsIn F.slot_dict_len a F.entry_dict_len (F.args_dict_len_1 _) (aBR f) ⟨ar,ep,e,?_⟩))
 show wpAny _ _ _ _ _ {s with toks:=s.toks+1}
 refine AA (CA (AH ?_))
 refine AA (G0 ?_)
 show wpAny _ _ (if ((ar.size:Nat):Int) < 0 then _ else _) _ _ _
 rw[AK (by omega)]
 show wpAny _ _ (if ((ar.size:Nat):Int)>=2 ^ 63 then _ else _) _ _ _
 rw[AK (by omega)]
 exact AA (wpAny_mkInt (AH ⟨_,rfl,h _ _⟩))
end
end Zp
namespace Fl
open L2 PyProof.Rows
section
variable{X:Cx}{c:Ct}{E:XK}{e:E3}
def aJ0:lG X (.builtin "len") (fun xs H Q=>∃ d es ep,xs=[.ref d]/\H d=some (eM X.w d es ep)/\es.length<=16777216/\Q (.int (es.length:Int)) H):=by
 intro a5 s σ H xs us Q I r h
 obtain ⟨d,es,ep,rfl,e,j,q⟩:=h
 obtain ⟨u,rfl,c⟩:=oM r
 cases (show u=Value.ref d from c)
 obtain ⟨b,ar,g,f⟩:=aPK I e
 have a:ar.size=es.length:=by rw[G5 f];simp
 refine Zp.aPL b g (by rw[a];omega) fun t i=>?_
 rw[a]
 exact ⟨.int (es.length:Int),H,I.tok _,⟨t,rfl⟩,q⟩
def aPM{i:Nat}(n:X.w=c.g.w)(l:X.w=c.w)(h:PE X e (tCB (fun xs H Q=>∃ d es ep,xs=[.ref d]/\H d=some (eM X.w d es ep)/\es.length<=16777216/\Q (.int (es.length:Int)) H) (gL (l8 i) kC))):PD X c E e (vH i):=PE.imp h fun σ H Q ⟨ρ,F,ab,k⟩=>by
 unfold vH at k
 split at k
 .rename_i a hi
  split at k
  .rename_i m
   obtain ⟨v,f,p,es,rfl,⟨ep,h2⟩,o,q,j⟩:=ab.slot i _ hi
   have b:es.length=a.length:=by simpa using congrArg List.length j.k1
   refine ⟨_,f,p,es,ep,rfl,by rw[l];exact h2,by omega,?_⟩
   rw[b]
   exact Rk.ok k _ F H (Ext.refl ab.fh) (.int _)
  .exact k.elim
 .rename_i a hi
  split at k
  .rename_i m
   obtain ⟨v,f,p,es,rfl,⟨ep,h2⟩,j⟩:=ab.slot i _ hi
   have b:es.length=a.length:=by simpa using congrArg List.length j.k1
   refine ⟨_,f,p,es,ep,rfl,by rw[n];exact ab.fh _ _ h2,by omega,?_⟩
   rw[b]
   exact Rk.ok k _ F H (Ext.refl ab.fh) (.int _)
  .exact k.elim
 .exact k.elim
end
end Fl
namespace Mc
open L2 PyProof.Rows Fl
def sQ:Sg->R Fw:=(bM (vD (e1 dLen (e2 dIx (e2 dIx (rV 0) (eC (.int 0))) (eC (.int 1))))))
def kU:List A->R A:=fnF 1 sQ
def sR:Sg->R Fw:=(bM (vD (eL (d0 [none,some 1] (e1 a9 (rV 0)) (stN 0) fH (e2 dIx (e2 dIx (rV 0) (eC (.int 1))) (rV 1))))))
def kW:List A->R A:=fnF 2 sR
def t9:Sg->R Fw:=(aJ (fM 3 (fG (aB (eV 0) aM)))
 (aJ (yB 4 (yA (eV 0) (eC (.int 0)) aC7))
 (aJ (fM 5 (fG aM))
 (aJ (bV (lN (e1 asB (e2 dLt (e1 dLen (rV 5)) (e1 dLen (rV 3)))) (j4 (e1 asB (yC 12 2 (aB (rV 3) (aB (e1 dLen (rV 5)) aM)))))) (aJ (fM 6 (fG aM))
 (aJ (lA (e1 a9 (aDB 12 1 (aB (e2 dIx (rV 3) (e1 dLen (rV 5))) aM))) (stN 7) (aJ (sIf (e1 asB (qO true 4 (eV 7))) (aJ (oO 4 (eV 7) (e1 dLen (rV 3)))
 (iB 3 (eV 7))) sNx)
 (iB 6 (nG 4 (eV 7)))))
 (iB 5 (e1 dTup (rV 6))))))
 (sFz 5 (sFz 3 (bM (vD (dP (aB (eV 3) (aB (eV 5) aM)))))))))))
def iO:List A->R A:=fnF 8 t9
def qB:Sg->R Fw:=(bM (vD (e1 (gZ "str") (rV 0))))
def g9:List A->R A:=fnF 1 qB
def mH:Sg->R Fw:=(aJ (bU 1 (vD (e1 dTup (eL (d0 [none] (e1 a9 (rV 0)) (stN 0) fH (e2 dIx (rV 0) (eC (.int 0))))))))
 (bM (vD (dP (aB (e2 dIx (rV 1) (eC (.int 0))) (aB (eV 1) aM))))))
def iP:List A->R A:=fnF 2 mH
def oT:Sg->R Bool:=(j4 (e1 asB (eA (aZ 1 g9 (aB (vV 2) aM)))))
def oB:Sg->R Fw:=(aJ (sIf (e1 asB (qO false 3 (eV 2))) (bM (vD (eC (.str "ever")))) sNx)
 (aJ (oO 3 (eV 2) (eC (.bool true)))
 (aJ (bU 4 (vD (e2 dIx (rV 1) (rV 2))))
 (aJ (sIf (e1 asB (e2 dEq (e2 dIx (rV 4) (eC (.int 1))) (eC (.int 1)))) (bM (vD (e2 dIx (rV 4) (eC (.int 0))))) sNx)
 (bU 2 (vD (e2 dIx (rV 0) (e2 dIx (rV 4) (eC (.int 0))))))))))
def uA:Sg->R Fw:=aJ (qA 3) (aJ (bV oT oB) (bM (vV 2)))
def kG:List A->R A:=fnF 5 uA
def wX:Sg->R Fw:=(aJ (bU 2 (aZ 3 kG (aB (vD (e2 dIx (rV 0) (eC (.int 1)))) (aB (vV 1) (aB (vD (e2 dIx (rV 0) (eC (.int 0)))) aM)))))
 (aJ (bU 3 (vD (e1 dTup (eL (d0 [none,some 0,some 1] (gM (e1 dLen (rV 1))) (stN 0) fH (eA (aZ 3 kG (aB (vD (e2 dIx (rV 1) (eC (.int 1)))) (aB (vV 2) (aB (vV 0) aM))))))))))
 (bM (vD (dP (aB (eV 2) (aB (eV 3) aM)))))))
def jL:List A->R A:=fnF 4 wX
def wT:Sg->R Bool:=(j4 (e1 asB (eA (aZ 1 g9 (aB (vV 2) aM)))))
def wB:Sg->R Fw:=(aJ (sIf (e1 asB (qO false 3 (eV 2))) (bM (vD (eC (.str "ever")))) sNx)
 (aJ (oO 3 (eV 2) (eC (.bool true)))
 (aJ (bU 4 (vD (e2 dIx (e2 dIx (rV 0) (rV 2)) (eC (.int 2)))))
 (bU 2 (vD (eIf (e1 asB (eA (aZ 1 g9 (aB (vV 4) aM)))) (eV 4) (e2 dIx (e2 dIx (rV 1) (eC (.int 1))) (rV 4))))))))
def n9:Sg->R Fw:=aJ (bU 2 (vD (e2 dIx (rV 1) (eC (.int 0))))) (aJ (qA 3) (aJ (bV wT wB) (bM (vV 2))))
def fP:List A->R A:=fnF 5 n9
def eW:Sg->R Fw:=(bM (vD (eL (d0 [none,some 0] (e1 a9 (rV 1)) (stN 0) fH (eA (aZ 2 jL (aB (vV 1) (aB (vV 0) aM))))))))
def gN:Sg->R Fw:=(bM (vD (e2 dGt (e1 dLen (rV 0)) (eC (.int 200)))))
def qD:Sg->R Fw:=(aJ (fM 1 (d0 [none,some 0] (gM (eA (aZ 1 kU (aB (vV 0) aM)))) (stN 0) fH (eA (aZ 2 kW (aB (vV 1) (aB (vV 0) aM))))))
 (aJ (vF 2 "one_way.<locals>.after")
 (aJ (sFz 1 (bU 3 (pK [1] 3 iO (aB (aZ 1 iP (aB (vV 0) aM)) (aB (sO "one_way.<locals>.after" [1] 4 1 (jA 2 eW) 2) (aB (zU [] 1 2 (jA 2 gN)) aM))))))
 (aJ (bU 4 (vD (e2 dIx (rV 3) (eC (.int 0)))))
 (aJ (sIf (e1 asB (e2 dGt (e1 dLen (rV 4)) (eC (.int 200)))) (vC "TooMany" (eC (.int 200))) sNx)
 (bM (vD (dP (aB (e1 dTup (e2 dIx (rV 3) (eC (.int 1)))) (aB (e1 dTup (eL (d0 [none,some 0] (e1 a9 (rV 4)) (stN 0) fH (eA (aZ 2 fP (aB (vV 1) (aB (vV 0) aM))))))) aM))))))))))
def jG:List A->R A:=fnF 5 qD
def zX:Sg->R Fw:=(bM (vD (eC (.bool false))))
def lY:List A->R A:=fnF 2 zX
def wY:Sg->R Fw:=(aJ (qA 1)
 (aJ (lA (e1 sP (eV 0)) (stT [(stN 2),(stN 3)]) (oP 1 (eV 3) (eV 2)))
 (bM (vD (eL (d0 [none,some 1] (e1 a9 (rV 0)) (stN 0) fH (nG 1 (eV 0))))))))
def jM:List A->R A:=fnF 4 wY
def kX:Sg->R Fw:=(bM (vD (e1 dTup (eL (d0 [none,some 0] (e1 a9 (rV 1)) (stN 0) fH (e2 dIx (rV 1) (rV 0)))))))
def dN:List A->R A:=fnF 2 kX
def zY:Sg->R Fw:=(bM (aZ 1 jM (aB (vD (eL (d0 [none,none,some 1] (e2 aDG (rV 1) (rV 0)) (stT [(stN 0),(stN 1)]) fH (dP (aB (eV 0) (aB (eA (aZ 2 dN (aB (vV 2) (aB (vV 1) aM)))) aM)))))) aM)))
def o7:List A->R A:=fnF 2 zY
def arT:Sg->R Bool:=(e1 asB (e2 dNe (rV 2) (rV 1)))
def arB:Sg->R Fw:=(aJ (bU 1 (vV 2)) (bU 2 (aZ 2 o7 (aB (vD (e2 dIx (rV 0) (eC (.int 0)))) (aB (vV 1) aM)))))
def oA:Sg->R Fw:=(aJ (bU 1 (aZ 1 jM (aB (vD (e2 dIx (rV 0) (eC (.int 1)))) aM)))
 (aJ (bU 2 (aZ 2 o7 (aB (vD (e2 dIx (rV 0) (eC (.int 0)))) (aB (vV 1) aM)))) (aJ (bV arT arB) (bM (vV 1)))))
def fQ:List A->R A:=fnF 3 oA
def fY:Sg->R Fw:=(bM (aZ 2 dN (aB (vV 1) (aB (vD (e2 dIx (e2 dIx (rV 2) (eC (.int 0))) (rV 0))) aM))))
def zZ:Sg->R Fw:=(aJ (bU 1 (aZ 1 fQ (aB (vV 0) aM)))
 (aJ (vF 2 "least.<locals>.after")
 (aJ (bU 3 (pK [1,0] 3 iO (aB (vD (e2 dIx (rV 1) (eC (.int 0)))) (aB (sO "least.<locals>.after" [1,0] 2 1 (jA 3 fY) 2) (aB (aHM 1 2 lY) aM)))))
 (bM (vD (dP (aB (e1 dTup (e2 dIx (rV 3) (eC (.int 1)))) (aB (e1 dTup (eL (d0 [none,some 0] (e1 a9 (e2 dIx (rV 3) (eC (.int 0)))) (stN 0) fH (e2 dIx (e2 dIx (rV 1) (eC (.int 1))) (rV 0))))) aM))))))))
def o8:List A->R A:=fnF 4 zZ
def mI:Sg->R Fw:=(bM (vD (eIf (e1 asB (e2 dEq (rV 0) (eC (.str "ever")))) (eC (.str "out")) (eV 0))))
def gO:List A->R A:=fnF 1 mI
def mU:Sg->R Fw:=(aJ (bU 2 (vD (eIf (e1 asB (e2 dEq (rV 1) (eC (.int 0)))) (eC (.int 0)) (eC (.str "out")))))
 (bM (vD (dP (aB (eV 2) (aB (e1 dTup (eL (d0 [none] (e1 a9 (e2 dIx (e2 dIx (rV 0) (eC (.int 0))) (rV 1))) (stN 0) fH (dP (aB (eV 0) (aB (eC (.int 1)) aM)))))) (aB (e2 dIx (e2 dIx (rV 0) (eC (.int 1))) (rV 1)) aM)))))))
def hZ:List A->R A:=fnF 3 mU
def sS:Sg->R Fw:=(aJ (bU 1 (aZ 1 jG (aB (vV 0) aM)))
 (aJ (bU 2 (vD (e1 dTup (eL (d0 [none] (e1 a9 (e2 dIx (rV 1) (eC (.int 1)))) (stN 0) fH (eA (aZ 1 gO (aB (vV 0) aM))))))))
 (aJ (bU 3 (aZ 1 o8 (aB (vD (dP (aB (e2 dIx (rV 1) (eC (.int 0))) (aB (eV 2) aM)))) aM)))
 (aJ (bU 4 (vD (e1 dLen (e2 dIx (rV 3) (eC (.int 0))))))
 (aJ (sIf (e1 asB (e2 dGt (rV 4) (eC (.int 60)))) (vC "TooMany" (eC (.int 60))) sNx)
 (bM (vD (e1 dTup (eL (d0 [none,some 3] (gM (rV 4)) (stN 0) fH (eA (aZ 2 hZ (aB (vV 1) (aB (vV 0) aM))))))))))))))
def iQ:List A->R A:=fnF 5 sS
end Mc
namespace Mc
open L2 PyProof.Rows
def rC{rs:List Rw}{sg:Nat}{r:Rw}{k:Nat}(M:Mach rs sg)(b:r∈rs)(d:k < sg):r.c[k]? = some (r.c.getD k (0,0))/\pE rs.length (r.c.getD k (0,0)):=by
 have h:=M.row r b
 have a:k < r.c.length:=by rw[h.2];exact d
 have e:r.c[k]? = some (r.c.getD k (0,0)):=by rw[AG,AD a];rfl
 exact ⟨e,h.1.2.2 _ (AM e)⟩
def bA.take{sg:Nat}{z:List Nat}(S:bA sg z)(i:Nat):bA sg (z.take i):=⟨by rw[BO];have:=S.1;omega,fun c a=>S.2 c (List.mem_of_mem_take a)⟩
def aNQ(rs:List Rw)(z:List Nat)(s:Int×Int):Prop:=1<=s.1/\s.1<=(z.length:Int)/\0<=s.2/\s.2 < (rs.length:Int)
def aNQ.valid{rs:List Rw}{z:List Nat}{s:Int×Int}(h:aNQ rs z s):j5 rs z s:=⟨by have:=h.1;omega,by have:=h.2.1;omega,h.2.2⟩
theorem yF(l:List Nat)(a:Nat):∀ n:Nat,a+n<=l.length->((List.range n).map fun k=>a+k).filterMap (fun i=>l[i]?)=(l.drop a).take n
 | 0,_=>rfl
 | n+1,h=>by
  rw[GT,BJ,List.filterMap_append,yF l a n (by omega),CY,List.getElem?_drop]
  have hl:a+n < l.length:=by omega
  rw[AD hl]
  show _++List.filterMap (fun i=>l[i]?) [a+n]=_
  rw[EA,AD hl];rfl
def aJ1{z:Str}{a b:Nat}(h1:a<=b)(h2:b<=z.cps.toList.length):Txt.slice z (some (a:Int)) (some (b:Int))=⟨((z.cps.toList.drop a).take (b - a)).toArray⟩:=by
 have g:z.length=z.cps.toList.length:=by rw[DG];rfl
 unfold Txt.slice
 rw[StrLaws.strSliceIndices_plain h1 (by rw[g];exact h2)]
 have e:((List.range (b - a)).map fun k=>a+k).filterMap (fun i=>z.cps[i]?)=(z.cps.toList.drop a).take (b - a):=by
  rw[<-yF z.cps.toList a (b - a) (by omega)]
  congr 1
  funext i
  rw[E4]
 rw[e]
 by_cases c:(1 == 1 && (((List.range (b - a)).map fun k=>a+k).length == z.length))=true
 .have j:b - a=z.length:=by
   rw[A3] at c
   simpa using c.2
  have f:a=0:=by omega
  have h:b=z.cps.toList.length:=by omega
  have e2:(z.cps.toList.drop a).take (b - a)=z.cps.toList:=by rw[f,h,List.drop_zero,Nat.sub_zero,C6 (AU _)]
  rw[e2]
  split
  .exact aFE (by simp)
  .rfl
 .split
  .rename_i d
   exact absurd d c
  .rfl
def aHN{z:Str}{i:Nat}(h:i<=z.cps.toList.length):Txt.slice z none (some (i:Int))=⟨(z.cps.toList.take i).toArray⟩:=by
 have e:Txt.slice z none (some (i:Int))=Txt.slice z (some ((0:Nat):Int)) (some (i:Int)):=by unfold Txt.slice;rw[StrLaws.sliceIdx_none_lo];rfl
 rw[e,aJ1 (CM _) h];simp
end Mc
namespace Fl
open L2 PyProof.Rows
@[simp] theorem jN(d:Dz)(ρ:Sg):eC d ρ=.ok d:=id rfl
@[simp] theorem jO{α β:Type}(g:α->R β)(f:Sg->R α)(ρ:Sg):e1 g f ρ=(f ρ).bind g:=id rfl
@[simp] theorem iR{α β γ:Type}(g:α->β->R γ)(f:Sg->R α)(a:Sg->R β)(ρ:Sg):e2 g f a ρ=(f ρ).bind fun x=>(a ρ).bind fun y=>g x y:=id rfl
@[simp] theorem sT(i:Nat)(ρ:Sg):eV i ρ=match ρ[i]? with|some (some (.d x))=>.ok x|_=>.bad:=id rfl
@[simp] theorem gP(i:Nat)(ρ:Sg):rV i ρ=match ρ[i]? with|some (some (.d x))=>.ok x|some (some (.l xs))=>.ok (.list xs)|_=>.bad:=id rfl
@[simp] theorem oQ(i:Nat)(ρ:Sg):vV i ρ=match ρ[i]? with|some (some (.d x))=>.ok (.d x)|some (some (.x e))=>.ok (.x e)|some (some (.g k n f))=>.ok (.g k n f)|some (some (.f a6))=>.ok (.f a6)|_=>.bad:=id rfl
@[simp] theorem lI(f:Sg->R Dz)(ρ:Sg):vD f ρ=(f ρ).bind fun x=>.ok (.d x):=id rfl
@[simp] theorem aDI(x:Dz):getD (.d x)=.ok x:=id rfl
@[simp] theorem aHO(f:Sg->R A)(ρ:Sg):eA f ρ=(f ρ).bind getD:=id rfl
@[simp] theorem aHP(f:Sg->R (List Dz))(ρ:Sg):eL f ρ=(f ρ).bind fun xs=>.ok (.list xs):=id rfl
@[simp] theorem fZ{α:Type}(ρ:Sg):(aM (α:=α)) ρ=.ok []:=id rfl
@[simp] theorem iC{α:Type}(f:Sg->R α)(g:Sg->R (List α))(ρ:Sg):aB f g ρ=(f ρ).bind fun x=>(g ρ).bind fun xs=>.ok (x::xs):=id rfl
@[simp] theorem z0(f:Sg->R (List Dz))(ρ:Sg):dP f ρ=(f ρ).bind fun xs=>if xs.length<=16777216 then .ok (.tuple xs) else .bad:=id rfl
@[simp] theorem mV(f:Sg->R (List Dz))(ρ:Sg):fG f ρ=(f ρ).bind fun xs=>if xs.length<=16777216 then .ok xs else .bad:=id rfl
@[simp] theorem kH(n:Nat)(G:List A->R A)(f:Sg->R (List A))(ρ:Sg):aZ n G f ρ=(f ρ).bind fun as=>if as.length=n then G as else .bad:=id rfl
@[simp] theorem jC(n:Nat)(fb:Sg->R Fw)(b:List A):fnF n fb b=(fb (b.map some++List.replicate (n - b.length) none)).bind fun w=>match w with | .rt (.l _)=>.bad | .rt a=>.ok a | .nx _=>.ok (.d .none)|_=>.bad:=id rfl
@[simp] theorem aDJ(ρ:Sg):sNx ρ=.ok (.nx ρ):=id rfl
@[simp] theorem bJ(f g:Sg->R Fw)(ρ:Sg):aJ f g ρ=(f ρ).bind fun w=>match w with | .nx ρ'=>g ρ'|w=>.ok w:=id rfl
@[simp] theorem aPN(f:Sg->R A)(ρ:Sg):bM f ρ=(f ρ).bind fun a=>.ok (.rt a):=id rfl
@[simp] theorem aV1(ρ:Sg):aUK ρ=.ok (.rt (.d .none)):=id rfl
@[simp] theorem nS(t:Sg->R Bool)(f g:Sg->R Fw)(ρ:Sg):sIf t f g ρ=(t ρ).bind fun b=>if b=true then f ρ else g ρ:=id rfl
@[simp] theorem aWR{α:Type}(t:Sg->R Bool)(f g:Sg->R α)(ρ:Sg):eIf t f g ρ=(t ρ).bind fun b=>if b=true then f ρ else g ρ:=id rfl
@[simp] theorem j3(i:Nat)(f:Sg->R A)(ρ:Sg):bU i f ρ=(f ρ).bind fun a=>.ok (.nx (ρ.set i (some a))):=id rfl
@[simp] theorem lP(i:Nat)(f:Sg->R (List Dz))(ρ:Sg):fM i f ρ=(f ρ).bind fun xs=>.ok (.nx (ρ.set i (some (.l xs)))):=id rfl
@[simp] theorem aV2(f:Sg->R A)(ρ:Sg):aNI f ρ=(f ρ).bind fun _=>.ok (.nx ρ):=id rfl
@[simp] theorem aSU(i:Nat)(f:Sg->R Fw)(ρ:Sg):sFz i f ρ=f (fz i ρ):=id rfl
@[simp] theorem aUQ(i:Nat)(ρ:Sg):fz i ρ=match ρ[i]? with|some (some (.l xs))=>ρ.set i (some (.d (.list xs)))|_=>ρ:=id rfl
@[simp] theorem z7(i:Nat)(f:Sg->R Dz)(ρ:Sg):iB i f ρ=match ρ[i]? with|some (some (.l xs))=>(f ρ).bind fun x=>if xs.length < 16777216 then .ok (.nx (ρ.set i (some (.l (xs++[x]))))) else .bad|_=>.bad:=id rfl
@[simp] theorem aPO(fs:Dz->Sg->O9 Sg)(f:Sg->R Dz)(ρ:Sg):n8 fs f ρ=(f ρ).bind fun x=>(aC3 (fs x ρ)).bind fun ρ'=>.ok (.nx ρ'):=id rfl
@[simp] theorem o9(a:Sg->R (List Dz))(fs:Dz->Sg->O9 Sg)(fb:Sg->R Fw)(ρ:Sg):lA a fs fb ρ=(a ρ).bind fun xs=>mG fs fb xs ρ:=id rfl
@[simp] theorem sU(js:List (O9 Nat))(a:Sg->R (List Dz))(fs:Dz->Sg->O9 Sg)(b:Sg->R Bool)(fe:Sg->R Dz)(ρ:Sg):d0 js a fs b fe ρ=(a ρ).bind fun xs=>compL fs b fe (eJ js ρ) xs:=id rfl
@[simp] theorem aU9(cn:Str)(fs:List Str)(f:Sg->R (List Dz))(ρ:Sg):aR6 cn fs f ρ=(f ρ).bind fun xs=>if xs.length=fs.length then .ex ⟨cn,fs.zip xs⟩ else .bad:=id rfl
@[simp] theorem yG(i:Nat)(x:Dz)(ρ:Sg):stN i x ρ=some (ρ.set i (some (.d x))):=id rfl
@[simp] theorem aJ2(fs:List (Dz->Sg->O9 Sg))(xs:List Dz)(ρ:Sg):stT fs (.tuple xs) ρ=stL fs xs ρ:=id rfl
@[simp] theorem aPP(ρ:Sg):stL [] [] ρ=some ρ:=id rfl
@[simp] theorem aMD(f:Dz->Sg->O9 Sg)(fs:List (Dz->Sg->O9 Sg))(x:Dz)(xs:List Dz)(ρ:Sg):stL (f::fs) (x::xs) ρ=(f x ρ).bind (stL fs xs):=id rfl
@[simp] theorem aF7(ρ:Sg):fH ρ=.ok true:=id rfl
@[simp] theorem pN(b:Bool):asB (.bool b)=.ok b:=id rfl
@[simp] theorem aWB(f:Sg->R Bool)(ρ:Sg):j4 f ρ=(f ρ).bind fun b=>.ok (!b):=id rfl
@[simp] theorem rD(f g:Sg->R Bool)(ρ:Sg):lN f g ρ=(f ρ).bind fun b=>if b=true then g ρ else .ok false:=id rfl
@[simp] theorem aWS(f g:Sg->R Bool)(ρ:Sg):bOr f g ρ=(f ρ).bind fun b=>if b=true then .ok true else g ρ:=id rfl
@[simp] theorem aWC(f:Sg->R Dz)(ρ:Sg):aLQ f ρ=(f ρ).bind fun x=>(asB x).bind fun b=>.ok (.bool (!b)):=id rfl
@[simp] theorem aWD(f g:Sg->R Dz)(ρ:Sg):zL f g ρ=(f ρ).bind fun x=>(asB x).bind fun b=>if b=true then g ρ else .ok (.bool false):=id rfl
@[simp] theorem aWT(f g:Sg->R Dz)(ρ:Sg):eOr f g ρ=(f ρ).bind fun x=>(asB x).bind fun b=>if b=true then .ok (.bool true) else g ρ:=id rfl
@[simp] theorem aWU(g g':Dz->Dz->R Dz)(b fb a:Sg->R Dz)(ρ:Sg):eCh g g' b fb a ρ=(b ρ).bind fun x=>(fb ρ).bind fun y=>(g x y).bind fun z=>(asB z).bind fun k=>if k=true then (a ρ).bind fun w=>g' y w else .ok (.bool false):=id rfl
@[simp] theorem aJ3{α:Type}(g:Dz->O9 Int->O9 Int->R α)(f:Sg->R Dz)(lo hi:Sg->R (O9 Int))(ρ:Sg):eSl g f lo hi ρ=(f ρ).bind fun x=>(lo ρ).bind fun l=>(hi ρ).bind fun h=>g x l h:=id rfl
@[simp] theorem aJ4(ρ:Sg):oNo ρ=.ok none:=id rfl
@[simp] theorem aJ5(f:Sg->R Dz)(ρ:Sg):oSo f ρ=(f ρ).bind fun x=>match x with | .int i=>.ok (some i)|_=>.bad:=id rfl
@[simp] theorem oR(f:Sg->R Dz)(ρ:Sg):gM f ρ=(f ρ).bind fun x=>match x with | .int j=>lE 0 j|_=>.bad:=id rfl
@[simp] theorem aUR(f g:Sg->R Dz)(ρ:Sg):aOY f g ρ=(f ρ).bind fun x=>(g ρ).bind fun y=>match x,y with | .int i,.int j=>lE i j|_,_=>.bad:=id rfl
@[simp] theorem aWE(f:Sg->R Dz)(g:Sg->R (O9 Int))(ρ:Sg):aVW f g ρ=(f ρ).bind fun x=>(g ρ).bind fun o=>if o=some (-1) then aR8 x else .bad:=id rfl
@[simp] theorem aWF(i:Nat)(g:Dz->Dz->R Dz)(f:Sg->R Dz)(ρ:Sg):aVV i g f ρ=(eV i ρ).bind fun x=>(f ρ).bind fun y=>(g x y).bind fun z=>.ok (.nx (ρ.set i (some (.d z)))):=id rfl
@[simp] theorem pO(i:Nat)(ρ:Sg):qA i ρ=.ok (.nx (ρ.set i (some (.m [])))):=id rfl
@[simp] theorem aF8(neg:Bool)(i:Nat)(f:Sg->R Dz)(ρ:Sg):qO neg i f ρ=(f ρ).bind fun k=>match ρ[i]? with|some (some (.m a6))=>if cK k (a6.map (·.1))=true then .ok (.bool (if neg=true then !cQ a6 k else cQ a6 k)) else .bad|some (some (.f a6))=>if cK k (a6.map (·.1))=true then .ok (.bool (if neg=true then !cQ a6 k else cQ a6 k)) else .bad|_=>.bad:=id rfl
@[simp] theorem aDK(i:Nat)(f:Sg->R Dz)(ρ:Sg):nG i f ρ=match ρ[i]? with|some (some (.m a6))=>(f ρ).bind fun k=>if cK k (a6.map (·.1))=true then (match eO a6 k with|some v=>.ok v|none=>.bad) else .bad|some (some (.f a6))=>(f ρ).bind fun k=>if cK k (a6.map (·.1))=true then (match eO a6 k with|some v=>.ok v|none=>.bad) else .bad|_=>.bad:=id rfl
@[simp] theorem aME(i:Nat)(f g:Sg->R Dz)(ρ:Sg):oO i f g ρ=(g ρ).bind fun v=>match ρ[i]? with|some (some (.m a6))=>(f ρ).bind fun k=>if cK k (a6.map (·.1))=true/\a6.length<=16777216 then .ok (.nx (ρ.set i (some (.m (putM a6 k v))))) else .bad|_=>.bad:=id rfl
@[simp] theorem rE(i j:Int):cI (.int i) (.int j)=.ok (.int (i+j)):=id rfl
@[simp] theorem aSV(i j:Int):dSub (.int i) (.int j)=.ok (.int (i - j)):=id rfl
@[simp] theorem aWG(i j:Int):aUJ (.int i) (.int j)=.ok (.int (i+j)):=id rfl
@[simp] theorem aWV(i:Int):dNeg (.int i)=.ok (.int (-i)):=id rfl
@[simp] theorem yH(i j:Int):dLt (.int i) (.int j)=.ok (.bool (decide (i < j))):=id rfl
@[simp] theorem aW8(i j:Int):dLe (.int i) (.int j)=.ok (.bool (decide (i<=j))):=id rfl
@[simp] theorem aW9(i j:Int):dGt (.int i) (.int j)=.ok (.bool (decide (j < i))):=id rfl
@[simp] theorem aXA(i j:Int):dGe (.int i) (.int j)=.ok (.bool (decide (j<=i))):=id rfl
def dQ{i j:Int}(h:0 < j):dMod (.int i) (.int j)=.ok (.int (i % j)):=AL h
def jY{i j:Int}(h:0 < j)(h2:j < 18446744073709551616):dDiv (.int i) (.int j)=.ok (.int (i / j)):=AL ⟨h,h2⟩
def uB{i j:Int}(h : -18446744073709551616 < j)(h2:j < 18446744073709551616):dMul (.int i) (.int j)=.ok (.int (i * j)):=AL (.inr ⟨h,h2⟩)
def yI{i j:Int}(h : -18446744073709551616 < i)(h2:i < 18446744073709551616):dMul (.int i) (.int j)=.ok (.int (i * j)):=AL (.inl ⟨h,h2⟩)
@[simp] theorem jD(xs:List Dz):dLen (.list xs)=.ok (.int xs.length):=id rfl
@[simp] theorem rF(xs:List Dz):dLen (.tuple xs)=.ok (.int xs.length):=id rfl
def aDL{z:Str}(h:z.length<=16777216):dLen (.str z)=.ok (.int z.length):=AL h
@[simp] theorem yJ(xs:List Dz):dTup (.list xs)=.ok (.tuple xs):=id rfl
@[simp] theorem aWW(xs:List Dz):dTup (.tuple xs)=.ok (.tuple xs):=id rfl
@[simp] theorem aWX(xs:List Dz):dLst (.list xs)=.ok xs:=id rfl
@[simp] theorem aWY(xs:List Dz):dLst (.tuple xs)=.ok xs:=id rfl
@[simp] theorem aWZ(i:Int):dInt (.int i)=.ok (.int i):=id rfl
@[simp] theorem aW0(b:Bool):dInt (.bool b)=.ok (.int (if b=true then 1 else 0)):=id rfl
@[simp] theorem aXB(x:Dz):dIs x .none=.ok (.bool (j8 x)):=id rfl
@[simp] theorem aWH(x:Dz):dIsnt x .none=.ok (.bool (!j8 x)):=id rfl
@[simp] theorem aWI:j8 .none=true:=id rfl
@[simp] theorem aWJ(xs:List Dz):j8 (.tuple xs)=false:=id rfl
@[simp] theorem aWK(i:Int):j8 (.int i)=false:=id rfl
@[simp] theorem aWL(i:Str):j8 (.str i)=false:=id rfl
def rG{α:Type}{xs:List α}{i:Int}{v:α}(h0:0<=i)(h:xs[i.toNat]? = some v):atI xs i=some v:=by
 obtain ⟨j,rfl⟩:∃ j:Nat,i=j:=⟨i.toNat,by omega⟩
 exact fR (j:=j) h
def aDM{α:Type}(x:α)(t:List α):atI (x::t) 0=some x:=fR (j:=0) rfl
def aF9{α:Type}(x y:α)(t:List α):atI (x::y::t) 1=some y:=fR (j:=1) rfl
def aPQ{α:Type}(x y z:α)(t:List α):atI (x::y::z::t) 2=some z:=fR (j:=2) rfl
def oS{xs:List Dz}{i:Int}{v:Dz}(h:atI xs i=some v):dIx (.tuple xs) (.int i)=.ok v:=by show (match atI xs i with|some v=>R.ok v|none=>.bad)=_;rw[h]
def lJ{xs:List Dz}{i:Int}{v:Dz}(h:atI xs i=some v):dIx (.list xs) (.int i)=.ok v:=by show (match atI xs i with|some v=>R.ok v|none=>.bad)=_;rw[h]
def aNR{z:Str}{i:Int}{u:Nat}(hz:z.length<=16777216)(h:atI z.cps.toList i=some u):dIx (.str z) (.int i)=.ok (.str ⟨#[u]⟩):=by
 show (if z.length<=sizeLine then match atI z.cps.toList i with|some u=>R.ok (PyData.str ⟨#[u]⟩)|none=>.bad else .bad)=_
 rw[fD,AL hz,h]
@[simp] theorem yK(x:Dz)(t:List Dz):dIx (.tuple (x::t)) (.int 0)=.ok x:=oS (aDM x t)
@[simp] theorem aJ6(x y:Dz)(t:List Dz):dIx (.tuple (x::y::t)) (.int 1)=.ok y:=oS (aF9 x y t)
@[simp] theorem aW1(x y z:Dz)(t:List Dz):dIx (.tuple (x::y::z::t)) (.int 2)=.ok z:=oS (aPQ x y z t)
@[simp] theorem aSW(x:Dz)(t:List Dz):dIx (.list (x::t)) (.int 0)=.ok x:=lJ (aDM x t)
@[simp] theorem aSX(x y:Dz)(t:List Dz):dIx (.list (x::y::t)) (.int 1)=.ok y:=lJ (aF9 x y t)
def eX{xs:List Dz}(h:xs.length<=16777216):a9 (.tuple xs)=.ok xs:=AL h
def iV{xs:List Dz}(h:xs.length<=16777216):a9 (.list xs)=.ok xs:=AL h
def aMF{z:Str}(h:z.cps.toList.length<=16777216):a9 (.str z)=.ok (z.cps.toList.map fun u=>.str ⟨#[u]⟩):=AL h
def aDN{x y:Dz}(hx:SeqAt.shaped x=true)(a:SeqAt.shaped y=true):dEq x y=.ok (.bool (PyData.eqv x y)):=AL ⟨hx,a⟩
def aDO{x y:Dz}(hx:SeqAt.shaped x=true)(a:SeqAt.shaped y=true):dNe x y=.ok (.bool (!PyData.eqv x y)):=AL ⟨hx,a⟩
@[simp] theorem aW2(T:String)(i:Int):gZ T (.int i)=.ok (.bool (jK "int" T)):=id rfl
@[simp] theorem aW3(T:String)(i:Str):gZ T (.str i)=.ok (.bool (jK "str" T)):=id rfl
@[simp] theorem aSY(T:String)(i:List Dz):gZ T (.tuple i)=.ok (.bool (jK "tuple" T)):=id rfl
@[simp] theorem aW4(T:String)(i:List Dz):gZ T (.list i)=.ok (.bool (jK "list" T)):=id rfl
@[simp] theorem aW5(T:String)(i:Bool):gZ T (.bool i)=.ok (.bool (jK "bool" T)):=id rfl
@[simp] theorem aW6(T:String):gZ T .none=.ok (.bool (jK "NoneType" T)):=id rfl
def aUS{xs:List Dz}{lo hi:O9 Int}(h:¬ (HT.sIx xs.length 0 lo=0/\HT.sIx xs.length xs.length hi=xs.length)):dSl (.tuple xs) lo hi=.ok (.tuple (t5 xs lo hi)):=by
 unfold dSl;exact AL h
def aNS{z:Str}{lo hi:O9 Int}(h:z.length<=16777216):dSl (.str z) lo hi=.ok (.str (Txt.slice z lo hi)):=by
 unfold dSl;exact AL h
def aJ7{xs ys:List Dz}(h:xs.isEmpty=false)(h2:xs.length+ys.length<=16777216):cI (.tuple xs) (.tuple ys)=.ok (.tuple (xs++ys)):=by
 unfold cI;exact AL ⟨h,by rw[fD];exact h2⟩
def aJ8{x y:Str}(h:x.length+y.length<=16777216):cI (.str x) (.str y)=.ok (.str (x++y)):=by
 unfold cI;exact AL (by rw[fD];exact h)
theorem cY{α:Type}{fs:Dz->Sg->O9 Sg}{fe:Sg->R Dz}{ρ0:Sg}{d:α->Dz}{g:α->Dz}:∀ {xs:List α},(∀ x∈xs,∃ ρ1,fs (d x) ρ0=some ρ1/\fe ρ1=.ok (g x))->compL fs fH fe ρ0 (xs.map d)=.ok (xs.map g)
 | [],_=>rfl
 | x::t,h=>by
  obtain ⟨ρ1,h1,h2⟩:=h x AS
  rw[AY]
  unfold compL
  rw[h1,cY fun y a=>h y (AJ _ a),p7,R.bind_ok,aF7,R.noEx_ok,R.bind_ok,AL rfl,h2];rfl
def f6{α:Type}{fs:Dz->Sg->O9 Sg}{fb:Sg->R Fw}{d:α->Dz}{xs:List α}{ρ:Sg}(J:Nat->Sg->Prop)(h0:J 0 ρ)(a:∀ (i:Nat) (x:α) (ρ:Sg),xs[i]? = some x->J i ρ->∃ ρ1 ρ2,fs (d x) ρ=some ρ1/\(fb ρ1=.ok (.nx ρ2)\/fb ρ1=.ok (.ct ρ2))/\J (i+1) ρ2) :
  ∃ ρ',mG fs fb (xs.map d) ρ=.ok (.nx ρ')/\J xs.length ρ':=by
 induction xs generalizing ρ J with
 | nil=>exact ⟨ρ,rfl,h0⟩
 | cons x t ih=>
  obtain ⟨ρ1,ρ2,h1,h2,f⟩:=a 0 x ρ rfl h0
  obtain ⟨ρ',e,g⟩:=ih (ρ:=ρ2) (fun i=>J (i+1)) f (fun i y ρ c b=>a (i+1) y ρ (by simpa using c) b)
  refine ⟨ρ',?_,g⟩
  rw[AY]
  unfold mG
  rw[h1,p7,R.bind_ok]
  rcases h2 with h2|h2<;>rw[h2]<;>exact e
def hJ{t:Sg->R Bool}{b:Sg->R Fw}{ρ a:Sg}(h1:t ρ=.ok true)(h2:b ρ=.ok (.nx a)):bV t b ρ=bV t b a:=by
 rw[tZ,h1,R.bind_ok,AL rfl,h2];rfl
def kI{t:Sg->R Bool}{b:Sg->R Fw}{ρ:Sg}{a:A}(h1:t ρ=.ok true)(h2:b ρ=.ok (.rt a)):bV t b ρ=.ok (.rt a):=by
 rw[tZ,h1,R.bind_ok,AL rfl,h2];rfl
def eQ{t:Sg->R Bool}{b:Sg->R Fw}{ρ:Sg}(h1:t ρ=.ok false):bV t b ρ=.ok (.nx ρ):=by
 rw[tZ,h1,R.bind_ok,AK (by decide)]
def been{α:Type}(d:α->Dz)(ps:List α):List (Dz×Dz):=ps.map fun p=>(d p,.bool true)
def uC{α:Type}(d:α->Dz)(ps:List α):(been d ps).map (·.1)=ps.map d:=by unfold been;rw[A6];rfl
def pP{α:Type}{d:α->Dz}(c:∀ a b,d a=d b->a=b){ps:List α}{p:α}:cQ (been d ps) (d p)=true↔p∈ps:=by
 rw[wQ,uC,AN]
 exact ⟨fun ⟨q,h1,h2⟩=>c q p h2▸h1,fun h=>⟨p,h,rfl⟩⟩
def jH{α:Type}{d:α->Dz}(c:∀ a b,d a=d b->a=b){ps:List α}{p:α}(h:p∉ps):cQ (been d ps) (d p)=false:=by
 cases q:cQ (been d ps) (d p) with
 | false=>rfl
 | true=>exact absurd ((pP c).mp q) h
def mX{α:Type}{d:α->Dz}(c:∀ a b,d a=d b->a=b){ps:List α}{p:α}(h:p∉ps):putM (been d ps) (d p) (.bool true)=been d (ps++[p]):=by
 unfold putM
 rw[jH c h,AK (by decide)]
 unfold been
 rw[BJ];rfl
def kJ{α:Type}{d:α->Dz}(b:∀ a,gQ (d a)=true)(ps:List α)(p:α):cK (d p) ((been d ps).map (·.1))=true:=by
 unfold cK
 rw[uC,b,FX,DR,BY]
 refine .inl fun x c=>?_
 obtain ⟨q,_,rfl⟩:=AN.mp c
 exact b q
def kK{α:Type}(d:α->Dz)(ps:List α):(been d ps).length=ps.length:=by unfold been;rw[AB]
def prD(p:Int×Int):Dz:=.tuple [.int p.1,.int p.2]
def lZ(a b:Int×Int)(h:prD a=prD b):a=b:=by
 unfold prD at h
 injection h with h
 injection h with h1 h2
 injection h2 with h2 _
 injection h1 with h1
 injection h2 with h2
 exact Prod.ext h1 h2
def mY(a:Int×Int):gQ (prD a)=true:=rfl
end Fl
namespace Mc
open L2 PyProof.Rows Fl
def aPR{r:Rw}{rs:List Rw}:kU [.d (aV (r::rs))]=.ok (.d (.int r.c.length)):=by
 simp[kU,sQ,aV,cB]
theorem Mach.cons{rs:List Rw}{sg:Nat}(M:Mach rs sg):∃ r t,rs=r::t/\r.c.length=sg:=by
 cases rs with
 | nil=>have:=M.len;simp at this
 | cons r t=>exact ⟨r,t,rfl,(M.row r AS).2⟩
def ck(k:Nat)(r:Rw):Int×Int:=r.c.getD k (0,0)
def aPS{rs:List Rw}{sg k:Nat}(M:Mach rs sg)(f:k < sg):kW [.d (aV rs),.d (.int k)]=.ok (.d (.list (rs.map fun r=>cJ (ck k r)))):=by
 have h:=cY (fs:=stN 0) (fe:=e2 dIx (e2 dIx (rV 0) (eC (.int 1))) (rV 1)) (ρ0:=[none,some (.d (.int k))]) (d:=cB) (g:=fun r=>cJ (ck k r)) (xs:=rs) fun r b=>by
  refine ⟨_,rfl,?_⟩
  have e:dIx (.tuple (r.c.map cJ)) (.int (k:Int))=.ok (cJ (ck k r)):=oS (fR (j:=k) (by rw[AC,(rC M b f).1];rfl))
  simp[cB,e]
 have a:(rs.map cB).length<=16777216:=by have:=M.len2;rw[AB];omega
 simp[kW,sR,aV,eX a,eJ,h]
def hU{n:Nat}(h:n<=16777216):lE 0 (n:Int)=.ok ((List.range n).map fun i:Nat=>.int (i:Int)):=by
 unfold lE
 rw[AL (by omega)]
 unfold pI
 simp
def aJ9(z y:Str):x9 (.str z) (.str y)=match Builtin.Str.occurrences z y 0 z.length 1 with|i::_=>R.ok (PyData.int i)|[]=>.bad:=rfl
def aPT{c:Nat}(h:cF 3 c=true):x9 (.str "abc") (.str ⟨#[c]⟩)=.ok (.int ((c - 97:Nat):Int)):=by
 obtain ⟨r,e⟩:=aIU h
 rw[aJ9,e]
def aMG{n c:Nat}(a:n<=3)(h:cF n c=true):cF 3 c=true:=AX (by have:=BF h;omega)
def oU(i:Int):SeqAt.shaped (.int i)=true:=id rfl
def aKA(i j:Int):PyData.eqv (.int i) (.int j)=decide (i=j):=by
 rw[PyData.eqv.eq_5]
 by_cases h:i=j
 · simp [h]
 · simp [h]
def eB(i j:Int):dEq (.int i) (.int j)=.ok (.bool (decide (i=j))):=by rw[aDN (oU i) (oU j),aKA]
def nH:Sg->R Fw:=(aJ (bU 2 (vD (eC (.int 0))))
 (aJ (sIf (e1 asB (e2 dGt (e1 dLen (rV 0)) (eC (.int 0)))) (bU 2 (vD (e2 dIx (rV 0) (e2 dMod (rV 1) (e1 dLen (rV 0)))))) sNx)
 (aJ (bU 3 (vD (e2 dMod (e2 dMul (e2 cI (e2 cI (e2 dMod (rV 2) (eC (.int 2147483647))) (e2 dMul (eC (.int 7919)) (rV 1))) (eC (.int 1))) (eC (.int 48271))) (eC (.int 2147483647)))))
 (bM (vD (e2 cI (e2 dMul (e2 dDiv (rV 2) (eC (.int 2147483647))) (eC (.int 2147483659))) (e2 dMod (e2 cI (e2 dMul (rV 3) (eC (.int 69621))) (e2 dMul (eC (.int 104729)) (rV 1))) (eC (.int 2147483659)))))))))
def bS:List A->R A:=fnF 4 nH
def oV:Sg->R Fw:=(aJ (sIf (e1 asB (e2 dEq (e2 dMod (rV 0) (eC (.int 3))) (eC (.int 0)))) (bM (vD (e2 dIx (eL (fG (aB (eC (.str "by")) (aB (eC (.str "out")) aM)))) (e2 dMod (e2 dDiv (rV 0) (eC (.int 3))) (eC (.int 2)))))) sNx)
 (bM (vD (e2 dMod (e2 dDiv (rV 0) (eC (.int 3))) (rV 1)))))
def iS:List A->R A:=fnF 2 oV
def lQ:Sg->R Fw:=(aJ (bU 3 (vD (e2 dMod (rV 0) (e2 cI (rV 1) (eC (.int 2))))))
 (aJ (bU 0 (vD (e2 dDiv (rV 0) (e2 cI (rV 1) (eC (.int 2))))))
 (aJ (fM 4 (fG aM))
 (aJ (lA (gM (rV 2)) (stN 5) (aJ (iB 4 (dP (aB (e2 dMod (e2 dDiv (rV 0) (eC (.int 2))) (rV 1)) (aB (e2 dSub (eC (.int 1)) (e2 dMul (e2 dMod (rV 0) (eC (.int 2))) (eC (.int 2)))) aM))))
 (bU 0 (vD (e2 dDiv (rV 0) (e2 dMul (eC (.int 2)) (rV 1)))))))
 (aJ (fM 6 (fG (aB (eV 3) (aB (e2 dMod (rV 0) (e2 cI (rV 1) (eC (.int 2)))) aM))))
 (aJ (fM 6 (d0 [none,some 1] (e1 a9 (rV 6)) (stN 0) fH (eIf (e1 asB (e2 dGe (rV 0) (rV 1))) (e2 dIx (eL (fG (aB (eC (.str "by")) (aB (eC (.str "out")) aM)))) (e2 dSub (rV 0) (rV 1))) (eV 0))))
 (bM (vD (dP (aB (e2 dIx (rV 6) (eC (.int 0))) (aB (e1 dTup (rV 4)) (aB (e2 dIx (rV 6) (eC (.int 1))) aM))))))))))))
def f7:List A->R A:=fnF 7 lQ
def lR:Sg->R Fw:=(aJ (fM 3 (fG aM))
 (aJ (lA (gM (e2 cI (rV 2) (eC (.int 2)))) (stN 4) (aJ (bU 0 (vD (e2 dMod (e2 cI (e2 dMul (rV 0) (eC (.int 48271))) (eC (.int 7919))) (eC (.int 2147483647)))))
 (iB 3 (e2 dDiv (rV 0) (eC (.int 64))))))
 (aJ (bU 5 (vD (e1 dTup (eL (d0 [none,some 1] (e1 a9 (eSl dSl (rV 3) (oSo (eC (.int 2))) oNo)) (stN 0) fH (dP (aB (e2 dMod (rV 0) (rV 1)) (aB (e2 dSub (eC (.int 1)) (e2 dMul (e2 dDiv (e2 dMod (e2 dDiv (rV 0) (eC (.int 64))) (eC (.int 3))) (eC (.int 2))) (eC (.int 2)))) aM))))))))
 (bM (vD (dP (aB (eA (aZ 2 iS (aB (vD (e2 dIx (rV 3) (eC (.int 0)))) (aB (vV 1) aM)))) (aB (eV 5) (aB (eA (aZ 2 iS (aB (vD (e2 dIx (rV 3) (eC (.int 1)))) (aB (vV 1) aM)))) aM)))))))))
def eY:List A->R A:=fnF 6 lR
def mZ:Sg->R Fw:=(aJ (fM 4 (fG aM))
 (aJ (lA (gM (rV 2)) (stN 5) (sIf (lN (e1 asB (e2 dLt (e2 cI (rV 1) (rV 5)) (e1 dLen (rV 0)))) (e1 asB (e2 dEq (e2 dMod (e2 dIx (rV 0) (eC (.int 0))) (eC (.int 2))) (eC (.int 1))))) (iB 4 (eA (aZ 3 f7 (aB (vD (e2 dIx (rV 0) (e2 cI (rV 1) (rV 5)))) (aB (vV 2) (aB (vV 3) aM)))))) (aJ (bU 6 (aZ 3 eY (aB (vD (e2 dMod (eA (aZ 2 bS (aB (vV 0) (aB (vD (e2 cI (rV 1) (rV 5))) aM)))) (eC (.int 2147483647)))) (aB (vV 2) (aB (vV 3) aM)))))
 (aJ (sIf (lN (e1 asB (e2 dEq (rV 5) (eC (.int 0)))) (lN (e1 asB (e1 (gZ "str") (e2 dIx (rV 6) (eC (.int 0))))) (e1 asB (e2 dGt (e2 dMod (e2 dDiv (eA (aZ 2 bS (aB (vV 0) (aB (vV 1) aM)))) (eC (.int 8))) (eC (.int 8))) (eC (.int 0)))))) (bU 6 (vD (e2 cI (dP (aB (e2 dMod (e2 dDiv (eA (aZ 2 bS (aB (vV 0) (aB (vV 1) aM)))) (eC (.int 64))) (rV 2)) aM)) (eSl dSl (rV 6) (oSo (eC (.int 1))) oNo)))) sNx)
 (iB 4 (eV 6))))))
 (bM (vD (e1 dTup (rV 4))))))
def fE:List A->R A:=fnF 7 mZ
def kL:Sg->R Fw:=(aJ (sIf (lN (e1 asB (e2 dLt (rV 1) (e1 dLen (rV 0)))) (e1 asB (e2 dEq (e2 dMod (e2 dIx (rV 0) (eC (.int 0))) (eC (.int 2))) (eC (.int 1))))) (aJ (bU 4 (vD (e2 dIx (rV 0) (rV 1))))
 (aJ (bU 5 (vD (eC (.str ""))))
 (aJ (lA (gM (rV 2)) (stN 6) (aJ (bU 5 (vD (e2 cI (rV 5) (e2 dIx (eC (.str "abc")) (e2 dMod (rV 4) (rV 3))))))
 (bU 4 (vD (e2 dDiv (rV 4) (rV 3))))))
 (bM (vV 5))))) sNx)
 (bM (vD (e2 aB2 (eC (.str "")) (eL (d0 [none,some 0,some 1,some 3] (gM (rV 2)) (stN 0) fH (e2 dIx (eC (.str "abc")) (e2 dMod (eA (aZ 2 bS (aB (vV 1) (aB (vD (e2 cI (rV 2) (rV 0))) aM)))) (rV 3)))))))))
def iD:List A->R A:=fnF 7 kL
def pQ:Sg->R Fw:=(bM (vD (zL (e1 (gZ "int") (rV 0)) (aLQ (e1 (gZ "bool") (rV 0))))))
def gG:List A->R A:=fnF 1 pQ
def qP:Sg->R Fw:=(aJ (n8 (stT [(stN 3),(stN 4)]) (eV 2))
 (aJ (n8 (stT [(stN 5),(stN 6),(stN 7)]) (e2 dIx (rV 0) (rV 4)))
 (aJ (sIf (bOr (e1 asB (e2 dEq (rV 3) (eC (.int 0)))) (e1 asB (e2 dGt (rV 3) (e1 dLen (rV 1))))) (aJ (bU 8 (vD (e2 dIx (eL (fG (aB (eV 5) (aB (eV 7) aM)))) (e1 dInt (e2 dGt (rV 3) (eC (.int 0)))))))
 (aJ (sIf (e1 asB (e1 (gZ "str") (rV 8))) (bM (vD (eC .none))) sNx)
 (bM (vD (dP (aB (e2 dIx (eL (fG (aB (eC (.int 1)) (aB (e1 dLen (rV 1)) aM)))) (e1 dInt (e2 dGt (rV 3) (eC (.int 0))))) (aB (eV 8) aM))))))) sNx)
 (aJ (n8 (stT [(stN 8),(stN 9)]) (e2 dIx (rV 6) (e2 x9 (eC (.str "abc")) (e2 dIx (rV 1) (e2 dSub (rV 3) (eC (.int 1)))))))
 (bM (vD (dP (aB (e2 cI (rV 3) (rV 9)) (aB (eV 8) aM)))))))))
def gA:List A->R A:=fnF 10 qP
def wZ:Sg->R Bool:=(e1 asB (qO true 3 (e2 dIx (rV 2) (e1 dNeg (eC (.int 1))))))
def w4:Sg->R Fw:=(aJ (oO 3 (e2 dIx (rV 2) (e1 dNeg (eC (.int 1)))) (eC (.bool true)))
 (aJ (bU 4 (aZ 3 gA (aB (vV 0) (aB (vV 1) (aB (vD (e2 dIx (rV 2) (e1 dNeg (eC (.int 1))))) aM)))))
 (aJ (sIf (e1 asB (e2 dIs (rV 4) (eC .none))) (sFz 2 (bM (vV 2))) sNx)
 (iB 2 (eV 4)))))
def oC:Sg->R Fw:=aJ (fM 2 (fG (aB (dP (aB (eC (.int 0)) (aB (eC (.int 0)) aM))) aM))) (aJ (qA 3) (aJ (bV wZ w4) (sFz 2 (bM (vV 2)))))
def jZ:List A->R A:=fnF 5 oC
def qQ:Sg->R Fw:=(aJ (n8 (stT [(stN 2),(stN 3)]) (e2 dIx (eA (aZ 2 jZ (aB (vV 0) (aB (vV 1) aM)))) (e1 dNeg (eC (.int 1)))))
 (aJ (sIf (e1 asB (e2 dIsnt (eA (aZ 3 gA (aB (vV 0) (aB (vV 1) (aB (vD (dP (aB (eV 2) (aB (eV 3) aM)))) aM))))) (eC .none))) (bM (vD (eC (.str "ever")))) sNx)
 (bM (vD (e2 dIx (eL (fG (aB (e2 dIx (e2 dIx (rV 0) (rV 3)) (eC (.int 0))) (aB (e2 dIx (e2 dIx (rV 0) (rV 3)) (eC (.int 2))) aM)))) (e1 dInt (e2 dGt (rV 2) (eC (.int 0)))))))))
def eS:List A->R A:=fnF 4 qQ
def byT:Sg->R Bool:=(e1 asB (e2 dLe (rV 2) (e1 dLen (rV 1))))
def byB:Sg->R Fw:=(aJ (sIf (e1 asB (qO false 4 (dP (aB (eV 2) (aB (eV 3) aM))))) (bM (vD (eC (.str "ever")))) sNx)
 (aJ (oO 4 (dP (aB (eV 2) (aB (eV 3) aM))) (eC (.bool true)))
 (aJ (sIf (lN (e1 asB (e2 dEq (rV 2) (eC (.int 0)))) (e1 asB (e1 (gZ "str") (e2 dIx (e2 dIx (rV 0) (rV 3)) (eC (.int 0)))))) (bM (vD (e2 dIx (e2 dIx (rV 0) (rV 3)) (eC (.int 0))))) sNx)
 (n8 (stT [(stN 2),(stN 3)]) (eA (aZ 3 gA (aB (vV 0) (aB (vV 1) (aB (vD (dP (aB (eV 2) (aB (eV 3) aM)))) aM)))))))))
def oD:Sg->R Fw:=aJ (qA 4) (aJ (bV byT byB) (bM (vV 3)))
def gS:List A->R A:=fnF 5 oD
def lS:Sg->R Fw:=(aJ (fM 2 (d0 [none,some 0,some 1] (gM (e1 dLen (rV 0))) (stN 0) fH (eA (aZ 4 gS (aB (vV 1) (aB (vV 2) (aB (vD (e1 dLen (rV 2))) (aB (vV 0) aM))))))))
 (bM (vD (dP (aB (eA (aZ 4 gS (aB (vV 0) (aB (vV 1) (aB (vD (eC (.int 0))) (aB (vD (eC (.int 0))) aM)))))) (aB (e1 dTup (rV 2)) aM))))))
def eZ:List A->R A:=fnF 3 lS
def wyT:Sg->R Bool:=(e1 asB (e2 dLt (e1 dLen (rV 5)) (e1 dLen (rV 3))))
def wyF:Sg->R Fw:=(aJ (bU 8 (vD (e2 cI (e2 dIx (rV 3) (e1 dLen (rV 5))) (rV 7))))
 (aJ (bU 9 (aZ 2 eZ (aB (vV 0) (aB (vV 8) aM))))
 (aJ (sIf (e1 asB (qO true 4 (eV 9))) (aJ (oO 4 (eV 9) (e1 dLen (rV 3)))
 (iB 3 (eV 8))) sNx)
 (iB 6 (nG 4 (eV 9))))))
def wyB:Sg->R Fw:=(aJ (fM 6 (fG aM))
 (aJ (lA (e1 a9 (eSl dSl (eC (.str "abc")) oNo (oSo (rV 1)))) (stN 7) wyF)
 (aJ (iB 5 (e1 dTup (rV 6)))
 (sIf (e1 asB (e2 dGt (e1 dLen (rV 3)) (rV 2))) (bM (vD (eC .none))) sNx))))
def wyE:Sg->R Fw:=(sFz 3 (bM (vD (dP (aB (eV 3) (aB (e1 dTup (rV 5)) (aB (e1 dTup (eL (d0 [none,some 0] (e1 a9 (rV 3)) (stN 0) fH (eA (aZ 2 eS (aB (vV 1) (aB (vV 0) aM))))))) aM)))))))
def qR:Sg->R Fw:=(aJ (fM 3 (fG (aB (eC (.str "")) aM)))
 (aJ (yB 4 (yA (eA (aZ 2 eZ (aB (vV 0) (aB (vD (eC (.str ""))) aM)))) (eC (.int 0)) aC7))
 (aJ (fM 5 (fG aM)) (aJ (bV wyT wyB) wyE))))
def dF:List A->R A:=fnF 10 qR
def pR:Sg->R Fw:=(aJ (bU 2 (vD (e2 cI (eC (.int 1)) (e2 dMod (eA (aZ 2 bS (aB (vV 0) (aB (vV 1) aM)))) (eC (.int 2))))))
 (aJ (bU 3 (vD (e2 cI (eC (.int 1)) (e2 dMod (eA (aZ 2 bS (aB (vV 0) (aB (vD (e2 cI (rV 1) (eC (.int 1)))) aM)))) (e2 dIx (eL (fG (aB (eC (.int 5)) (aB (eC (.int 3)) aM)))) (e2 dSub (rV 2) (eC (.int 1))))))))
 (aJ (bU 4 (aZ 4 fE (aB (vV 0) (aB (vD (e2 cI (rV 1) (eC (.int 2)))) (aB (vV 3) (aB (vV 2) aM))))))
 (aJ (bU 5 (aZ 3 dF (aB (vV 4) (aB (vV 2) (aB (vD (eC (.int 40))) aM)))))
 (aJ (bV (e1 asB (e2 dIs (rV 5) (eC .none))) (aJ (bU 3 (vD (e2 dSub (rV 3) (eC (.int 1)))))
 (aJ (bU 4 (aZ 4 fE (aB (vV 0) (aB (vD (e2 cI (rV 1) (eC (.int 2)))) (aB (vV 3) (aB (vV 2) aM))))))
 (bU 5 (aZ 3 dF (aB (vV 4) (aB (vV 2) (aB (vD (eC (.int 40))) aM))))))))
 (bM (vD (dP (aB (eV 4) (aB (eV 5) aM))))))))))
def jE:List A->R A:=fnF 6 pR
def lK:Sg->R Fw:=(bM (vD (eIf (e1 asB (e1 (gZ "str") (rV 0))) (e2 dIn (rV 0) (dP (aB (eC (.str "by")) (aB (eC (.str "out")) aM)))) (zL (eA (aZ 1 gG (aB (vV 0) aM))) (eCh dLe dLt (eC (.int 0)) (rV 0) (rV 1))))))
def gT:List A->R A:=fnF 2 lK
def m6:Sg->R Fw:=(aJ (sIf (bOr (j4 (e1 asB (e1 (gZ "tuple") (rV 0)))) (bOr (e1 asB (e2 dNe (e1 dLen (rV 0)) (eC (.int 2)))) (bOr (j4 (e1 asB (eA (aZ 1 gG (aB (vD (e2 dIx (rV 0) (eC (.int 0)))) aM))))) (j4 (e1 asB (eA (aZ 1 gG (aB (vD (e2 dIx (rV 0) (eC (.int 1)))) aM)))))))) (bM (vD (eC (.bool false)))) sNx)
 (bM (vD (zL (eCh dLe dLt (eC (.int 0)) (e2 dIx (rV 0) (eC (.int 0))) (rV 1)) (e2 dIn (e2 dIx (rV 0) (eC (.int 1))) (dP (aB (eC (.int 1)) (aB (e1 dNeg (eC (.int 1))) aM))))))))
def iA:List A->R A:=fnF 2 m6
def imB:Sg->R Fw:=(aJ (sIf (bOr (j4 (e1 asB (e1 (gZ "tuple") (rV 3)))) (bOr (e1 asB (e2 dNe (e1 dLen (rV 3)) (eC (.int 3)))) (bOr (j4 (e1 asB (e1 (gZ "tuple") (e2 dIx (rV 3) (eC (.int 1)))))) (e1 asB (e2 dNe (e1 dLen (e2 dIx (rV 3) (eC (.int 1)))) (rV 2)))))) (bM (vD (eC (.bool false)))) sNx)
 (aJ (sIf (bOr (j4 (e1 asB (eA (aZ 2 gT (aB (vD (e2 dIx (rV 3) (eC (.int 0)))) (aB (vV 1) aM)))))) (j4 (e1 asB (eA (aZ 2 gT (aB (vD (e2 dIx (rV 3) (eC (.int 2)))) (aB (vV 1) aM))))))) (bM (vD (eC (.bool false)))) sNx)
 (sIf (j4 (e1 asB (e1 dAll (eL (d0 [none,some 1] (e1 a9 (e2 dIx (rV 3) (eC (.int 1)))) (stN 0) fH (eA (aZ 2 iA (aB (vV 0) (aB (vV 1) aM))))))))) (bM (vD (eC (.bool false)))) sNx)))
def lB:Sg->R Fw:=aJ (sIf (bOr (j4 (e1 asB (e1 (gZ "tuple") (rV 0)))) (e1 asB (e2 dNe (e1 dLen (rV 0)) (rV 1)))) (bM (vD (eC (.bool false)))) sNx) (aJ (lA (e1 a9 (eV 0)) (stN 3) imB) (bM (vD (eC (.bool true)))))
def gX:List A->R A:=fnF 4 lB
def fA(ns:List Int):Dz:=.list (ns.map .int)
def l5(ns:List Int):dLen (fA ns)=.ok (.int ns.length):=by unfold fA;rw[jD,AB]
def uD{ns:List Int}{i:Int}(h0:0<=i)(h1:i < ns.length):∃ v,dIx (fA ns) (.int i)=.ok (.int v):=by
 refine ⟨ns[i.toNat]'(by omega),lJ (rG h0 ?_)⟩
 rw[AC,AD (by omega)];rfl
def rH(ns:List Int)(k:Int):∃ v,bS [.d (fA ns),.d (.int k)]=.ok (.d (.int v)):=by
 by_cases h:(0:Int) < ns.length
 .obtain ⟨v,c⟩:=uD (ns:=ns) (i:=k % (ns.length:Int)) (C4 _ (by omega)) (CK _ h)
  have b:dMod (.int k) (.int (ns.length:Int))=.ok (.int (k % (ns.length:Int))):=dQ h
  have a:0 < ns.length:=by omega
  refine ⟨v / 2147483647 * 2147483659+((v % 2147483647+7919 * k+1) * 48271 % 2147483647 * 69621+104729 * k) % 2147483659,?_⟩
  unfold bS nH
  simp[l5,a,b,c,dQ,uB,yI,jY]
 .have a:¬ 0 < ns.length:=by omega
  refine ⟨((7919 * k+1) * 48271 % 2147483647 * 69621+104729 * k) % 2147483659,?_⟩
  unfold bS nH
  simp[l5,a,dQ,uB,yI,jY]
def aSZ(x y:Dz)(i:Int):∃ z,dIx (.list [x,y]) (.int (i % 2))=.ok z/\(z=x\/z=y):=by
 rcases Int.emod_two_eq i with h|h
 · rw [h]; exact ⟨x, aSW _ _, .inl rfl⟩
 · rw [h]; exact ⟨y, aSX _ _ _, .inr rfl⟩
def aNT(x:Int){n:Int}(c:0 < n):∃ t:Tn,iS [.d (.int x),.d (.int n)]=.ok (.d t.d)/\t.good n:=by
 by_cases h:x % 3=0
 .obtain ⟨z,f,b⟩:=aSZ (.str "by") (.str "out") (x / 3)
  have a:decide (x % 3=0)=true:=AX h
  have e:iS [.d (.int x),.d (.int n)]=.ok (.d z):=by
   unfold iS oV
   simp[dQ,jY,eB,a,f]
  rcases b with rfl|rfl
  .exact ⟨.w "by",e,.inl rfl⟩
  .exact ⟨.w "out",e,.inr rfl⟩
 .have a:decide (x % 3=0)=false:=BA h
  refine ⟨.n (x / 3 % n),?_,C4 _ (by omega),CK _ c⟩
  unfold iS oV
  simp[dQ,jY,eB,a,c]
  rfl
def aGA(x:Int){n:Int}{sg:Nat}(h:0 < n)(E:sg<=1000):∃ r:Rw,eY [.d (.int x),.d (.int n),.d (.int sg)]=.ok (.d (cB r))/\r.good n/\r.c.length=sg:=by
 have C:lE 0 ((sg:Int)+2)=.ok ((List.range (sg+2)).map fun i:Nat=>.int (i:Int)):=by
  have:=hU (n:=sg+2) (by omega)
  rw[show (((sg+2:Nat)):Int)=(sg:Int)+2 by omega] at this
  exact this
 obtain ⟨w,v,y,ps,m,b,rfl⟩:=f6 (fs:=stN 4) (fb:=aJ (bU 0 (vD (e2 dMod (e2 cI (e2 dMul (rV 0) (eC (.int 48271))) (eC (.int 7919))) (eC (.int 2147483647))))) (iB 3 (e2 dDiv (rV 0) (eC (.int 64)))))
  (d:=fun i:Nat=>.int (i:Int)) (xs:=List.range (sg+2)) (ρ:=[some (.d (.int x)),some (.d (.int n)),some (.d (.int sg)),some (.l []),none,none])
  (fun i ρ=>∃ (y:Int) (ps:List Int) (m:O9 A),ps.length=i/\ρ=[some (.d (.int y)),some (.d (.int n)),some (.d (.int sg)),some (.l (ps.map .int)),m,none]) ⟨x,[],none,rfl,rfl⟩
  (fun i k ρ D o=>by
   obtain ⟨y,ps,m,b,rfl⟩:=o
   have hi:i < sg+2:=by have:=(AI.mp D).1;simpa using this
   refine ⟨_,_,rfl,.inl ?_,(y * 48271+7919) % 2147483647,ps++[(y * 48271+7919) % 2147483647 / 64],some (.d (.int k)),by simp[b],rfl⟩
   have s:(ps.map PyData.int).length < 16777216:=by rw[AB,b];omega
   simp[uB,yI,dQ,jY,s]
   omega)
 rw[AW] at b
 obtain ⟨e,f,qs,rfl,z⟩:∃ e f qs,ps=e::f::qs/\qs.length=sg:=by
  match ps,b with
  | e::f::qs,b=>exact ⟨e,f,qs,rfl,by simpa using b⟩
 have a:dSl (.list ((e::f::qs).map .int)) (some 2) none=.ok (.list (qs.map .int)):=by
  show R.ok (PyData.list (t5 _ _ _))=_
  unfold t5 HT.sIx
  simp
  rw[C6 (by simp)]
 obtain ⟨t0,e0,t⟩:=aNT e h
 obtain ⟨u,p,B⟩:=aNT f h
 have j:=cY (fs:=stN 0) (fe:=dP (aB (e2 dMod (rV 0) (rV 1)) (aB (e2 dSub (eC (.int 1)) (e2 dMul (e2 dDiv (e2 dMod (e2 dDiv (rV 0) (eC (.int 64))) (eC (.int 3))) (eC (.int 2))) (eC (.int 2)))) aM))) (ρ0:=[none,some (.d (.int n))]) (d:=PyData.int) (g:=fun q=>cJ (q % n,1 - q / 64 % 3 / 2 * 2)) (xs:=qs) fun q _=>⟨_,rfl,by simp[dQ,jY,uB,h,cJ]⟩
 have hi:a9 (.list (qs.map .int))=.ok (qs.map .int):=iV (by rw[AB];omega)
 refine ⟨⟨t0,qs.map fun q=>(q % n,1 - q / 64 % 3 / 2 * 2),u⟩,?_,⟨t,B,fun c j=>?_⟩,by simpa using z⟩
 .unfold eY lR
  simp only[jC,AY,BS,BZ,B7,BB,BD,List.replicate,bJ,lP,mV,fZ,R.bind_ok]
  simp[C]
  rw[v]
  simp at a hi j
  simp[a,hi,eJ,j,e0,p,cB]
 .obtain ⟨q,_,rfl⟩:=AN.mp j
  refine ⟨C4 _ (by omega),CK _ h,?_⟩
  simp only
  omega
def aPU(x:Int){n:Int}{sg:Nat}(C:0 < n)(K:n<=1000)(N:sg<=1000):∃ r:Rw,f7 [.d (.int x),.d (.int n),.d (.int sg)]=.ok (.d (cB r))/\r.good n/\r.c.length=sg:=by
 have E:=hU (n:=sg) (by omega)
 have f:(0:Int) < n+2:=by omega
 have v:n+2 < 18446744073709551616:=by omega
 have o:(0:Int) < 2 * n:=by omega
 have m:2 * n < 18446744073709551616:=by omega
 obtain ⟨I,H,y,cs,q,j,s,rfl⟩:=f6 (fs:=stN 5) (fb:=aJ (iB 4 (dP (aB (e2 dMod (e2 dDiv (rV 0) (eC (.int 2))) (rV 1)) (aB (e2 dSub (eC (.int 1)) (e2 dMul (e2 dMod (rV 0) (eC (.int 2))) (eC (.int 2)))) aM)))) (bU 0 (vD (e2 dDiv (rV 0) (e2 dMul (eC (.int 2)) (rV 1))))))
  (d:=fun i:Nat=>.int (i:Int)) (xs:=List.range sg) (ρ:=[some (.d (.int (x / (n+2)))),some (.d (.int n)),some (.d (.int sg)),some (.d (.int (x % (n+2)))),some (.l []),none,none])
  (fun i ρ=>∃ (y:Int) (cs:List (Int×Int)) (q:O9 A),cs.length=i/\(∀ c∈cs,pE n c)/\ρ=[some (.d (.int y)),some (.d (.int n)),some (.d (.int sg)),some (.d (.int (x % (n+2)))),some (.l (cs.map cJ)),q,none]) ⟨x / (n+2),[],none,rfl,fun c g=>by simp at g,rfl⟩
  (fun i k ρ L B=>by
   obtain ⟨y,cs,q,j,s,rfl⟩:=B
   have hi:i < sg:=by have:=(AI.mp L).1;simpa using this
   have M:(cs.map cJ).length < 16777216:=by rw[AB,j];omega
   refine ⟨_,_,rfl,.inl ?_,y / (2 * n),cs++[(y / 2 % n,1 - y % 2 * 2)],some (.d (.int k)),by simp[j],fun c g=>?_,rfl⟩
   .have p:cs.length < 16777216:=by omega
    simp[uB,yI,dQ,jY,C,o,m,cJ,p]
   .rcases BK.mp g with z|z
    .exact s c z
    .rw[AQ.mp z]
     refine ⟨C4 _ (by omega),CK _ C,?_⟩
     simp only;omega)
 rw[AW] at j
 have key:∀ e:Int,0<=e->e < n+2->∃ t:Tn,(eIf (e1 asB (e2 dGe (rV 0) (rV 1))) (e2 dIx (eL (fG (aB (eC (.str "by")) (aB (eC (.str "out")) aM)))) (e2 dSub (rV 0) (rV 1))) (eV 0)) [some (.d (.int e)),some (.d (.int n))]=.ok t.d/\t.good n:=fun e F h1=>by
  by_cases h:n<=e
  .obtain rfl|rfl:e=n\/e=n+1:=by omega
   .exact ⟨.w "by",by simp[Tn.d],.inl rfl⟩
   .exact ⟨.w "out",by simp[Tn.d,show n+1 - n=1 by omega,show n<=n+1 by omega],.inr rfl⟩
  .exact ⟨.n e,by simp[Tn.d,h],F,by omega⟩
 obtain ⟨t0,e0,G⟩:=key (x % (n+2)) (C4 _ (by omega)) (CK _ f)
 obtain ⟨D,u,J⟩:=key (y % (n+2)) (C4 _ (by omega)) (CK _ f)
 have g:compL (stN 0) fH (eIf (e1 asB (e2 dGe (rV 0) (rV 1))) (e2 dIx (eL (fG (aB (eC (.str "by")) (aB (eC (.str "out")) aM)))) (e2 dSub (rV 0) (rV 1))) (eV 0)) [none,some (.d (.int n))] [.int (x % (n+2)),.int (y % (n+2))]=.ok [t0.d,D.d]:=by
  simp only[compL,yG,BC,p7,R.bind_ok,aF7,R.noEx_ok,CD,e0,u]
 have hi:∀ a b:Dz,a9 (.list [a,b])=.ok [a,b]:=fun a b=>iV (by simp)
 refine ⟨⟨t0,cs,D⟩,?_,⟨G,J,s⟩,j⟩
 unfold f7 lQ
 simp only[jC,AY,BS,BZ,B7,BB,BD,List.replicate,bJ,j3,lI,iR,gP,jN,A0,A1,R.bind_ok,rE,dQ f,jY f v,BC,BG,lP,mV,fZ,o9,oR,E]
 simp only[CM,CD,R.bind_ok,BC,BG,A0,A1,E,H]
 simp only[iC,sT,fZ,iR,gP,jN,A0,A1,R.bind_ok,rE,dQ f,sU,jO,BC,BG]
 simp[hi,eJ,g,cB,dQ f]
def aKB{ns:List Int}{at':Int}{n sg:Nat}(T:0<=at')(h1:1<=n)(h2:n<=1000)(s1:1<=sg)(W:sg<=3):∃ rs:List Rw,fE [.d (fA ns),.d (.int at'),.d (.int n),.d (.int sg)]=.ok (.d (aV rs))/\Mach rs sg/\rs.length=n:=by
 have a:=hU (n:=n) (by omega)
 have y:(0:Int) < (n:Int):=by omega
 obtain ⟨Y,X,rs,j,h,m,G,rfl⟩:=f6 (fs:=stN 5) (fb:=(sIf (lN (e1 asB (e2 dLt (e2 cI (rV 1) (rV 5)) (e1 dLen (rV 0)))) (e1 asB (e2 dEq (e2 dMod (e2 dIx (rV 0) (eC (.int 0))) (eC (.int 2))) (eC (.int 1))))) (iB 4 (eA (aZ 3 f7 (aB (vD (e2 dIx (rV 0) (e2 cI (rV 1) (rV 5)))) (aB (vV 2) (aB (vV 3) aM)))))) (aJ (bU 6 (aZ 3 eY (aB (vD (e2 dMod (eA (aZ 2 bS (aB (vV 0) (aB (vD (e2 cI (rV 1) (rV 5))) aM)))) (eC (.int 2147483647)))) (aB (vV 2) (aB (vV 3) aM)))))
 (aJ (sIf (lN (e1 asB (e2 dEq (rV 5) (eC (.int 0)))) (lN (e1 asB (e1 (gZ "str") (e2 dIx (rV 6) (eC (.int 0))))) (e1 asB (e2 dGt (e2 dMod (e2 dDiv (eA (aZ 2 bS (aB (vV 0) (aB (vV 1) aM)))) (eC (.int 8))) (eC (.int 8))) (eC (.int 0)))))) (bU 6 (vD (e2 cI (dP (aB (e2 dMod (e2 dDiv (eA (aZ 2 bS (aB (vV 0) (aB (vV 1) aM)))) (eC (.int 64))) (rV 2)) aM)) (eSl dSl (rV 6) (oSo (eC (.int 1))) oNo)))) sNx)
 (iB 4 (eV 6))))))
  (d:=fun i:Nat=>.int (i:Int)) (xs:=List.range n) (ρ:=[some (.d (fA ns)),some (.d (.int at')),some (.d (.int n)),some (.d (.int sg)),some (.l []),none,none])
  (fun i ρ=>∃ (rs:List Rw) (j h:O9 A),rs.length=i/\(∀ r∈rs,r.good n/\r.c.length=sg)/\ρ=[some (.d (fA ns)),some (.d (.int at')),some (.d (.int n)),some (.d (.int sg)),some (.l (rs.map cB)),j,h]) ⟨[],none,none,rfl,fun c S=>by simp at S,rfl⟩
  (fun i k ρ hk K=>by
   obtain ⟨rs,j,h,m,G,rfl⟩:=K
   have hi:i < n:=by have:=(AI.mp hk).1;simpa using this
   have w:rs.length < 16777216:=by omega
   have snoc:∀ r:Rw,r.good n/\r.c.length=sg->∀ x∈rs++[r],x.good n/\x.c.length=sg:=fun r a x V=>by
    rcases BK.mp V with z|z
    .exact G x z
    .rw[AQ.mp z];exact a
   obtain ⟨v,Q⟩:=rH ns (at'+k)
   obtain ⟨r,a,p⟩:=aGA (v % 2147483647) (n:=(n:Int)) (sg:=sg) y (by omega)
   obtain ⟨q,t⟩:=rH ns at'
   have F:∀ r:Rw,dSl (cB r) (some 1) none=.ok (.tuple [.tuple (r.c.map cJ),r.r.d]):=fun r=>by
    unfold cB
    rw[aUS (by unfold HT.sIx;simp)]
    unfold t5 HT.sIx
    simp
   have put:∀ (j h:O9 A) (r:Rw),(iB 4 (eV 6)) [some (.d (fA ns)),some (.d (.int at')),some (.d (.int n)),some (.d (.int sg)),some (.l (rs.map cB)),j,some (.d (cB r))]=.ok (.nx [some (.d (fA ns)),some (.d (.int at')),some (.d (.int n)),some (.d (.int sg)),some (.l ((rs++[r]).map cB)),j,some (.d (cB r))]):=fun j h r=>by simp[w]
   have s:∀ o,o=[some (.d (fA ns)),some (.d (.int at')),some (.d (.int n)),some (.d (.int sg)),some (.l (rs.map cB)),some (.d (.int k)),h]->∃ r2:Rw,(r2.good n/\r2.c.length=sg)/\∃ e,(aJ (bU 6 (aZ 3 eY (aB (vD (e2 dMod (eA (aZ 2 bS (aB (vV 0) (aB (vD (e2 cI (rV 1) (rV 5))) aM)))) (eC (.int 2147483647)))) (aB (vV 2) (aB (vV 3) aM)))))
     (aJ (sIf (lN (e1 asB (e2 dEq (rV 5) (eC (.int 0)))) (lN (e1 asB (e1 (gZ "str") (e2 dIx (rV 6) (eC (.int 0))))) (e1 asB (e2 dGt (e2 dMod (e2 dDiv (eA (aZ 2 bS (aB (vV 0) (aB (vV 1) aM)))) (eC (.int 8))) (eC (.int 8))) (eC (.int 0)))))) (bU 6 (vD (e2 cI (dP (aB (e2 dMod (e2 dDiv (eA (aZ 2 bS (aB (vV 0) (aB (vV 1) aM)))) (eC (.int 64))) (rV 2)) aM)) (eSl dSl (rV 6) (oSo (eC (.int 1))) oNo)))) sNx)
     (iB 4 (eV 6)))) o=.ok (.nx [some (.d (fA ns)),some (.d (.int at')),some (.d (.int n)),some (.d (.int sg)),some (.l ((rs++[r2]).map cB)),some (.d (.int k)),e]):=by
    rintro o rfl
    by_cases f:k=0
    case neg=>
     exact ⟨r,p,some (.d (cB r)),by simp[Q,dQ,a,f,eB,w]⟩
    subst f
    obtain ⟨r,a,p⟩:=aGA (q % 2147483647) (n:=(n:Int)) (sg:=sg) y (by omega)
    have g:dIx (cB r) (.int 0)=.ok r.l.d:=yK _ _
    have J:∃ b,gZ "str" r.l.d=.ok (.bool b):=by cases r.l<;>exact ⟨_,rfl⟩
    obtain ⟨b,I⟩:=J
    have B:cI (.tuple [.int (q / 64 % (n:Int))]) (.tuple [.tuple (r.c.map cJ),r.r.d])=.ok (cB ⟨.n (q / 64 % (n:Int)),r.c,r.r⟩):=by
     rw[aJ7 rfl (by simp)];rfl
    have u:(⟨.n (q / 64 % (n:Int)),r.c,r.r⟩:Rw).good n/\r.c.length=sg:=⟨⟨⟨C4 _ (by omega),CK _ y⟩,p.1.2.1,p.1.2.2⟩,p.2⟩
    cases C:b with
    | false=>
     subst C
     exact ⟨r,p,some (.d (cB r)),by simp[t,dQ,a,eB,g,I,w]⟩
    | true=>
     subst C
     by_cases L:0 < q / 8 % 8
     .refine ⟨⟨.n (q / 64 % (n:Int)),r.c,r.r⟩,u,some (.d (cB ⟨.n (q / 64 % (n:Int)),r.c,r.r⟩)),?_⟩
      simp[t,dQ,dQ y,a,eB,g,I,w,jY,L,F,B]
     .exact ⟨r,p,some (.d (cB r)),by simp[t,dQ,a,eB,g,I,w,jY,L]⟩
   obtain ⟨r2,O,e,N⟩:=s _ rfl
   by_cases f:at'+(k:Int) < (ns.length:Int)
   .obtain ⟨Z,D⟩:=uD (ns:=ns) (i:=0) (DJ _) (by omega)
    by_cases M:Z % 2=1
    .obtain ⟨w1,H⟩:=uD (ns:=ns) (i:=at'+k) (by omega) f
     obtain ⟨P,E,U⟩:=aPU w1 (n:=(n:Int)) (sg:=sg) y (by omega) (by omega)
     refine ⟨_,_,rfl,.inl ?_,rs++[P],some (.d (.int k)),h,by simp[m],snoc P U,rfl⟩
     simp[l5,f,D,dQ,M,eB,H,E,w]
    .refine ⟨_,_,rfl,.inl ?_,rs++[r2],some (.d (.int k)),e,by simp[m],snoc r2 O,rfl⟩
     rw[<-N]
     simp only[yG,BG,BC]
     rw[nS]
     simp only[rD,jO,iR,gP,jN,A0,A1,R.bind_ok,rE,l5,yH,pN,f,decide_true,CD,D,dQ (show (0:Int) < 2 by decide),eB,M,GL,CH,DU]
   .refine ⟨_,_,rfl,.inl ?_,rs++[r2],some (.d (.int k)),e,by simp[m],snoc r2 O,rfl⟩
    rw[<-N]
    simp only[yG,BG,BC]
    rw[nS]
    simp only[rD,jO,iR,gP,jN,A0,A1,R.bind_ok,rE,l5,yH,pN,f,GL,CH,DU])
 rw[AW] at m
 refine ⟨rs,?_,⟨by omega,by omega,s1,W,fun r a=>by rw[m];exact G r a⟩,m⟩
 unfold fE mZ
 simp only[jC,AY,BS,BZ,B7,BB,BD,List.replicate,bJ,lP,mV,fZ,R.bind_ok,CM,CD,BC,BG,o9,oR,gP,A0,A1,a,X]
 simp[aV]
def wF(x y:Str):(x++y).cps.toList=x.cps.toList++y.cps.toList:=by
 show (x.cps++y.cps).toList=_
 rw[FK]
def aPV{ns:List Int}{at':Int}{m sg:Nat}(F:0<=at')(U:m<=1000)(s1:1<=sg)(P:sg<=3):∃ z:Str,iD [.d (fA ns),.d (.int at'),.d (.int m),.d (.int sg)]=.ok (.d (.str z))/\bA sg z.cps.toList/\z.cps.toList.length=m:=by
 have M:=hU (n:=m) (by omega)
 have w:(0:Int) < (sg:Int):=by omega
 have o:∀ y:Int,∃ c,dIx (.str "abc") (.int (y % (sg:Int)))=.ok (.str ⟨#[c]⟩)/\cF sg c=true:=fun y=>by
  obtain ⟨c,h1,h2⟩:=aON (k:=y) s1 P
  exact ⟨c,aNR (by decide) h1,h2⟩
 have G:∃ z:Str,(bM (vD (e2 aB2 (eC (.str "")) (eL (d0 [none,some 0,some 1,some 3] (gM (rV 2)) (stN 0) fH (e2 dIx (eC (.str "abc")) (e2 dMod (eA (aZ 2 bS (aB (vV 1) (aB (vD (e2 cI (rV 2) (rV 0))) aM)))) (rV 3)))))))) [some (.d (fA ns)),some (.d (.int at')),some (.d (.int m)),some (.d (.int sg)),none,none,none]=.ok (.rt (.d (.str z)))/\bA sg z.cps.toList/\z.cps.toList.length=m:=by
  have b:∀ i:Nat,∃ c,(e2 dIx (eC (.str "abc")) (e2 dMod (eA (aZ 2 bS (aB (vV 1) (aB (vD (e2 cI (rV 2) (rV 0))) aM)))) (rV 3))) [some (.d (.int i)),some (.d (fA ns)),some (.d (.int at')),some (.d (.int sg))]=.ok (.str ⟨#[c]⟩)/\cF sg c=true:=fun i=>by
   obtain ⟨v,N⟩:=rH ns (at'+i)
   obtain ⟨c,h1,h2⟩:=o v
   exact ⟨c,by simp[N,dQ w,h1],h2⟩
  have s:=Classical.skolem.mp b
  obtain ⟨f,u⟩:=s
  have h1:=cY (fs:=stN 0) (fe:=e2 dIx (eC (.str "abc")) (e2 dMod (eA (aZ 2 bS (aB (vV 1) (aB (vD (e2 cI (rV 2) (rV 0))) aM)))) (rV 3))) (ρ0:=[none,some (.d (fA ns)),some (.d (.int at')),some (.d (.int sg))]) (d:=fun i:Nat=>.int (i:Int)) (g:=fun i:Nat=>.str ⟨#[f i]⟩) (xs:=List.range m) fun i _=>⟨_,rfl,(u i).1⟩
  have B:sL ((List.range m).map fun i:Nat=>PyData.str ⟨#[f i]⟩)=some (((List.range m).map f).map one):=by
   rw[A6]
   generalize List.range m=l
   induction l with
   | nil=>rfl
   | cons a t ih=>simp only[AY,sL,ih];rfl
  have O:aB2 (.str "") (.list ((List.range m).map fun i:Nat=>.str ⟨#[f i]⟩))=.ok (.str ⟨((List.range m).map f).toArray⟩):=by
   show (match sL ((List.range m).map fun i:Nat=>PyData.str ⟨#[f i]⟩) with|some ys=>if _ then R.ok _ else .bad|none=>.bad)=_
   rw[B]
   simp only
   rw[AL (by rw[aOL,AB,AB,AW];show m+m * 0<=_;omega),aOM]
  refine ⟨⟨((List.range m).map f).toArray⟩,?_,⟨by simp;omega,fun c b=>?_⟩,by simp⟩
  .simp[M,eJ,h1,O]
  .simp at b
   obtain ⟨i,_,rfl⟩:=b
   exact (u i).2
 obtain ⟨K,h,I,J⟩:=G
 by_cases p:at' < (ns.length:Int)
 .obtain ⟨S,j⟩:=uD (ns:=ns) (i:=0) (DJ _) (by omega)
  by_cases L:S % 2=1
  .obtain ⟨w1,D⟩:=uD (ns:=ns) (i:=at') F p
   obtain ⟨Q,u,y,z,C,r,E,rfl⟩:=f6 (fs:=stN 6) (fb:=aJ (bU 5 (vD (e2 cI (rV 5) (e2 dIx (eC (.str "abc")) (e2 dMod (rV 4) (rV 3)))))) (bU 4 (vD (e2 dDiv (rV 4) (rV 3)))))
    (d:=fun i:Nat=>.int (i:Int)) (xs:=List.range m) (ρ:=[some (.d (fA ns)),some (.d (.int at')),some (.d (.int m)),some (.d (.int sg)),some (.d (.int w1)),some (.d (.str "")),none])
    (fun i ρ=>∃ (y:Int) (z:Str) (C:O9 A),z.cps.toList.length=i/\(∀ c∈z.cps.toList,cF sg c=true)/\ρ=[some (.d (fA ns)),some (.d (.int at')),some (.d (.int m)),some (.d (.int sg)),some (.d (.int y)),some (.d (.str z)),C]) ⟨w1,"",none,rfl,fun c b=>(nomatch (show c∈([]:List Nat) from b)),rfl⟩
    (fun i k ρ T H=>by
     obtain ⟨y,z,C,r,E,rfl⟩:=H
     have hi:i < m:=by have:=(AI.mp T).1;simpa using this
     obtain ⟨c,h1,h2⟩:=o y
     have e:cI (.str z) (.str ⟨#[c]⟩)=.ok (.str (z++⟨#[c]⟩)):=aJ8 (by
      have:z.length=z.cps.toList.length:=by simp[Str.length]
      show z.length+1<=_
      omega)
     refine ⟨_,_,rfl,.inl ?_,y / sg,z++⟨#[c]⟩,some (.d (.int k)),by rw[wF,A5,r];rfl,fun x s=>?_,rfl⟩
     .simp[dQ w,h1,e,jY w (show (sg:Int) < 18446744073709551616 by omega)]
     .rw[wF] at s
      rcases BK.mp s with q|q
      .exact E x q
      .have:x=c:=by simpa using q
       rw[this];exact h2)
   rw[AW] at r
   refine ⟨z,?_,⟨by omega,E⟩,r⟩
   unfold iD kL
   simp only[jC,AY,BS,BZ,B7,BB,BD,List.replicate,bJ,nS,rD,jO,iR,gP,jN,A0,A1,R.bind_ok,l5,yH,pN,p,decide_true,CD,j,dQ (show (0:Int) < 2 by decide),eB,L,j3,lI,D,BC,BG,o9,oR,M,u,aPN,oQ]
  .refine ⟨K,?_,I,J⟩
   unfold iD kL
   simp only[jC,AY,BS,BZ,B7,BB,BD,List.replicate]
   rw[bJ,nS]
   simp only[rD,jO,iR,gP,jN,A0,A1,R.bind_ok,l5,yH,pN,p,decide_true,CD,j,dQ (show (0:Int) < 2 by decide),eB,L,GL,CH,DU,aDJ]
   rw[h];rfl
 .refine ⟨K,?_,I,J⟩
  unfold iD kL
  simp only[jC,AY,BS,BZ,B7,BB,BD,List.replicate]
  rw[bJ,nS]
  simp only[rD,jO,iR,gP,jN,A0,A1,R.bind_ok,l5,yH,pN,p,GL,CH,DU,aDJ]
  rw[h];rfl
def aGB(i:Int):gG [.d (.int i)]=.ok (.d (.bool true)):=by
 have h1:jK "int" "int"=true:=by decide
 have h2:jK "int" "bool"=false:=by decide
 simp[gG,pQ,h1,h2]
theorem aDP:∀ (n:Nat),sI (List.replicate n (.bool true))=some (List.replicate n true)
 | 0=>rfl
 | n+1=>by rw[List.replicate_succ,sI,aDP n];rfl
def aPW(n:Nat):dAll (.list (List.replicate n (.bool true)))=.ok (.bool true):=by
 unfold dAll
 simp only
 rw[aDP]
 simp
end Mc
namespace Mc
open L2 PyProof.Rows
def gH(rs:List Rw)(z:List Nat)(s:Int×Int):O9 ((Int×Int)⊕Str):=
 match (bX rs z s).1 with
 | .w x=>some (.inr x)
 | .n q=>some (.inl (s.1+(bX rs z s).2,q))
def walk_step{rs:List Rw}{z:List Nat}{s:Int×Int}:(∃ x,fF rs z s=none/\(bX rs z s).1=.w x/\gH rs z s=some (.inr x))\/∃ s',fF rs z s=some s'/\gH rs z s=some (.inl s'):=by
 unfold fF gH
 cases (bX rs z s).1 with
 | w x=>exact .inl ⟨x,rfl,rfl,rfl⟩
 | n q=>exact .inr ⟨_,rfl,rfl⟩
end Mc
namespace Mc
open L2 PyProof.Rows Fl
def uE:jK "int" "str"=false:=by decide
def uF:jK "str" "str"=true:=by decide
def rJ{rs:List Rw}{q:Int}(h0:0<=q)(h1:q < (rs.length:Int)):dIx (aV rs) (.int q)=.ok (cB (bB rs q)):=oS (rG h0 (by rw[AC,eP h0 h1];rfl))
def oE:O9 (Int×Int)->Dz
 | none=>.none
 | some s=>prD s
def m7(z:Str):z.length=z.cps.toList.length:=by simp[Str.length]
def yL{rs:List Rw}{sg:Nat}{z:Str}(M:Mach rs sg)(S:bA sg z.cps.toList){s:Int×Int}(V:j5 rs z.cps.toList s):gA [.d (aV rs),.d (.str z),.d (prD s)]=.ok (.d (oE (fF rs z.cps.toList s))):=by
 obtain ⟨p,q⟩:=s
 have i:=rJ V.2.2.1 V.2.2.2
 have m:z.length<=16777216:=by rw[m7];have:=S.1;omega
 have g:=aDL m
 rw[m7] at g
 generalize y:z.cps.toList=h at *
 unfold gA qP
 by_cases f:p=0
 .subst f
  have a:fF rs h (0,q)=match (bB rs q).l with | .w _=>none | .n q'=>some (0+1,q'):=by
   unfold fF bX;simp only[CD]<;>(cases (bB rs q).l<;>rfl)
  cases e:(bB rs q).l with
  | w x=>
   rw[e] at a
   rw[a]
   simp[prD,i,g,cB,eB,e,Tn.d,uF,oE]
  | n q'=>
   rw[e] at a
   rw[a]
   simp[prD,i,g,cB,eB,e,Tn.d,uE,oE]
 .by_cases h1:p=(h.length:Int)+1
  .have a:fF rs h (p,q)=match (bB rs q).r with | .w _=>none | .n q'=>some (p + -1,q'):=by
    unfold fF bX;simp only[AK f,AL h1]<;>(cases (bB rs q).r<;>rfl)
   have o:(0:Int) < p:=by omega
   have b:(h.length:Int) < p:=by omega
   cases e:(bB rs q).r with
   | w x=>
    rw[e] at a
    rw[a]
    simp[prD,i,g,cB,eB,e,Tn.d,uF,oE,f,b,o]
   | n q'=>
    rw[e] at a
    rw[a]
    simp[prD,i,g,cB,eB,e,Tn.d,uE,oE,f,b,o]
    omega
  .obtain ⟨c,u,A,t⟩:=aFD S V f h1
   obtain ⟨j,v,k,F⟩:=aCG M S V f h1
   have C:=V.1
   have B:=V.2.1
   simp only at C B u t v k
   have a:fF rs h (p,q)=some (p+j.2,j.1):=by
    unfold fF bX;simp only[AK f,AK h1,k]
   have b:¬ (h.length:Int) < p:=by omega
   have E:dIx (.str z) (.int (p - 1))=.ok (.str ⟨#[c]⟩):=aNR m (rG (by omega) (by rw[y,<-u];congr 1;omega))
   have id:=aPT (aMG M.sg3 A)
   have D:dIx (.tuple ((bB rs q).c.map cJ)) (.int ((c - 97:Nat):Int))=.ok (cJ j):=oS (fR (by rw[AC,<-t,v];rfl))
   rw[a]
   simp[prD,i,g,cB,eB,oE,f,b,E,id,D,cJ]
def lT(xs:List Dz)(x:Dz):dIx (.list (xs++[x])) (.int (-1))=.ok x:=lJ (L2.aK9 xs x)
def stρ(rs:List Rw)(z:Str)(ps:List (Int×Int))(s:Int×Int)(u:O9 A):Sg:=[some (.d (aV rs)),some (.d (.str z)),some (.l (ps.map prD++[prD s])),some (.m (been prD ps)),u]
def aS0{rs:List Rw}{z:Str}{ps:List (Int×Int)}{s:Int×Int}{u:O9 A}(h:s∈ps):wZ (stρ rs z ps s u)=.ok false:=by
 have h1:=kJ mY ps s
 have h2:=(pP lZ).mpr h
 simp[wZ,stρ,lT,h1,h2]
def aGC{rs:List Rw}{z:Str}{ps:List (Int×Int)}{s:Int×Int}{u:O9 A}(h:s∉ps):wZ (stρ rs z ps s u)=.ok true:=by
 have h1:=kJ mY ps s
 have h2:=jH lZ h
 simp[wZ,stρ,lT,h1,h2]
def aKC(s:Int×Int):j8 (prD s)=false:=id rfl
def aPX{rs:List Rw}{sg:Nat}{z:Str}(M:Mach rs sg)(S:bA sg z.cps.toList){ps:List (Int×Int)}{s:Int×Int}{u:O9 A}(V:j5 rs z.cps.toList s)(h:s∉ps)(c:ps.length<=2000000)(e:fF rs z.cps.toList s=none):w4 (stρ rs z ps s u)=.ok (.rt (.d (.list ((ps++[s]).map prD)))):=by
 have h1:=kJ mY ps s
 have a:=mX lZ h
 have b:(been prD ps).length<=16777216:=by rw[kK];omega
 have f:=yL M S V
 rw[e] at f
 simp[w4,stρ,lT,h1,a,b,f,oE]
def aS1{rs:List Rw}{sg:Nat}{z:Str}(M:Mach rs sg)(S:bA sg z.cps.toList){ps:List (Int×Int)}{s s':Int×Int}{u:O9 A}(V:j5 rs z.cps.toList s)(h:s∉ps)(g:ps.length<=2000000)(e:fF rs z.cps.toList s=some s'):w4 (stρ rs z ps s u)=.ok (.nx (stρ rs z (ps++[s]) s' (some (.d (prD s'))))):=by
 have h1:=kJ mY ps s
 have a:=mX lZ h
 have c:(been prD ps).length<=16777216:=by rw[kK];omega
 have f:=yL M S V
 rw[e] at f
 have b:ps.length+1 < 16777216:=by omega
 simp[w4,stρ,lT,h1,a,c,f,oE,aKC,b]
def oF(rs:List Rw)(z:List Nat)(s:Int×Int):Prop:=j5 rs z s/\((fF rs z s=none/\∃ x,(bX rs z s).1=.w x/\cD (gH rs z) (0,0)=some x)\/((∃ s',fF rs z s=some s')/\cD (gH rs z) (0,0)=none))
def aE0{rs:List Rw}{sg:Nat}{z:Str}(M:Mach rs sg)(S:bA sg z.cps.toList):∀ (k:Nat) (ps:List (Int×Int)) (s:Int×Int) (u:O9 A),Way rs z.cps.toList ps s k->Und2 (gH rs z.cps.toList) (0,0) ps s->
  aJ (bV wZ w4) (sFz 2 (bM (vV 2))) (stρ rs z ps s u)=.ok (.rt (.d (.list ((oN rs z.cps.toList).map prD))))/\∃ ps' s',oN rs z.cps.toList=ps'++[s']/\oF rs z.cps.toList s':=by
 have i:mD rs z.cps.toList<=1002 * 1000:=Nat.mul_le_mul (by have:=S.1;omega) M.len2
 have b:∀ (k:Nat) (ps:List (Int×Int)) (s:Int×Int) (u:O9 A),Way rs z.cps.toList ps s k->Und2 (gH rs z.cps.toList) (0,0) ps s->s∈ps->aJ (bV wZ w4) (sFz 2 (bM (vV 2))) (stρ rs z ps s u)=.ok (.rt (.d (.list ((oN rs z.cps.toList).map prD))))/\∃ ps' s',oN rs z.cps.toList=ps'++[s']/\oF rs z.cps.toList s':=by
  intro k ps s u W U a
  refine ⟨?_,ps,s,(W.stop a).symm,W.here,.inr ⟨?_,U.met a⟩⟩
  .rw[bJ,eQ (aS0 a),<-W.stop a]
   simp[stρ]
  .obtain ⟨m,r⟩:=U.back s a
   cases r with
   | cons h t=>
    rcases walk_step (rs:=rs) (z:=z.cps.toList) (s:=s) with ⟨x,_,_,e⟩|⟨s',e,_⟩
    · rw [e] at h; cases h
    · exact ⟨s', e⟩
 intro k
 induction k with
 | zero=>
  intro ps s u W U
  by_cases a:s∈ps
  .exact b 0 ps s u W U a
  .obtain ⟨j,g⟩:=W.more a;omega
 | succ k ih=>
  intro ps s u W U
  by_cases a:s∈ps
  .exact b _ ps s u W U a
  .have f:ps.length<=2000000:=by have:=W.num;omega
   rcases walk_step (rs:=rs) (z:=z.cps.toList) (s:=s) with ⟨x,e,e2,c⟩|⟨s',e,c⟩
   .refine ⟨?_,ps,s,(W.ends a e).symm,W.here,.inl ⟨e,x,e2,U.outs c⟩⟩
    rw[bJ,kI (aGC a) (aPX M S W.here a f e),<-W.ends a e];rfl
   .have:=ih (ps++[s]) s' (some (.d (prD s'))) (W.next M S a e) (U.next a c)
    rw[bJ] at this ⊢
    rw[hJ (aGC a) (aS1 M S W.here a f e)]
    exact this
def aDQ{rs:List Rw}{sg:Nat}{z:Str}(M:Mach rs sg)(S:bA sg z.cps.toList):jZ [.d (aV rs),.d (.str z)]=.ok (.d (.list ((oN rs z.cps.toList).map prD)))/\∃ ps' s',oN rs z.cps.toList=ps'++[s']/\oF rs z.cps.toList s':=by
 have h:=aE0 M S (mD rs z.cps.toList) [] (0,0) none (Way.start M) Und2.start
 refine ⟨?_,h.2⟩
 unfold jZ
 rw[oC]
 simp only[jC,bJ,lP,mV,iC,z0,jN,fZ,R.bind_ok,BB,BD,Nat.reduceAdd,Nat.reduceLeDiff,CD,AY,BS,BZ,B7,List.replicate,BC,BG,pO]
 have e:=h.1
 rw[bJ] at e
 simp only[stρ,BS,B7,been,prD] at e
 rw[e];rfl
def eD(rs:List Rw)(z:List Nat):Str:=(cD (gH rs z) (0,0)).getD "ever"
def aDR{rs:List Rw}{sg:Nat}{z:Str}(M:Mach rs sg)(S:bA sg z.cps.toList):eS [.d (aV rs),.d (.str z)]=.ok (.d (.str (eD rs z.cps.toList))):=by
 obtain ⟨h,ps,s,e,V,q⟩:=aDQ M S
 have f:=yL M S V
 rw[e,BJ,AY,BS] at h
 have g:=rJ V.2.2.1 V.2.2.2
 unfold eS qQ eD
 obtain ⟨p,r⟩:=s
 rcases q with ⟨i,x,a,j⟩|⟨⟨s',i⟩,j⟩
 .rw[i] at f
  rw[j]
  have b:(if 0 < p then (bB rs r).r else (bB rs r).l)=.w x:=by
   unfold bX at a
   simp only at a
   by_cases k:p=0
   .rw[AL k] at a;rw[AK (by omega)];exact a
   .rw[AK k] at a
    have m:=V.1
    simp only at m
    rw[AL (by omega)]
    by_cases h1:p=(z.cps.toList.length:Int)+1
    · rw [AL h1] at a; exact a
    · rw [AK h1] at a; cases a
  simp only[prD] at f g h
  by_cases c:0 < p
  .rw[AL c] at b
   simp[h,lT,prD,f,oE,g,cB,c,b,Tn.d]
  .rw[AK c] at b
   simp[h,lT,prD,f,oE,g,cB,c,b,Tn.d]
 .rw[i] at f
  rw[j]
  simp only[prD] at f g h
  simp[h,lT,prD,f,oE]
def aMH{x:Dz}(hx:SeqAt.shaped x=true)(h:∀ i,x≠.str i\/True):inD x (.tuple [.str "by",.str "out"])=some (PyData.eqv (.str "by") x || (PyData.eqv (.str "out") x || false)):=by
 have a:SeqAt.shaped (.tuple [.str "by",.str "out"])=true:=by decide +kernel
 cases x<;>simp[inD,hx,a]
def aDS(x y:Str):PyData.eqv (.str x) (.str y)=(x == y):=by rw[PyData.eqv.eq_6]
def aHQ{x:Str}(h:x="by"\/x="out"):dIn (.str x) (.tuple [.str "by",.str "out"])=.ok (.bool true):=by
 have h2:SeqAt.shaped (.str x)=true:=by rcases h with rfl|rfl<;>decide +kernel
 unfold dIn
 rw[aMH h2 fun _=>.inr trivial,aDS,aDS]
 rcases h with rfl|rfl<;>rfl
end Mc
namespace Mc
open L2 PyProof.Rows
section
variable{S T O Q:Type}
structure Gates(st:S->Option (S⊕O))(sub:S->Option (S⊕Q))(ext:Q->T⊕O)(g:T->S)(ent:T->S⊕O)(Dom:S->Prop)(TV:T->Prop):Prop where
 step:∀ s,Dom s->(∃ s',sub s=some (.inl s')/\st s=some (.inl s')/\Dom s')\/(∃ e t,sub s=some (.inr e)/\ext e=.inl t/\st s=some (.inl (g t))/\TV t)\/∃ e o,sub s=some (.inr e)/\ext e=.inr o/\st s=some (.inr o)
 gate:∀ t,TV t->(∃ s,ent t=.inl s/\st (g t)=some (.inl s)/\Dom s)\/∃ o,ent t=.inr o/\st (g t)=some (.inr o)
def gst(sub:S->O9 (S⊕Q))(ext:Q->T⊕O)(ent:T->S⊕O)(ev:O)(t:T):O9 (T⊕O):=match ent t with
 | .inr o=>some (.inr o)
 | .inl s=>match cD sub s with
  | none=>some (.inr ev)
  | some e=>some (ext e)
variable{st:S->O9 (S⊕O)}{sub:S->O9 (S⊕Q)}{ext:Q->T⊕O}{g:T->S}{ent:T->S⊕O}{Dom:S->Prop}{TV:T->Prop}
def jP{st:S->O9 (S⊕O)}{s:S}{o:O}{n:Nat}(h:Ex st n s o):cD st s=some o:=((nK st s) o).mpr ⟨n,h⟩
def iE{st:S->O9 (S⊕O)}{s:S}{o:O}(h:cD st s=some o):∃ n,Ex st n s o:=((nK st s) o).mp h
def Gates.in1(G:Gates st sub ext g ent Dom TV){k:Nat}{s:S}{e:Q}(d:Dom s)(h:Ex sub k s e):(∀ t,ext e=.inl t->Rc st (k+1) s (g t)/\TV t)/\∀ o,ext e=.inr o->Ex st k s o:=by
 induction h with
 | out h=>
  rcases G.step _ d with ⟨s',a,_⟩|⟨i,t,a,b,c,l⟩|⟨i,o,a,b,c⟩
  .rw[h] at a;cases a
  .rw[h] at a;cases a
   exact ⟨fun f z=>by rw[b] at z;cases z;exact ⟨.cons c .nil,l⟩,fun o z=>by rw[b] at z;cases z⟩
  .rw[h] at a;cases a
   exact ⟨fun f z=>(by rw[b] at z;cases z),fun o' z=>by rw[b] at z;cases z;exact .out c⟩
 | go h t ih=>
  rcases G.step _ d with ⟨s',a,b,c⟩|⟨i,t,a,b,c,l⟩|⟨i,o,a,b,c⟩
  .rw[h] at a;cases a
   obtain ⟨j,m⟩:=ih c
   exact ⟨fun f z=>⟨.cons b (j f z).1,(j f z).2⟩,fun o z=>.go b (m o z)⟩
  .rw[h] at a;cases a
  .rw[h] at a;cases a
def Gates.in2(G:Gates st sub ext g ent Dom TV){n:Nat}{s:S}{o:O}(d:Dom s)(h:Ex st n s o):∃ k e,Ex sub k s e/\((∃ t n',ext e=.inl t/\TV t/\n' < n/\Ex st n' (g t) o)\/ext e=.inr o):=by
 induction h with
 | out h=>
  rcases G.step _ d with ⟨s',a,b,_⟩|⟨f,t,a,b,c,i⟩|⟨f,o',a,b,c⟩
  .rw[h] at b;cases b
  .rw[h] at c;cases c
  .rw[h] at c;cases c
   exact ⟨0,f,.out a,.inr b⟩
 | go h t ih=>
  rcases G.step _ d with ⟨s',a,b,c⟩|⟨f,j,a,b,c,i⟩|⟨f,o',a,b,c⟩
  .rw[h] at b;cases b
   obtain ⟨k,e,q,r⟩:=ih c
   refine ⟨k+1,e,.go a q,r.imp ?_ id⟩
   rintro ⟨t,n',x1,x2,x3,x4⟩
   exact ⟨t,n',x1,x2,by omega,x4⟩
  .rw[h] at c;cases c
   exact ⟨0,f,.out a,.inl ⟨j,_,b,i,by omega,t⟩⟩
  .rw[h] at c;cases c
def Gates.fwd(G:Gates st sub ext g ent Dom TV)(f:O):∀ (n:Nat) {t:T} {o:O},TV t->Ex st n (g t) o->∃ m,Ex (gst sub ext ent f) m t o:=by
 intro n
 induction n using Nat.strongRecOn with
 | ind n ih=>
  intro t o l h
  rcases G.gate t l with ⟨s,a,b,c⟩|⟨o',a,b⟩
  .cases h with
   | out h=>rw[b] at h;cases h
   | go h q=>
    rw[b] at h;cases h
    obtain ⟨k,e,x,y⟩:=G.in2 c q
    have d:=jP x
    rcases y with ⟨v,i,r,u,w,j⟩|y
    .obtain ⟨m,p⟩:=ih i (by omega) u j
     exact ⟨m+1,.go (by unfold gst;rw[a];simp only;rw[d];simp only;rw[r]) p⟩
    .exact ⟨0,.out (by unfold gst;rw[a];simp only;rw[d];simp only;rw[y])⟩
  .cases h with
   | out h=>rw[b] at h;cases h;exact ⟨0,.out (by unfold gst;rw[a])⟩
   | go h q=>rw[b] at h;cases h
def Gates.bwd(G:Gates st sub ext g ent Dom TV){i:O}{m:Nat}{t:T}{o:O}(h:Ex (gst sub ext ent i) m t o)(f:TV t):o=i\/∃ n,Ex st n (g t) o:=by
 induction h with
 | @out t o h=>
  rcases G.gate t f with ⟨s,a,b,c⟩|⟨o',a,b⟩
  .unfold gst at h
   rw[a] at h
   simp only at h
   cases e:cD sub s with
   | none=>rw[e] at h;cases h;exact .inl rfl
   | some x=>
    rw[e] at h
    have h':ext x=.inr o:=BL h
    obtain ⟨k,d⟩:=iE e
    exact .inr ⟨k+1,.go b ((G.in1 c d).2 o h')⟩
  .unfold gst at h
   rw[a] at h
   cases h
   exact .inr ⟨0,.out b⟩
 | @go t t' o n h q ih=>
  rcases G.gate t f with ⟨s,a,b,c⟩|⟨o',a,b⟩
  .unfold gst at h
   rw[a] at h
   simp only at h
   cases e:cD sub s with
   | none=>rw[e] at h;cases h
   | some x=>
    rw[e] at h
    have h':ext x=.inl t':=BL h
    obtain ⟨k,d⟩:=iE e
    obtain ⟨r1,r2⟩:=(G.in1 c d).1 t' h'
    rcases ih r2 with z|⟨j,z⟩
    · exact .inl z
    · exact .inr ⟨j + (k + 1) + 1, .go b (r1.to z)⟩
  .unfold gst at h
   rw[a] at h
   cases h
def Gates.eq(G:Gates st sub ext g ent Dom TV)(a:O){t:T}(c:TV t):(cD st (g t)).getD a=(cD (gst sub ext ent a) t).getD a:=by
 cases e:cD st (g t) with
 | some o=>
  obtain ⟨n,h⟩:=iE e
  obtain ⟨m,b⟩:=G.fwd a n c h
  rw[jP b]
 | none=>
  cases e2:cD (gst sub ext ent a) t with
  | none=>rfl
  | some o=>
   obtain ⟨m,b⟩:=iE e2
   rcases G.bwd b c with z|⟨n,z⟩
   · rw [z]; rfl
   · rw [jP z] at e; cases e
theorem Gates.inn(G:Gates st sub ext g ent Dom TV)(a:O){s:S}(d:Dom s):(cD st s).getD a=match cD sub s with
  | none=>a
  | some e=>match ext e with
   | .inr o=>o
   | .inl t=>(cD (gst sub ext ent a) t).getD a:=by
 cases e:cD sub s with
 | none=>
  cases e2:cD st s with
  | none=>rfl
  | some o=>
   obtain ⟨n,h⟩:=iE e2
   obtain ⟨k,x,i,_⟩:=G.in2 d h
   rw[jP i] at e;cases e
 | some x=>
  obtain ⟨k,j⟩:=iE e
  obtain ⟨b,c⟩:=G.in1 d j
  simp only
  cases q:ext x with
  | inr o=>simp only;rw[jP (c o q)];rfl
  | inl t=>
   simp only
   obtain ⟨r1,r2⟩:=b t q
   rw[<-G.eq a r2]
   cases e2:cD st (g t) with
   | some o=>
    obtain ⟨n,h⟩:=iE e2
    rw[jP (r1.to h)]
   | none=>
    cases f:cD st s with
    | none=>rfl
    | some o=>
     obtain ⟨n,h⟩:=iE f
     obtain ⟨l,_,z⟩:=r1.ex h
     rw[jP z] at e2;cases e2
end
def everW:Str:="ever"
def cU(rs:List Rw)(z:List Nat)(s:Int×Int):O9 ((Int×Int)⊕Tn):=
 match (bX rs z s).1 with
 | .w x=>some (.inr (.w x))
 | .n q=>if s.1+(bX rs z s).2<=(z.length:Int) then some (.inl (s.1+(bX rs z s).2,q)) else some (.inr (.n q))
def mJ(rs:List Rw)(z:List Nat)(s:Int×Int):Prop:=0<=s.1/\s.1<=(z.length:Int)/\0<=s.2/\s.2 < (rs.length:Int)
def dO(rs:List Rw)(q:Int):Prop:=0<=q/\q < (rs.length:Int)
def mJ.valid{rs:List Rw}{z:List Nat}{s:Int×Int}(h:mJ rs z s):j5 rs z s:=⟨h.1,by have:=h.2.1;omega,h.2.2⟩
def eF(rs:List Rw)(z:List Nat)(s:Int×Int):Tn:=(cD (cU rs z) s).getD (.w everW)
def eU(rs:List Rw)(z:List Nat)(q:Int):Tn:=eF rs z ((z.length:Int),q)
def aKD{rs:List Rw}{z:List Nat}{c:Nat}{s:Int×Int}(h0:0<=s.1)(h:s.1<=(z.length:Int)):bX rs (z++[c]) s=bX rs z s:=by
 unfold bX
 by_cases h1:s.1=0
 .rw[AL h1,AL h1]
 .rw[AK h1,AK h1,AK (by rw[A5,B5];omega),AK (by omega)]
  have e:(z++[c]).getD (s.1.toNat - 1) 97=z.getD (s.1.toNat - 1) 97:=by
   rw[AG,AG,B1 (by omega)]
  rw[e]
def beg_cell{rs:List Rw}{sg:Nat}{z:List Nat}{s:Int×Int}(M:Mach rs sg)(S:bA sg z)(V:mJ rs z s):(∃ x,(bX rs z s).1=.w x/\s.1=0)\/∃ q,(bX rs z s).1=.n q/\dO rs q/\0<=s.1+(bX rs z s).2/\s.1+(bX rs z s).2<=(z.length:Int)+1:=by
 cases e:(bX rs z s).1 with
 | w x=>
  refine .inl ⟨x,rfl,?_⟩
  by_cases b:s.1=0
  .exact b
  .unfold bX at e
   rw[AK b,AK (by have:=V.2.1;omega)] at e
   cases e
 | n q=>
  have a:j5 rs z (s.1+(bX rs z s).2,q):=xR M S V.valid (by unfold fF;rw[e])
  exact .inr ⟨q,rfl,⟨a.2.2.1,a.2.2.2⟩,a.1,a.2.1⟩
def aS2(e:Tn):Int⊕Tn:=match e with
 | .n q=>.inl q
 | .w x=>.inr (.w x)
def aS3(e:Tn):Int⊕Str:=match e with
 | .n q=>.inl q
 | .w x=>.inr x
def aDT(rs:List Rw)(z:List Nat)(c:Nat)(q:Int):(Int×Int)⊕Tn:=
 if ((bB rs q).c.getD (c - 97) (0,0)).2=1 then .inr (.n ((bB rs q).c.getD (c - 97) (0,0)).1) else .inl ((z.length:Int),((bB rs q).c.getD (c - 97) (0,0)).1)
def aBH{rs:List Rw}{z:List Nat}{c:Nat}{q:Int}:bX rs (z++[c]) ((z.length:Int)+1,q)=(.n ((bB rs q).c.getD (c - 97) (0,0)).1,((bB rs q).c.getD (c - 97) (0,0)).2):=by
 unfold bX
 have e:(z++[c]).getD (((z.length:Int)+1).toNat - 1) 97=c:=by
  rw[show ((z.length:Int)+1).toNat - 1=z.length by omega,AG,CF (AU _)];simp
 rw[AK (show ¬ (z.length:Int)+1=0 by omega),AK (by simp only[A5,B5];omega)]
 simp only
 rw[e]
def aBI{rs:List Rw}{sg:Nat}{z:List Nat}{c:Nat}(M:Mach rs sg)(S:bA sg z)(i:cF sg c=true):Gates (cU rs (z++[c])) (cU rs z) aS2 (fun q=>((z.length:Int)+1,q)) (aDT rs z c) (mJ rs z) (dO rs) where
 step:=fun s V=>by
  have f:=aKD (rs:=rs) (c:=c) V.1 V.2.1
  have b:((z++[c]).length:Int)=(z.length:Int)+1:=by rw[A5,B5];omega
  rcases beg_cell M S V with ⟨x,e,m⟩|⟨q,e,d,h1,h2⟩
  .refine .inr (.inr ⟨.w x,.w x,?_,rfl,?_⟩)
   .unfold cU;rw[e]
   .unfold cU;rw[f,e]
  .by_cases g:s.1+(bX rs z s).2<=(z.length:Int)
   .refine .inl ⟨(s.1+(bX rs z s).2,q),?_,?_,h1,g,d⟩
    · unfold cU; rw [e]; simp only; rw [AL g]
    · unfold cU; rw [f, e]; simp only; rw [AL (by rw [b]; omega)]
   .refine .inr (.inl ⟨.n q,q,?_,rfl,?_,d⟩)
    · unfold cU; rw [e]; simp only; rw [AK g]
    · unfold cU; rw [f, e]; simp only; rw [AL (by rw [b]; omega), show s.1 + (bX rs z s).2 = (z.length : Int) + 1 by omega]
 gate:=fun q d=>by
  have b:((z++[c]).length:Int)=(z.length:Int)+1:=by rw[A5,B5];omega
  have l:=AM (eP d.1 d.2)
  obtain ⟨_,h⟩:=rC M l (show c - 97 < sg by have:=BF i;omega)
  obtain ⟨k,j,a⟩:=h
  rcases a with a|a
  .refine .inr ⟨.n _,by unfold aDT;rw[AL a],?_⟩
   unfold cU;rw[aBH];simp only;rw[AK (by rw[b,a];omega)]
  .refine .inl ⟨((z.length:Int),((bB rs q).c.getD (c - 97) (0,0)).1),by unfold aDT;rw[AK (by rw[a];decide)],?_,?_⟩
   .unfold cU;rw[aBH];simp only;rw[AL (by rw[b,a];omega),a,show (z.length:Int)+1 + -1=z.length by omega]
   .exact ⟨by show (0:Int)<=z.length;omega,DJ _,k,j⟩
def gI(rs:List Rw)(bk:Int->Tn)(c:Nat)(q:Int):O9 (Int⊕Tn):=
 if ((bB rs q).c.getD (c - 97) (0,0)).2=1 then some (.inr (.n ((bB rs q).c.getD (c - 97) (0,0)).1)) else match bk ((bB rs q).c.getD (c - 97) (0,0)).1 with
  | .n r=>some (.inl r)
  | .w x=>some (.inr (.w x))
def onR(rs:List Rw)(bk:Int->Tn)(c:Nat)(t:Tn):Tn:=match t with
 | .w x=>.w x
 | .n q=>(cD (gI rs bk c) q).getD (.w everW)
def aKE{rs:List Rw}{z:List Nat}{c:Nat}:gst (cU rs z) aS2 (aDT rs z c) (.w everW)=gI rs (eU rs z) c:=by
 funext q
 unfold gst aDT gI eU eF
 by_cases h:((bB rs q).c.getD (c - 97) (0,0)).2=1
 .rw[AL h,AL h]
 .rw[AK h,AK h]
  simp only
  cases cD (cU rs z) ((z.length:Int),((bB rs q).c.getD (c - 97) (0,0)).1) with
  | none=>rfl
  | some e=>cases e<;>rfl
def uG{rs:List Rw}{sg:Nat}{z:List Nat}{c:Nat}(M:Mach rs sg)(S:bA sg z)(b:cF sg c=true){q:Int}(a:dO rs q):eU rs (z++[c]) q=onR rs (eU rs z) c (.n q):=by
 have h:=(aBI M S b).eq (.w everW) a
 rw[aKE] at h
 unfold eU eF onR
 rw[show ((z++[c]).length:Int)=(z.length:Int)+1 by rw[A5,B5];omega]
 exact h
def qS{rs:List Rw}{sg:Nat}(M:Mach rs sg)(z:List Nat):mJ rs z (0,0):=⟨DJ _,by show (0:Int)<=z.length;omega,DJ _,by have:=M.len;show (0:Int) < rs.length;omega⟩
def aBJ{rs:List Rw}{sg:Nat}{z:List Nat}{c:Nat}(M:Mach rs sg)(S:bA sg z)(a:cF sg c=true):eF rs (z++[c]) (0,0)=onR rs (eU rs z) c (eF rs z (0,0)):=by
 have h:=(aBI M S a).inn (.w everW) (qS M z)
 rw[aKE] at h
 unfold eF
 rw[h]
 cases cD (cU rs z) (0,0) with
 | none=>rfl
 | some e=>cases e<;>rfl
def f8(rs:List Rw)(bk:Int->Tn)(q:Int):O9 (Int⊕Str):=match (bB rs q).r with
 | .w x=>some (.inr x)
 | .n q'=>match bk q' with
  | .n r=>some (.inl r)
  | .w x=>some (.inr x)
def wbR(rs:List Rw)(bk:Int->Tn)(t:Tn):Str:=match t with
 | .w x=>x
 | .n q=>(cD (f8 rs bk) q).getD everW
def aDU(rs:List Rw)(z:List Nat)(q:Int):(Int×Int)⊕Str:=match (bB rs q).r with
 | .w x=>.inr x
 | .n q'=>.inl ((z.length:Int),q')
def aBK{rs:List Rw}{z:List Nat}{q:Int}:bX rs z ((z.length:Int)+1,q)=((bB rs q).r,-1):=by
 unfold bX
 rw[AK (show ¬ (z.length:Int)+1=0 by omega),AL rfl]
def aHR{rs:List Rw}{sg:Nat}{z:List Nat}(M:Mach rs sg)(S:bA sg z):Gates (gH rs z) (cU rs z) aS3 (fun q=>((z.length:Int)+1,q)) (aDU rs z) (mJ rs z) (dO rs) where
 step:=fun s V=>by
  rcases beg_cell M S V with ⟨x,e,f⟩|⟨q,e,a,h1,h2⟩
  .refine .inr (.inr ⟨.w x,x,?_,rfl,?_⟩)
   .unfold cU;rw[e]
   .unfold gH;rw[e]
  .by_cases b:s.1+(bX rs z s).2<=(z.length:Int)
   .refine .inl ⟨(s.1+(bX rs z s).2,q),?_,?_,h1,b,a⟩
    · unfold cU; rw [e]; simp only; rw [AL b]
    · unfold gH; rw [e]
   .refine .inr (.inl ⟨.n q,q,?_,rfl,?_,a⟩)
    · unfold cU; rw [e]; simp only; rw [AK b]
    · unfold gH; rw [e]; simp only; rw [show s.1 + (bX rs z s).2 = (z.length : Int) + 1 by omega]
 gate:=fun q a=>by
  have d:=AM (eP a.1 a.2)
  have c:=(M.row _ d).1.2.1
  cases e:(bB rs q).r with
  | w x=>exact .inr ⟨x,by unfold aDU;rw[e],by unfold gH;rw[aBK];simp only;rw[e]⟩
  | n q'=>
   rw[e] at c
   refine .inl ⟨((z.length:Int),q'),by unfold aDU;rw[e],?_,⟨by show (0:Int)<=z.length;omega,DJ _,c.1,c.2⟩⟩
   unfold gH;rw[aBK];simp only;rw[e];simp only;rw[show (z.length:Int)+1 + -1=z.length by omega]
def aS4{rs:List Rw}{z:List Nat}:gst (cU rs z) aS3 (aDU rs z) everW=f8 rs (eU rs z):=by
 funext q
 unfold gst aDU f8 eU eF
 cases (bB rs q).r with
 | w x=>rfl
 | n q'=>
  simp only
  cases cD (cU rs z) ((z.length:Int),q') with
  | none=>rfl
  | some e=>cases e<;>rfl
def aDV{rs:List Rw}{sg:Nat}{z:List Nat}(M:Mach rs sg)(S:bA sg z):(cD (gH rs z) (0,0)).getD everW=wbR rs (eU rs z) (eF rs z (0,0)):=by
 have h:=(aHR M S).inn everW (qS M z)
 rw[aS4] at h
 rw[h]
 unfold eF wbR
 cases cD (cU rs z) (0,0) with
 | none=>rfl
 | some e=>cases e<;>rfl
def z8{rs:List Rw}{q:Int}:eF rs [] (0,q)=(bB rs q).l:=by
 have a:bX rs [] (0,q)=((bB rs q).l,1):=by unfold bX;rw[AL rfl]
 unfold eF
 cases e:(bB rs q).l with
 | w x=>rw[pX (o:=.w x) (by unfold cU;rw[a,e])];rfl
 | n q'=>
  rw[pX (o:=.n q') (by unfold cU;rw[a,e];simp only;rw[AK (by decide)])];rfl
end Mc
namespace Mc
open L2 PyProof.Rows Fl
def jF(f:Tn)(bk:List Tn):Dz:=.tuple [f.d,.tuple (bk.map Tn.d)]
def bkF(bk:List Tn)(q:Int):Tn:=bk.getD q.toNat (.w everW)
def tnV(m:Nat):Tn->Prop
 | .n i=>0<=i/\i < (m:Int)
 | .w _=>True
def kY(a b:Int)(h:PyData.int a=PyData.int b):a=b:=by injection h
def kZ(ps:List Int)(q:Int):cK (.int q) ((been PyData.int ps).map (·.1))=true:=by
 unfold cK
 rw[uC,DR]
 refine .inr ?_
 rw[show pG (.int q)=true from rfl,FX,BY]
 intro x a
 obtain ⟨i,_,rfl⟩:=AN.mp a
 rfl
def z9(i:Int):g9 [.d (.int i)]=.ok (.d (.bool false)):=by
 unfold g9 qB
 simp[uE]
def aAA(x:Str):g9 [.d (.str x)]=.ok (.d (.bool true)):=by
 unfold g9 qB
 simp[uF]
def iF(rs:List Rw)(k:Nat):Dz:=.list (rs.map fun r=>cJ (ck k r))
def aDW{rs:List Rw}{k:Nat}{q:Int}(h0:0<=q)(h1:q < (rs.length:Int)):dIx (iF rs k) (.int q)=.ok (cJ (ck k (bB rs q))):=lJ (rG h0 (by rw[AC,eP h0 h1];rfl))
def aNU{bk:List Tn}{q:Int}(h0:0<=q)(h1:q < (bk.length:Int)):dIx (.tuple (bk.map Tn.d)) (.int q)=.ok (bkF bk q).d:=by
 refine oS (rG h0 ?_)
 have a:q.toNat < bk.length:=by omega
 rw[AC,AD a]
 unfold bkF
 rw[AG,AD a];rfl
def vI{m:Nat}{bk:List Tn}(a:∀ t∈bk,tnV m t)(q:Int):tnV m (bkF bk q):=by
 unfold bkF
 rw[AG]
 cases e:bk[q.toNat]? with
 | none=>exact trivial
 | some t=>exact a t (AM e)
def oρ(rs:List Rw)(bk:List Tn)(k:Nat)(t:Tn)(ps:List Int)(u:O9 A):Sg:=[some (.d (.tuple (bk.map Tn.d))),some (.d (iF rs k)),some (.d t.d),some (.m (been PyData.int ps)),u]
def aS5{rs:List Rw}{bk:List Tn}{k:Nat}{x:Str}{ps:List Int}{u:O9 A}:oT (oρ rs bk k (.w x) ps u)=.ok false:=by
 simp[oT,oρ,Tn.d,aAA]
def aMI{rs:List Rw}{bk:List Tn}{k:Nat}{q:Int}{ps:List Int}{u:O9 A}:oT (oρ rs bk k (.n q) ps u)=.ok true:=by
 simp[oT,oρ,Tn.d,z9]
def aS6{rs:List Rw}{bk:List Tn}{k:Nat}{q:Int}{ps:List Int}{u:O9 A}(h:q∈ps):oB (oρ rs bk k (.n q) ps u)=.ok (.rt (.d (.str "ever"))):=by
 have h1:=kZ ps q
 have h2:=(pP kY).mpr h
 simp[oB,oρ,Tn.d,h1,h2]
def aS7{rs:List Rw}{bk:List Tn}{k:Nat}{q:Int}{ps:List Int}{u:O9 A}(h:q∉ps)(a:dO rs q)(c:ps.length<=16777216)(b:(ck k (bB rs q)).2=1):oB (oρ rs bk k (.n q) ps u)=.ok (.rt (.d (.int (ck k (bB rs q)).1))):=by
 have h1:=kZ ps q
 have h2:=jH kY h
 have e:(been PyData.int ps).length<=16777216:=by rw[kK];exact c
 have hi:=aDW (k:=k) a.1 a.2
 simp[oB,oρ,Tn.d,h1,h2,e,hi,cJ,eB,b]
def aUT{rs:List Rw}{bk:List Tn}{k:Nat}{q:Int}{ps:List Int}{u:O9 A}(h:q∉ps)(a:dO rs q)(e:ps.length<=16777216)(i:(ck k (bB rs q)).2≠1)(h0:0<=(ck k (bB rs q)).1)(b:(ck k (bB rs q)).1 < (bk.length:Int)):oB (oρ rs bk k (.n q) ps u)=.ok (.nx (oρ rs bk k (bkF bk (ck k (bB rs q)).1) (ps++[q]) (some (.d (cJ (ck k (bB rs q))))))):=by
 have h1:=kZ ps q
 have h2:=jH kY h
 have c:=mX kY h
 have f:(been PyData.int ps).length<=16777216:=by rw[kK];exact e
 have hi:=aDW (k:=k) a.1 a.2
 have g:=aNU h0 b
 simp[oB,oρ,Tn.d,h1,h2,c,f,hi,cJ,eB,i,g]
def vJ{m:Nat}{l:List Int}(d:l.Nodup)(c:∀ q∈l,0<=q/\q < (m:Int)):l.length<=m:=
 pW (fun q:Int=>q.toNat) m l d (fun q g=>by have:=c q g;show q.toNat < m;omega) (fun a f b h e=>by
  have h1:=c a f
  have h2:=c b h
  have i:a.toNat=b.toNat:=e
  omega)
theorem aAB{rs:List Rw}{bk:Int->Tn}{c:Nat}{q:Int}:gI rs bk c q=if (ck (c - 97) (bB rs q)).2=1 then some (.inr (.n (ck (c - 97) (bB rs q)).1)) else match bk (ck (c - 97) (bB rs q)).1 with
 | .n r=>some (.inl r)
 | .w x=>some (.inr (.w x)):=id rfl
def aPY{rs:List Rw}{sg c:Nat}{bk:List Tn}(M:Mach rs sg)(l:cF sg c=true)(s:bk.length=rs.length)(k:∀ t∈bk,tnV rs.length t){i:Int}:∀ (n:Nat) (ps:List Int) (q:Int) (u:O9 A),Und2 (gI rs (bkF bk) c) i ps q->(∀ p∈ps,dO rs p)->dO rs q->rs.length+1<=ps.length+n->
  aJ (bV oT oB) (bM (vV 2)) (oρ rs bk (c - 97) (.n q) ps u)=.ok (.rt (.d ((cD (gI rs (bkF bk) c) i).getD (.w everW)).d)):=by
 intro n
 induction n with
 | zero=>
  intro ps q u U pv a j
  have:=vJ U.nd pv
  omega
 | succ n ih=>
  intro ps q u U pv a j
  rw[bJ]
  by_cases b:q∈ps
  .rw[kI aMI (aS6 b),U.met b];rfl
  .have y:ps.length<=rs.length:=vJ U.nd pv
   have f:ps.length<=16777216:=by have:=M.len2;omega
   have v:=AM (eP a.1 a.2)
   obtain ⟨_,g⟩:=rC M v (show c - 97 < sg by have:=BF l;omega)
   have g:pE rs.length (ck (c - 97) (bB rs q)):=g
   obtain ⟨o,m,B⟩:=g
   by_cases h1:(ck (c - 97) (bB rs q)).2=1
   .have st:gI rs (bkF bk) c q=some (.inr (.n (ck (c - 97) (bB rs q)).1)):=by unfold gI;exact AL h1
    rw[kI aMI (aS7 b a f h1),U.outs st];rfl
   .rw[hJ aMI (aUT b a f h1 o (by rw[s];exact m))]
    have h:=vI k (ck (c - 97) (bB rs q)).1
    cases e:bkF bk (ck (c - 97) (bB rs q)).1 with
    | w x=>
     have st:gI rs (bkF bk) c q=some (.inr (.w x)):=by rw[aAB,AK h1,e]
     rw[eQ aS5,U.outs st]
     simp[oρ,Tn.d]
    | n r=>
     rw[e] at h
     have st:gI rs (bkF bk) c q=some (.inl r):=by rw[aAB,AK h1,e]
     have:=ih (ps++[q]) r (some (.d (cJ (ck (c - 97) (bB rs q))))) (U.next b st) (fun p f=>by
      rcases BK.mp f with z|z
      · exact pv p z
      · rw [AQ.mp z]; exact a) h (by rw [A5, B5]; omega)
     rw[bJ] at this
     exact this
def aS8{rs:List Rw}{sg c:Nat}{bk:List Tn}(M:Mach rs sg)(e:cF sg c=true)(b:bk.length=rs.length)(g:∀ t∈bk,tnV rs.length t){t:Tn}(a:tnV rs.length t):kG [.d (.tuple (bk.map Tn.d)),.d (iF rs (c - 97)),.d t.d]=.ok (.d (onR rs (bkF bk) c t).d):=by
 have key:aJ (bV oT oB) (bM (vV 2)) (oρ rs bk (c - 97) t [] none)=.ok (.rt (.d (onR rs (bkF bk) c t).d)):=by
  cases t with
  | w x=>
   rw[bJ,eQ aS5]
   simp[oρ,Tn.d,onR]
  | n q=>exact aPY M e b g (rs.length+1) [] q none Und2.start (fun p f=>by simp at f) a (by simp)
 unfold kG
 rw[uA]
 simp only[jC,bJ,pO,R.bind_ok,BB,BD,Nat.reduceAdd,AY,BS,BZ,B7,List.replicate,BC,BG]
 rw[bJ] at key
 simp only[oρ,been,BS] at key
 rw[key];rfl
def aUU{rs:List Rw}{sg c:Nat}{bk:List Tn}(M:Mach rs sg)(f:cF sg c=true)(b:bk.length=rs.length)(a:∀ t∈bk,tnV rs.length t){t:Tn}(j:tnV rs.length t) :
  jL [.d (jF t bk),.d (iF rs (c - 97))]=.ok (.d (jF (onR rs (bkF bk) c t) ((List.range rs.length).map fun q:Nat=>onR rs (bkF bk) c (.n (q:Int))))):=by
 have h:=cY (fs:=stN 0) (fe:=eA (aZ 3 kG (aB (vD (e2 dIx (rV 1) (eC (.int 1)))) (aB (vV 2) (aB (vV 0) aM))))) (ρ0:=[none,some (.d (jF t bk)),some (.d (iF rs (c - 97)))]) (d:=fun i:Nat=>.int (i:Int)) (g:=fun i:Nat=>(onR rs (bkF bk) c (.n (i:Int))).d) (xs:=List.range rs.length) fun i hi=>by
  refine ⟨_,rfl,?_⟩
  have:=aS8 M f b a (t:=.n (i:Int)) ⟨by omega,by have:=AZ.mp hi;omega⟩
  have e:(Tn.n (i:Int)).d=.int i:=rfl
  rw[e] at this
  simp[jF,this]
 have m:=hU (n:=rs.length) (by have:=M.len2;omega)
 have k:dLen (iF rs (c - 97))=.ok (.int rs.length):=by unfold iF;rw[jD,AB]
 have h1:=aS8 M f b a j
 have l:dIx (jF t bk) (.int 0)=.ok t.d:=yK _ _
 have h2:dIx (jF t bk) (.int 1)=.ok (.tuple (bk.map Tn.d)):=aJ6 _ _ _
 unfold jL wX
 simp[l,h2,h1,k,m,eJ,h]
 unfold jF
 rw[A6];rfl
def aQ(rs:List Rw)(z:List Nat):Dz:=jF (eF rs z (0,0)) ((List.range rs.length).map fun q:Nat=>eU rs z (q:Int))
def m8{rs:List Rw}{sg:Nat}{z:List Nat}(M:Mach rs sg)(S:bA sg z){s:Int×Int}(V:mJ rs z s):tnV rs.length (eF rs z s):=by
 unfold eF
 cases e:cD (cU rs z) s with
 | none=>exact trivial
 | some t=>
  obtain ⟨n,h⟩:=iE e
  show tnV rs.length t
  clear e
  induction h with
  | @out s o h=>
   unfold cU at h
   rcases beg_cell M S V with ⟨x,e,c⟩|⟨q,e,a,h1,h2⟩
   .rw[e] at h;cases h;exact trivial
   .rw[e] at h
    simp only at h
    split at h
    · cases h
    · cases h; exact a
  | @go s s' o n h t ih=>
   refine ih ?_
   unfold cU at h
   rcases beg_cell M S V with ⟨x,e,c⟩|⟨q,e,a,h1,h2⟩
   .rw[e] at h;cases h
   .rw[e] at h
    simp only at h
    split at h
    · rename_i b; cases h; exact ⟨h1, b, a⟩
    · cases h
def yM{rs:List Rw}{z:List Nat}{q:Nat}(h:q < rs.length):mJ rs z ((z.length:Int),(q:Int)):=⟨by show (0:Int)<=z.length;omega,DJ _,by show (0:Int)<=q;omega,by show (q:Int) < rs.length;omega⟩
def aAC{rs:List Rw}{z:List Nat}{q:Int}(a:dO rs q):bkF ((List.range rs.length).map fun q:Nat=>eU rs z (q:Int)) q=eU rs z q:=by
 have b:q.toNat < rs.length:=by have:=a.1;have:=a.2;omega
 unfold bkF
 rw[AG,AC,A9 b]
 show eU rs z ((q.toNat:Nat):Int)=_
 rw[show ((q.toNat:Nat):Int)=q by have:=a.1;omega]
def aDX{rs:List Rw}{sg c:Nat}(M:Mach rs sg)(l:cF sg c=true){bk a:Int->Tn}(h:∀ q,dO rs q->bk q=a q)(y:∀ q,dO rs q->tnV rs.length (bk q)){t:Tn}(m:tnV rs.length t):onR rs bk c t=onR rs a c t:=by
 cases t with
 | w x=>rfl
 | n q=>
  have st:∀ q,dO rs q->gI rs bk c q=gI rs a c q:=fun q b=>by
   unfold gI
   have i:=AM (eP b.1 b.2)
   obtain ⟨_,f⟩:=rC M i (show c - 97 < sg by have:=BF l;omega)
   rw[h _ ⟨f.1,f.2.1⟩]
  have k:∀ q d,dO rs q->gI rs bk c q=some (.inl d)->dO rs d:=fun q d b e=>by
   unfold gI at e
   have i:=AM (eP b.1 b.2)
   obtain ⟨_,f⟩:=rC M i (show c - 97 < sg by have:=BF l;omega)
   have j:=y _ ⟨f.1,f.2.1⟩
   split at e
   .cases e
   .split at e
    · rename_i r z; cases e; rw [z] at j; exact j
    · cases e
  have v:∀ n q o,dO rs q->Ex (gI rs bk c) n q o->Ex (gI rs a c) n q o:=by
   intro n q o b g
   induction g with
   | @out q o e=>exact .out (by rw[<-st q b];exact e)
   | @go q d o n e t ih=>exact .go (by rw[<-st q b];exact e) (ih (k q d b e))
  have u:∀ n q o,dO rs q->Ex (gI rs a c) n q o->Ex (gI rs bk c) n q o:=by
   intro n q o b g
   induction g with
   | @out q o e=>exact .out (by rw[st q b];exact e)
   | @go q d o n e t ih=>
    have p:gI rs bk c q=some (.inl d):=by rw[st q b];exact e
    exact .go p (ih (k q d b p))
  show (cD (gI rs bk c) q).getD (.w everW)=(cD (gI rs a c) q).getD (.w everW)
  rw[wE (st:=gI rs bk c) (st':=gI rs a c) (s:=q) (s':=q) fun o=>⟨fun ⟨n,x⟩=>⟨n,v n q o m x⟩,fun ⟨n,x⟩=>⟨n,u n q o m x⟩⟩]
def aDY{rs:List Rw}{sg:Nat}{z:List Nat}{c:Nat}(M:Mach rs sg)(S:bA sg z)(b:cF sg c=true):jL [.d (aQ rs z),.d (iF rs (c - 97))]=.ok (.d (aQ rs (z++[c]))):=by
 have j:((List.range rs.length).map fun q:Nat=>eU rs z (q:Int)).length=rs.length:=by simp
 have g:∀ t∈(List.range rs.length).map fun q:Nat=>eU rs z (q:Int),tnV rs.length t:=fun t h=>by
  obtain ⟨q,e,rfl⟩:=AN.mp h
  exact m8 M S (yM (AZ.mp e))
 have f:∀ q,dO rs q->tnV rs.length (bkF ((List.range rs.length).map fun q:Nat=>eU rs z (q:Int)) q):=fun q a=>vI g q
 unfold aQ
 rw[aUU M b j g (m8 M S (qS M z))]
 rw[aDX M b (fun q a=>aAC a) f (m8 M S (qS M z)),aBJ M S b]
 have i:((List.range rs.length).map fun q:Nat=>onR rs (bkF ((List.range rs.length).map fun q:Nat=>eU rs z (q:Int))) c (.n (q:Int)))=(List.range rs.length).map fun q:Nat=>eU rs (z++[c]) (q:Int):=?_
 .rw[i]
 refine BI fun q e=>?_
 have a:dO rs (q:Int):=⟨by omega,by have:=AZ.mp e;omega⟩
 rw[aDX M b (fun q a=>aAC a) f (t:=.n (q:Int)) a,uG M S b a]
def aHS{rs:List Rw}{sg:Nat}(M:Mach rs sg):a9 (aV rs)=.ok (rs.map cB):=eX (by have:=M.len2;rw[AB];omega)
def aMJ{α:Type}(rs:List Rw)(f:Rw->α):rs.map f=(List.range rs.length).map fun q:Nat=>f (bB rs (q:Int)):=by
 apply List.ext_getElem
 .simp
 .intro i h1 h2
  have hi:i < rs.length:=by simpa using h1
  simp only[List.getElem_map,List.getElem_range]
  congr 1
  unfold bB
  rw[AG,show ((i:Int)).toNat=i by omega,AD hi];rfl
def aUV{rs:List Rw}{sg:Nat}(M:Mach rs sg):iP [.d (aV rs)]=.ok (.d (aQ rs [])):=by
 have h:=cY (fs:=stN 0) (fe:=e2 dIx (rV 0) (eC (.int 0))) (ρ0:=[none]) (d:=cB) (g:=fun r:Rw=>r.l.d) (xs:=rs) fun r _=>⟨_,rfl,by simp[cB]⟩
 have e1:aQ rs []=.tuple [(bB rs 0).l.d,.tuple (rs.map fun r=>r.l.d)]:=by
  unfold aQ jF
  rw[z8,aMJ rs,A6]
  congr 4
  refine BI fun q _=>?_
  show (eF rs [] (((([]:List Nat).length:Nat):Int),(q:Int))).d=_
  rw[show ((([]:List Nat).length:Nat):Int)=0 by rfl,z8]
 obtain ⟨r,t,a,_⟩:=M.cons
 have b:dIx (.tuple (rs.map fun r=>r.l.d)) (.int 0)=.ok (bB rs 0).l.d:=by
  subst a
  exact yK _ _
 rw[e1]
 unfold iP mH
 simp[aHS M,eJ,h,b]
def aS9{rs:List Rw}{sg:Nat}(M:Mach rs sg)(ρ0:Sg)(h:eJ [none,some 0] ρ0=[none,some (.d (aV rs))]) :
  compL (stN 0) fH (eA (aZ 2 kW (aB (vV 1) (aB (vV 0) aM)))) (eJ [none,some 0] ρ0) ((List.range sg).map fun i:Nat=>.int (i:Int))=.ok ((List.range sg).map (iF rs)):=by
 rw[h]
 refine cY fun k a=>⟨_,rfl,?_⟩
 have:=aPS M (AZ.mp a)
 simp[this]
 rfl
def byρ(rs:List Rw)(z:Str)(s:Int×Int)(ps:List (Int×Int)):Sg:=[some (.d (aV rs)),some (.d (.str z)),some (.d (.int s.1)),some (.d (.int s.2)),some (.m (been prD ps))]
def aKF{rs:List Rw}{z:Str}(hz:z.cps.toList.length<=16777216){s:Int×Int}{ps:List (Int×Int)}:byT (byρ rs z s ps)=.ok (decide (s.1<=(z.cps.toList.length:Int))):=by
 have a:=aDL (z:=z) (by rw[m7];exact hz)
 rw[m7] at a
 simp[byT,byρ,a]
def aPZ{rs:List Rw}{z:Str}{s:Int×Int}{ps:List (Int×Int)}(h:s∈ps):byB (byρ rs z s ps)=.ok (.rt (.d (.str "ever"))):=by
 have h1:cK (.tuple [.int s.1,.int s.2]) ((been prD ps).map (·.1))=true:=kJ mY ps s
 have h2:cQ (been prD ps) (.tuple [.int s.1,.int s.2])=true:=(pP lZ).mpr h
 simp[byB,byρ,h1,h2]
def aUW{rs:List Rw}{z:Str}{q:Int}{ps:List (Int×Int)}{x:Str}(h:(0,q)∉ps)(c:ps.length<=16777216)(a:dO rs q)(e:(bB rs q).l=.w x):byB (byρ rs z (0,q) ps)=.ok (.rt (.d (.str x))):=by
 have h1:cK (.tuple [.int 0,.int q]) ((been prD ps).map (·.1))=true:=kJ mY ps (0,q)
 have h2:cQ (been prD ps) (.tuple [.int 0,.int q])=false:=jH lZ h
 have f:(been prD ps).length<=16777216:=by rw[kK];exact c
 have b:=rJ a.1 a.2
 simp[byB,byρ,h1,h2,f,eB,b,cB,e,Tn.d,uF]
def aTA{rs:List Rw}{sg:Nat}{z:Str}(M:Mach rs sg)(S:bA sg z.cps.toList){s s':Int×Int}{ps:List (Int×Int)}(h:s∉ps)(k:ps.length<=16777216)(V:mJ rs z.cps.toList s)(e:fF rs z.cps.toList s=some s'):byB (byρ rs z s ps)=.ok (.nx (byρ rs z s' (ps++[s]))):=by
 obtain ⟨p,q⟩:=s
 have h1:cK (.tuple [.int p,.int q]) ((been prD ps).map (·.1))=true:=kJ mY ps (p,q)
 have h2:cQ (been prD ps) (.tuple [.int p,.int q])=false:=jH lZ h
 have c:putM (been prD ps) (.tuple [.int p,.int q]) (.bool true)=been prD (ps++[(p,q)]):=mX lZ h
 have g:(been prD ps).length<=16777216:=by rw[kK];exact k
 have m:=rJ V.2.2.1 V.2.2.2
 have f:=yL M S V.valid
 rw[e] at f
 obtain ⟨r,o⟩:=s'
 simp only[oE,prD] at f
 by_cases i:p=0
 .subst i
  have b:∃ a,(bB rs q).l=.n a:=by
   unfold fF bX at e
   rw[AL rfl] at e
   cases j:(bB rs q).l with
   | w x=>rw[j] at e;cases e
   | n a=>exact ⟨a,rfl⟩
  obtain ⟨a,b⟩:=b
  simp[byB,byρ,h1,h2,c,g,eB,m,cB,b,Tn.d,uE,f]
 .simp[byB,byρ,h1,h2,c,g,eB,i,f]
def aP0{rs:List Rw}{sg:Nat}{z:Str}(M:Mach rs sg)(S:bA sg z.cps.toList){m:Int×Int}:∀ (n:Nat) (ps:List (Int×Int)) (s:Int×Int),Und2 (cU rs z.cps.toList) m ps s->(∀ p∈ps,mJ rs z.cps.toList p)->mJ rs z.cps.toList s->mD rs z.cps.toList+1<=ps.length+n->
  aJ (bV byT byB) (bM (vV 3)) (byρ rs z s ps)=.ok (.rt (.d ((cD (cU rs z.cps.toList) m).getD (.w everW)).d)):=by
 have k:z.cps.toList.length<=16777216:=by have:=S.1;omega
 have u:mD rs z.cps.toList<=1002 * 1000:=Nat.mul_le_mul (by have:=S.1;omega) M.len2
 intro n
 induction n with
 | zero=>
  intro ps s U pv V i
  have:=rY U.nd fun st h=>(pv st h).valid
  unfold mD at i
  omega
 | succ n ih=>
  intro ps s U pv V i
  rw[bJ]
  have g:byT (byρ rs z s ps)=.ok true:=by rw[aKF k,AX V.2.1]
  by_cases a:s∈ps
  .rw[kI g (aPZ a),U.met a];rfl
  .have t:ps.length<=mD rs z.cps.toList:=rY U.nd fun st h=>(pv st h).valid
   have b:ps.length<=16777216:=by omega
   rcases beg_cell M S V with ⟨x,e,j⟩|⟨q,e,o,h1,h2⟩
   .obtain ⟨p,q⟩:=s
    simp only at j
    subst j
    have r:(bB rs q).l=.w x:=by unfold bX at e;rw[AL rfl] at e;exact e
    rw[kI g (aUW a b V.2.2 r),U.outs (show cU rs z.cps.toList (0,q)=some (.inr (.w x)) by unfold cU;rw[e])];rfl
   .have f:fF rs z.cps.toList s=some (s.1+(bX rs z.cps.toList s).2,q):=by unfold fF;rw[e]
    rw[hJ g (aTA M S a b V f)]
    by_cases c:s.1+(bX rs z.cps.toList s).2<=(z.cps.toList.length:Int)
    .have st:cU rs z.cps.toList s=some (.inl (s.1+(bX rs z.cps.toList s).2,q)):=by unfold cU;rw[e];simp only;rw[AL c]
     have:=ih (ps++[s]) (s.1+(bX rs z.cps.toList s).2,q) (U.next a st) (fun p b=>by
      rcases BK.mp b with z|z
      · exact pv p z
      · rw [AQ.mp z]; exact V) ⟨h1, c, o⟩ (by rw [A5, B5]; omega)
     rw[bJ] at this
     exact this
    .have st:cU rs z.cps.toList s=some (.inr (.n q)):=by unfold cU;rw[e];simp only;rw[AK c]
     rw[eQ (by rw[aKF k,BA c]),U.outs st]
     simp[byρ,Tn.d]
def aNV{rs:List Rw}{sg:Nat}{z:Str}(M:Mach rs sg)(S:bA sg z.cps.toList){s:Int×Int}(V:mJ rs z.cps.toList s):gS [.d (aV rs),.d (.str z),.d (.int s.1),.d (.int s.2)]=.ok (.d (eF rs z.cps.toList s).d):=by
 have key:=aP0 M S (mD rs z.cps.toList+1) [] s Und2.start (fun p a=>by simp at a) V (by simp)
 unfold gS
 rw[oD]
 simp only[jC,bJ,pO,R.bind_ok,BB,BD,Nat.reduceAdd,AY,BS,BZ,B7,List.replicate,BC,BG]
 rw[bJ] at key
 simp only[byρ,been,BS] at key
 rw[key];rfl
def aKG{rs:List Rw}{sg:Nat}{z:Str}(M:Mach rs sg)(S:bA sg z.cps.toList):eZ [.d (aV rs),.d (.str z)]=.ok (.d (aQ rs z.cps.toList)):=by
 have c:z.cps.toList.length<=16777216:=by have:=S.1;omega
 have a:=aDL (z:=z) (by rw[m7];exact c)
 rw[m7] at a
 have h:=cY (fs:=stN 0) (fe:=eA (aZ 4 gS (aB (vV 1) (aB (vV 2) (aB (vD (e1 dLen (rV 2))) (aB (vV 0) aM)))))) (ρ0:=[none,some (.d (aV rs)),some (.d (.str z))]) (d:=fun i:Nat=>.int (i:Int)) (g:=fun i:Nat=>(eU rs z.cps.toList (i:Int)).d) (xs:=List.range rs.length) fun i hi=>by
  refine ⟨_,rfl,?_⟩
  have:=aNV M S (yM (z:=z.cps.toList) (AZ.mp hi))
  simp only at this
  simp only[aHO,kH,iC,oQ,lI,jO,gP,fZ,BC,A0,A1,R.bind_ok,a,BB,BD,Nat.reduceAdd,CD,this,aDI]
  rfl
 have f:=hU (n:=rs.length) (by have:=M.len2;omega)
 have e:dLen (aV rs)=.ok (.int rs.length):=by unfold aV;rw[rF,AB]
 have b:=aNV M S (qS M z.cps.toList)
 simp only at b
 unfold eZ lS
 simp[e,f,eJ,h,b]
 unfold aQ jF
 rw[A6];rfl
def aGD{n:Int}{t:Tn}(h:t.good n):gT [.d t.d,.d (.int n)]=.ok (.d (.bool true)):=by
 cases t with
 | n q=>
  have h1:(0:Int)<=q:=h.1
  have h2:q < n:=h.2
  simp[gT,lK,Tn.d,uE,aGB,h1,h2]
 | w x=>
  have:=aHQ h
  simp[gT,lK,Tn.d,uF,this]
def rK(i j:Int):dNe (.int i) (.int j)=.ok (.bool (!decide (i=j))):=by rw[aDO (oU i) (oU j),aKA]
def aMK{d:Int}(h:d=1\/d = -1):dIn (.int d) (.tuple [.int 1,.int (-1)])=.ok (.bool true):=by
 rcases h with rfl|rfl<;>rfl
def aDZ:jK "tuple" "tuple"=true:=by decide
def aML{n:Int}{c:Int×Int}(h0:0<=c.1)(h1:c.1 < n)(h:c.2=1\/c.2 = -1):iA [.d (cJ c),.d (.int n)]=.ok (.d (.bool true)):=by
 have:=aMK h
 simp[iA,m6,cJ,aDZ,aGB,rK,h0,h1,this]
def imρ(rs:List Rw)(sg:Nat)(u:O9 A):Sg:=[some (A.d (aV rs)),some (A.d (PyData.int rs.length)),some (A.d (PyData.int sg)),u]
def aP1{rs:List Rw}{sg:Nat}(M:Mach rs sg){r:Rw}(n:r∈rs):imB (imρ rs sg (some (.d (cB r))))=.ok (.nx (imρ rs sg (some (.d (cB r))))):=by
 obtain ⟨⟨j,m,l⟩,h⟩:=M.row r n
 have i:=M.sg3
 have k:a9 (.tuple (r.c.map cJ))=.ok (r.c.map cJ):=eX (by rw[AB];omega)
 have e:=cY (fs:=stN 0) (fe:=eA (aZ 2 iA (aB (vV 0) (aB (vV 1) aM)))) (ρ0:=[none,some (.d (.int rs.length))]) (d:=cJ) (g:=fun _=>.bool true) (xs:=r.c) fun c e=>⟨_,rfl,by
  obtain ⟨a,b,d⟩:=l c e
  simp[aML a b d]⟩
 rw[List.map_const'] at e
 have f:=aPW r.c.length
 simp[imB,imρ,cB,aDZ,rK,h,aGD j,aGD m,k,eJ]
 rw[h] at e f
 simp[e,f]
def aMM{rs:List Rw}{sg:Nat}(M:Mach rs sg):gX [.d (aV rs),.d (.int (rs.length:Int)),.d (.int (sg:Int))]=.ok (.d (.bool true)):=by
 have c:gZ "tuple" (aV rs)=.ok (.bool true):=by unfold aV;rw[aSY,aDZ]
 have a:dLen (aV rs)=.ok (.int rs.length):=by unfold aV;rw[rF,AB]
 have b:a9 (aV rs)=.ok (rs.map cB):=eX (by have:=M.len2;rw[AB];omega)
 obtain ⟨f,h1,u,rfl⟩:=f6 (fs:=stN 3) (fb:=imB) (d:=cB) (xs:=rs) (ρ:=imρ rs sg none) (fun _ ρ=>∃ u,ρ=imρ rs sg u) ⟨none,rfl⟩ fun i r ρ g e=>by
  obtain ⟨u,rfl⟩:=e
  exact ⟨_,_,rfl,.inl (aP1 M (AM g)),_,rfl⟩
 unfold gX
 rw[lB]
 simp[c,a,rK,b]
 simp only[imρ] at h1
 rw[h1]
 simp
end Mc
namespace Fl
open L2 PyProof.Rows
@[simp] theorem aMN(i:Nat)(f:Sg->R (List (Dz×Dz)))(ρ:Sg):yB i f ρ=(f ρ).bind fun a6=>(i9 [] a6).bind fun res=>.ok (.nx (ρ.set i (some (.m res)))):=id rfl
@[simp] theorem aP2(ρ:Sg):aC7 ρ=.ok []:=id rfl
@[simp] theorem aMO(f g:Sg->R Dz)(r:Sg->R (List (Dz×Dz)))(ρ:Sg):yA f g r ρ=(f ρ).bind fun x=>(g ρ).bind fun y=>(r ρ).bind fun t=>.ok ((x,y)::t):=id rfl
@[simp] theorem aVA(i:Nat)(f g:Sg->R Dz)(ρ:Sg):aSG i f g ρ=match ρ[i]? with|some (some (.m a6))=>(f ρ).bind fun k=>(g ρ).bind fun y=>if cK k (a6.map (·.1))=true then .ok ((eO a6 k).getD y) else .bad|_=>.bad:=id rfl
end Fl
namespace Mc
open L2 PyProof.Rows Fl
def wordW_is{rs:List Rw}{sg:Nat}{z:List Nat}(M:Mach rs sg)(S:bA sg z):eD rs z="by"\/eD rs z="out"\/eD rs z="ever":=by
 obtain ⟨_,ps,⟨p,r⟩,_,V,q⟩:=aDQ (z:=⟨z.toArray⟩) M S
 have d:=(M.row _ (AM (eP V.2.2.1 V.2.2.2))).1
 unfold eD
 rcases q with ⟨_,x,a,b⟩|⟨_,b⟩
 .have b:cD (gH rs z) (0,0)=some x:=b
  have:x="by"\/x="out":=by
   unfold bX at a
   simp only at a
   by_cases c:p=0
   .rw[AL c] at a;have k:=d.1;rw[show (bB rs r).l=.w x from a] at k;exact k
   .rw[AK c] at a
    split at a
    · have k := d.2.1; rw [show (bB rs r).r = .w x from a] at k; exact k
    · cases a
  rw[b]
  rcases this with e|e
  .exact .inl e
  .exact .inr (.inl e)
 .have b:cD (gH rs z) (0,0)=none:=b
  rw[b];exact .inr (.inr rfl)
def sV{w:Str}(h:w="by"\/w="out"\/w="ever"):SeqAt.shaped (.str w)=true:=by rcases h with rfl|rfl|rfl<;>decide +kernel
def aNW{w:Str}(h:w="by"\/w="out"\/w="ever"):dNe (.str w) (.str w)=.ok (.bool false):=by
 rw[aDO (sV h) (sV h),aFC];rfl
def aKH{w v:Str}(h:w="by"\/w="out"\/w="ever")(h':v="by"\/v="out"\/v="ever"):dEq (.str w) (.str v)=.ok (.bool (decide (w=v))):=by
 rw[aDN (sV h) (sV h'),aDS]
 congr 2
def aD0{rs:List Rw}{sg:Nat}(M:Mach rs sg):SeqAt.shaped (aV rs)=true:=aEW fun r a=>(M.row r a).1.ok
def aUX{rs:List Rw}{sg:Nat}(M:Mach rs sg):dEq (aV rs) (aV rs)=.ok (.bool true):=by rw[aDN (aD0 M) (aD0 M),aLG]
@[simp] theorem aWM(m i:Nat)(f:Sg->R (List Dz))(ρ:Sg):aDB m i f ρ=match ρ[i]? with|some (some (.g k n G))=>(f ρ).bind fun ds=>if k<=m/\ds.length=n then G ds else .bad|_=>.bad:=id rfl
@[simp] theorem aV3(m i:Nat)(f:Sg->R (List Dz))(ρ:Sg):yC m i f ρ=match ρ[i]? with|some (some (.g k n G))=>(f ρ).bind fun ds=>if k<=m/\ds.length=n then (match G ds with | .ok d=>if vE d=true then .ok d else .bad|_=>.bad) else .bad|_=>.bad:=id rfl
def fN(fs:List Dz):List (Dz×Dz):=fs.zipIdx.map fun p=>(p.1,.int (p.2:Int))
def sW(fs:List Dz):(fN fs).map (·.1)=fs:=by
 unfold fN
 rw[A6]
 show fs.zipIdx.map Prod.fst=fs
 exact List.zipIdx_map_fst 0 fs
def vK(fs:List Dz):(fN fs).length=fs.length:=by unfold fN;rw[AB,EE]
def aD1{fs:List Dz}{x:Dz}(hx:gQ x=true)(h:∀ y∈fs,gQ y=true):cK x ((fN fs).map (·.1))=true:=by
 unfold cK
 rw[sW,hx,FX,DR,BY]
 exact .inl h
def vL{fs:List Dz}{x:Dz}:cQ (fN fs) x=true↔x∈fs:=by rw[wQ,sW]
def sX{fs:List Dz}{x:Dz}(h:x∉fs):cQ (fN fs) x=false:=by
 cases q:cQ (fN fs) x with
 | false=>rfl
 | true=>exact absurd (vL.mp q) h
def aAD{fs:List Dz}{x:Dz}(h:x∉fs):putM (fN fs) x (.int (fs.length:Int))=fN (fs++[x]):=by
 unfold putM
 rw[sX h,AK (by decide)]
 unfold fN
 rw[List.zipIdx_append,BJ]
 simp
def aP3{fs:List Dz}{x:Dz}(h:x∈fs):∃ i:Nat,eO (fN fs) x=some (.int (i:Int))/\fs[i]? = some x:=by
 unfold eO
 cases e:(fN fs).find? fun p=>decide (p.1=x) with
 | none=>
  rw[List.find?_eq_none] at e
  rw[<-sW fs,AN] at h
  obtain ⟨p,b,e2⟩:=h
  exact absurd (AX e2) (e p b)
 | some p=>
  have h1:=List.find?_some e
  have h2:=List.mem_of_find?_eq_some e
  unfold fN at h2
  obtain ⟨⟨y,i⟩,a,rfl⟩:=AN.mp h2
  refine ⟨i,rfl,?_⟩
  have h1:y=x:=BF h1
  rw[<-h1]
  exact List.mk_mem_zipIdx_iff_getElem?.mp a
structure Srch where
 after:Dz->List Dz
 x0:Dz
 good:Nat->Dz->Prop
 lim:Nat
 k1:Nat
 k2:Nat
 G:List Dz->R Dz
 D:List Dz->R Dz
structure Srch.ok(S:Srch):Prop where
 g0:S.good 0 S.x0
 gs:∀ i x,S.good i x->i<=S.lim->∀ y∈S.after x,S.good (i+1) y
 up:∀ i j x,i<=j->S.good i x->S.good j x
 few:∀ xs:List Dz,xs.Nodup->(∀ x∈xs,∃ i,S.good i x)->xs.length<=S.lim
 key:∀ i x,S.good i x->gQ x=true
 hk1:S.k1<=12
 hk2:S.k2<=12
 hG:∀ i x,i<=S.lim->S.good i x->S.G [x]=.ok (.list (S.after x))/\(S.after x).length<=16777216
 hD:∀ (fs:List Dz) (i:Int),fs.length<=S.lim->S.D [.list fs,.int i]=.ok (.bool false)
 hl:S.lim<=16000000
def rhF:Sg->R Fw:=(aJ (sIf (e1 asB (qO true 4 (eV 7))) (aJ (oO 4 (eV 7) (e1 dLen (rV 3)))
 (iB 3 (eV 7))) sNx)
 (iB 6 (nG 4 (eV 7))))
def rhT:Sg->R Bool:=(lN (e1 asB (e2 dLt (e1 dLen (rV 5)) (e1 dLen (rV 3)))) (j4 (e1 asB (yC 12 2 (aB (rV 3) (aB (e1 dLen (rV 5)) aM))))))
def rhB:Sg->R Fw:=(aJ (fM 6 (fG aM))
 (aJ (lA (e1 a9 (aDB 12 1 (aB (e2 dIx (rV 3) (e1 dLen (rV 5))) aM))) (stN 7) rhF)
 (iB 5 (e1 dTup (rV 6)))))
def aTB:t9=aJ (fM 3 (fG (aB (eV 0) aM))) (aJ (yB 4 (yA (eV 0) (eC (.int 0)) aC7)) (aJ (fM 5 (fG aM)) (aJ (bV rhT rhB) (sFz 5 (sFz 3 (bM (vD (dP (aB (eV 3) (aB (eV 5) aM))))))))) ):=id rfl
def aUY(fs:List Dz)(js:List Nat)(ys:List Dz):Prop:=js.length=ys.length/\∀ (c:Nat) (y:Dz),ys[c]? = some y->∃ j,js[c]? = some j/\fs[j]? = some y
def cV(js:List Nat):Dz:=.tuple (js.map fun j:Nat=>.int (j:Int))
structure Fnd(S:Srch)(fs:List Dz):Prop where
 nd:fs.Nodup
 gd:∀ (i:Nat) (x:Dz),fs[i]? = some x->S.good i x
structure Rchd(S:Srch)(fs:List Dz)(gs:List (List Nat)):Prop where
 fnd:Fnd S fs
 len:gs.length=fs.length
 zer:fs[0]? = some S.x0
 row:∀ (i:Nat) (js:List Nat) (x:Dz),gs[i]? = some js->fs[i]? = some x->aUY fs js (S.after x)
def adQ(fs:List Dz)(y:Dz):List Dz:=if y∈fs then fs else fs++[y]
def adA(fs ys:List Dz):List Dz:=ys.foldl adQ fs
def nrQ(fs:List Dz)(y:Dz):Nat:=fs.idxOf y
def kM{fs:List Dz}{y:Dz}(h:y∈fs):adQ fs y=fs:=AL h
def iJ{fs:List Dz}{y:Dz}(h:y∉fs):adQ fs y=fs++[y]:=AK h
def rL(fs:List Dz)(y:Dz):fs <+: adQ fs y:=by
 by_cases h:y∈fs
 · rw [kM h]; exact D3 _
 · rw [iJ h]; exact List.prefix_append ..
def vM(fs:List Dz)(y:Dz):y∈adQ fs y:=by
 by_cases h:y∈fs
 · rw [kM h]; exact h
 · rw [iJ h]; simp
def aKI{fs:List Dz}{y:Dz}(h:fs.Nodup):(adQ fs y).Nodup:=by
 by_cases q:y∈fs
 .rw[kM q];exact h
 .rw[iJ q,CW]
  exact ⟨h,by simp,fun a c b d=>by rw[AQ.mp d];rintro rfl;exact q c⟩
def aP4(fs:List Dz)(y:Dz):(adQ fs y).length<=fs.length+1:=by
 by_cases q:y∈fs
 · rw [kM q]; omega
 · rw [iJ q]; simp
def w5(fs ys:List Dz)(y:Dz):adA fs (ys++[y])=adQ (adA fs ys) y:=by unfold adA;rw[EX];rfl
def vN(ys:List Dz):∀ fs:List Dz,fs <+: adA fs ys:=by
 induction ys with
 | nil=>exact fun fs=>D3 _
 | cons y t ih=>exact fun fs=>(rL fs y).trans (ih _)
def rM(ys:List Dz):∀ {fs:List Dz},fs.Nodup->(adA fs ys).Nodup:=by
 induction ys with
 | nil=>exact fun h=>h
 | cons y t ih=>exact fun h=>ih (aKI h)
def k6(ys:List Dz):∀ {fs:List Dz} {y:Dz},y∈ys->y∈adA fs ys:=by
 induction ys with
 | nil=>intro fs y h;cases h
 | cons x t ih=>
  intro fs y h
  rcases AT.mp h with rfl|h
  · exact (vN t _).subset (vM fs y)
  · exact ih h
def adA_mem(ys:List Dz):∀ {fs:List Dz} {y:Dz},y∈adA fs ys->y∈fs\/y∈ys:=by
 induction ys with
 | nil=>intro fs y h;exact .inl h
 | cons x t ih=>
  intro fs y h
  rcases ih (fs:=adQ fs x) h with h|h
  .by_cases q:x∈fs
   .rw[kM q] at h;exact .inl h
   .rw[iJ q] at h
    rcases BK.mp h with h|h
    · exact .inl h
    · exact .inr (by rw [AQ.mp h]; exact AS)
  .exact .inr (AJ _ h)
def aAE(ys:List Dz):∀ fs:List Dz,(adA fs ys).length<=fs.length+ys.length:=by
 induction ys with
 | nil=>intro fs;exact AU _
 | cons x t ih=>
  intro fs
  have h1:=ih (adQ fs x)
  have h2:=aP4 fs x
  show (adA (adQ fs x) t).length<=fs.length+(t.length+1)
  omega
def vO{fs fs':List Dz}{y:Dz}(h:fs <+: fs')(a:y∈fs):nrQ fs' y=nrQ fs y:=by
 obtain ⟨t,rfl⟩:=h
 unfold nrQ
 rw[List.idxOf_append,AL a]
def nU{fs:List Dz}{y:Dz}(a:y∈fs):fs[nrQ fs y]? = some y:=by
 have h:nrQ fs y < fs.length:=List.idxOf_lt_length_of_mem a
 rw[AD h]
 exact CL some (List.getElem_idxOf h)
def aB4{α:Type}{xs:List α}(h:xs.Nodup){i j:Nat}{x:α}(h1:xs[i]? = some x)(h2:xs[j]? = some x):i=j:=by
 obtain ⟨a,e1⟩:=AI.mp h1
 obtain ⟨b,e2⟩:=AI.mp h2
 rcases DF i j with q|q|q
 · exact absurd (e1.trans e2.symm) (EN.mp h i j a b q)
 · exact q
 · exact absurd (e2.trans e1.symm) (EN.mp h j i b a q)
def aAF{fs:List Dz}{y:Dz}(h:fs.Nodup)(a:y∈fs):eO (fN fs) y=some (.int (nrQ fs y:Int)):=by
 obtain ⟨i,h1,h2⟩:=aP3 a
 rw[h1,aB4 h h2 (nU a)]
structure Sq where
 after:Dz->List Dz
 x0:Dz
 stop:List Dz->Nat->Bool
 k1:Nat
 k2:Nat
 G:List Dz->R Dz
 D:List Dz->R Dz
def bfQ(after:Dz->List Dz)(x0:Dz):Nat->List Dz
 | 0=>[x0]
 | n+1=>match (bfQ after x0 n)[n]? with
  | some x=>adA (bfQ after x0 n) (after x)
  | none=>bfQ after x0 n
def m9{after:Dz->List Dz}{x0 x:Dz}{n:Nat}(h:(bfQ after x0 n)[n]? = some x):bfQ after x0 (n+1)=adA (bfQ after x0 n) (after x):=by rw[bfQ,h]
def jQ(after:Dz->List Dz)(x0:Dz)(n:Nat):bfQ after x0 n <+: bfQ after x0 (n+1):=by
 rw[bfQ]
 split
 · exact vN _ _
 · exact D3 _
def l6{after:Dz->List Dz}{x0:Dz}{m n:Nat}(h:m<=n):bfQ after x0 m <+: bfQ after x0 n:=by
 obtain ⟨k,rfl⟩:=Nat.le.dest h
 clear h
 induction k with
 | zero=>exact D3 _
 | succ k ih=>exact ih.trans (jQ after x0 (m+k))
def nV(after:Dz->List Dz)(x0:Dz)(n:Nat):(bfQ after x0 n).Nodup:=by
 induction n with
 | zero=>simp[bfQ]
 | succ n ih=>
  rw[bfQ]
  split
  · exact rM _ ih
  · exact ih
def nA(after:Dz->List Dz)(x0:Dz)(n:Nat):(bfQ after x0 n)[0]? = some x0:=by
 obtain ⟨t,e⟩:=l6 (after:=after) (x0:=x0) (CM n)
 rw[<-e];rfl
def sY{α:Type}{f g:List α}{i:Nat}{x:α}(h:f <+: g)(e:f[i]? = some x):g[i]? = some x:=by
 obtain ⟨t,rfl⟩:=h
 rw[B1 (AI.mp e).1]
 exact e
def uH{α:Type}{f g:List α}{i:Nat}{x:α}(h:f <+: g)(hi:i < f.length)(e:g[i]? = some x):f[i]? = some x:=by
 obtain ⟨t,rfl⟩:=h
 rwa [B1 hi] at e
def qT(after:Dz->List Dz)(fs:List Dz)(x:Dz):Dz:=cV ((after x).map (nrQ fs))
def c9(after:Dz->List Dz)(fs:List Dz)(n:Nat):List Dz:=(fs.take n).map (qT after fs)
structure Sq.ok(S:Sq)(N:Nat):Prop where
 on:∀ m,m < N->m < (bfQ S.after S.x0 m).length/\S.stop (bfQ S.after S.x0 m) m=false
 off:(bfQ S.after S.x0 N).length<=N\/S.stop (bfQ S.after S.x0 N) N=true
 key:(∀ x∈bfQ S.after S.x0 N,gQ x=true)\/(∀ x∈bfQ S.after S.x0 N,pG x=true)
 len:(bfQ S.after S.x0 N).length<=16000000
 hk1:S.k1<=12
 hk2:S.k2<=12
 hG:∀ m x,m < N->(bfQ S.after S.x0 N)[m]? = some x->(∃ d,S.G [x]=.ok d/\a9 d=.ok (S.after x))/\(S.after x).length<=1000
 hD:∀ m,m<=N->m < (bfQ S.after S.x0 m).length->S.D [.list (bfQ S.after S.x0 m),.int (m:Int)]=.ok (.bool (S.stop (bfQ S.after S.x0 m) m))
def aB5{B:List Dz}(h:(∀ x∈B,gQ x=true)\/(∀ x∈B,pG x=true)){y:Dz}{fs:List Dz}(b:y∈B)(c:∀ x∈fs,x∈B):cK y ((fN fs).map (·.1))=true:=by
 unfold cK
 rw[sW,DR,A3,A3,BY,BY]
 exact h.imp (fun h=>⟨h y b,fun x a=>h x (c x a)⟩) (fun h=>⟨h y b,fun x a=>h x (c x a)⟩)
def rqρ(S:Sq)(fs:List Dz)(gs:List Dz)(u v:O9 A):Sg:=[some (.d S.x0),some (.g S.k1 1 S.G),some (.g S.k2 2 S.D),some (.l fs),some (.m (fN fs)),some (.l gs),u,v]
def aTC{S:Sq}{B fs ys gs:List Dz}{v:O9 A}(E:(∀ x∈B,gQ x=true)\/(∀ x∈B,pG x=true))(O:B.length<=16000000)(nd:fs.Nodup)(J:adA fs ys <+: B)(N:ys.length<=1000) :
  ∃ v',mG (stN 7) rhF ys (rqρ S fs gs (some (.l [])) v)=.ok (.nx (rqρ S (adA fs ys) gs (some (.l ((ys.map (nrQ (adA fs ys))).map fun j:Nat=>.int (j:Int)))) v')):=by
 obtain ⟨M,D,v',G⟩:=f6 (fs:=stN 7) (fb:=rhF) (d:=id) (xs:=ys) (ρ:=rqρ S fs gs (some (.l [])) v)
  (fun i ρ=>∃ v',ρ=rqρ S (adA fs (ys.take i)) gs (some (.l (((ys.take i).map (nrQ (adA fs (ys.take i)))).map fun j:Nat=>.int (j:Int)))) v') ⟨v,rfl⟩ fun i y ρ hi t=>by
  obtain ⟨v',e⟩:=t
  have C:ys.take (i+1)=ys.take i++[y]:=by rw[CY,hi];rfl
  have L:=(AI.mp hi).1
  have a:adA fs (ys.take (i+1)) <+: B:=by
   refine List.IsPrefix.trans ?_ J
   have:adA fs ys=adA (adA fs (ys.take (i+1))) (ys.drop (i+1)):=by
    unfold adA;rw[<-List.foldl_append,G3]
   rw[this];exact vN _ _
  have I:(adA fs (ys.take i)).Nodup:=rM _ nd
  have o:(adA fs (ys.take (i+1))).Nodup:=rM _ nd
  have u:∀ x∈ys.take (i+1),x∈adA fs (ys.take (i+1)):=fun x b=>k6 _ b
  rw[C] at a o u
  rw[C,w5] at *
  generalize K:adA fs (ys.take i)=F at *
  have h:y∈B:=a.subset (vM F y)
  have s:∀ x∈F,x∈B:=fun x b=>a.subset ((rL F y).subset b)
  have f:F.length < 16777216:=by
   have h1:=a.length_le
   have h2:=(rL F y).length_le
   omega
  have s1:=aB5 E h s
  have w:=aB5 E h (fs:=adQ F y) (fun x b=>a.subset b)
  have p:=aAF o (vM F y)
  have n:(fN F).length<=16777216:=by rw[vK];omega
  have q:∀ x∈ys.take i,x∈F:=fun x b=>by rw[<-K];exact k6 _ b
  have m:(ys.take i++[y]).map (nrQ (adQ F y))=(ys.take i).map (nrQ F)++[nrQ (adQ F y) y]:=by
   rw[BJ,CS]
   congr 1
   exact BI fun x b=>vO (rL F y) (q x b)
  have g:(ys.take i).length < 16777216:=by rw[BO];omega
  rw[m]
  refine ⟨rqρ S F gs (some (.l (((ys.take i).map (nrQ F)).map fun j:Nat=>.int (j:Int)))) (some (.d y)),_,by rw[e];simp[rqρ],.inl ?_,some (.d y),rfl⟩
  have z:dLen (.list F)=.ok (.int (F.length:Int)):=jD _
  have c:min i ys.length < 16777216:=by rw[BO] at g;exact g
  by_cases k:y∈F
  .have r:=vL.mpr k
   rw[kM k] at w p ⊢
   simp[rhF,rqρ,s1,r,p,c]
  .have r:=sX k
   have H:=aAD k
   rw[iJ k] at w p ⊢
   simp[rhF,rqρ,s1,w,r,H,p,z,n,f,c]
 rw[List.map_id] at D
 rw[GM] at G
 exact ⟨v',by rw[D,G]⟩
def Sq.ok.le{S:Sq}{N:Nat}(O:S.ok N){m:Nat}(h:m<=N):bfQ S.after S.x0 m <+: bfQ S.after S.x0 N:=l6 h
def aGE{S:Sq}{N m:Nat}(O:S.ok N)(h:m<=N){gs:List Dz}(d:gs.length=m){u v:O9 A}:rhT (rqρ S (bfQ S.after S.x0 m) gs u v)=.ok (decide (m < N)):=by
 have k2:=O.hk2
 subst d
 by_cases a:gs.length < (bfQ S.after S.x0 gs.length).length
 .have b:=O.hD _ h a
  have c:S.stop (bfQ S.after S.x0 gs.length) gs.length = !decide (gs.length < N):=by
   by_cases q:gs.length < N
   .rw[(O.on _ q).2,AX q];rfl
   .have e:gs.length=N:=by omega
    rcases O.off with z|z
    · rw [e] at a; omega
    · rw [BA q, e]; exact z
  rw[c] at b
  simp[rhT,rqρ,jD,a,k2,b,vE]
 .have:¬ gs.length < N:=fun q=>a (O.on _ q).1
  simp[rhT,rqρ,jD,a,this]
def aP5{S:Sq}{N m:Nat}(O:S.ok N)(h:m < N){gs:List Dz}(k:gs.length=m){u v:O9 A}:∃ x u' v',(bfQ S.after S.x0 m)[m]? = some x/\rhB (rqρ S (bfQ S.after S.x0 m) gs u v)=.ok (.nx (rqρ S (bfQ S.after S.x0 (m+1)) (gs++[qT S.after (bfQ S.after S.x0 (m+1)) x]) u' v')):=by
 have f:=(O.on m h).1
 have a:(bfQ S.after S.x0 m)[m]? = some (bfQ S.after S.x0 m)[m]:=AD f
 generalize (bfQ S.after S.x0 m)[m]=x at a
 have k1:=O.hk1
 obtain ⟨⟨d,n,p⟩,o⟩:=O.hG m x h (sY (O.le (by omega)) a)
 have e:=m9 a
 have i:adA (bfQ S.after S.x0 m) (S.after x) <+: bfQ S.after S.x0 N:=by rw[<-e];exact O.le (by omega)
 obtain ⟨v',q⟩:=aTC (S:=S) (gs:=gs) (v:=v) O.key O.len (nV S.after S.x0 m) i o
 rw[<-e] at q
 have g:dIx (.list (bfQ S.after S.x0 m)) (.int (m:Int))=.ok x:=lJ (fR a)
 have b:gs.length < 16777216:=by have:=(O.le (show m<=N by omega)).length_le;have:=O.len;omega
 have c:(S.after x).length<=16777216:=by omega
 refine ⟨x,some (.l (((S.after x).map (nrQ (bfQ S.after S.x0 (m+1)))).map fun j:Nat=>.int (j:Int))),v',a,?_⟩
 subst k
 simp only[rqρ] at q
 simp[rhB,rqρ,jD,g,k1,n,p,q,b,qT,cV,c]
def aP6{S:Sq}{N:Nat}(O:S.ok N):∀ (k m:Nat) (u v:O9 A),m+k=N->
  ∃ u' v',bV rhT rhB (rqρ S (bfQ S.after S.x0 m) (c9 S.after (bfQ S.after S.x0 m) m) u v)=.ok (.nx (rqρ S (bfQ S.after S.x0 N) (c9 S.after (bfQ S.after S.x0 N) N) u' v')):=by
 have c:∀ m,m<=N->(∀ a,a < m->a < (bfQ S.after S.x0 a).length)->m<=(bfQ S.after S.x0 m).length:=fun m d h=>by
  cases m with
  | zero=>omega
  | succ m=>have h1:=h m (by omega);have h2:=(jQ S.after S.x0 m).length_le;omega
 intro k
 induction k with
 | zero=>
  intro m u v d
  have d:m=N:=by omega
  subst d
  have n:=c m (by omega) fun a h=>(O.on a h).1
  have f:(c9 S.after (bfQ S.after S.x0 m) m).length=m:=by unfold c9;rw[AB,BO];omega
  rw[eQ (by rw[aGE O (AU m) f,BA (by omega)])]
  exact ⟨u,v,rfl⟩
 | succ k ih=>
  intro m u v d
  have b:m < N:=by omega
  have n:=c m (by omega) fun a h=>(O.on a (by omega)).1
  have f:(c9 S.after (bfQ S.after S.x0 m) m).length=m:=by unfold c9;rw[AB,BO];omega
  obtain ⟨x,u',v',o,q⟩:=aP5 O b f (u:=u) (v:=v)
  rw[hJ (by rw[aGE O (by omega) f,AX b]) q]
  have e:c9 S.after (bfQ S.after S.x0 m) m++[qT S.after (bfQ S.after S.x0 (m+1)) x]=c9 S.after (bfQ S.after S.x0 (m+1)) (m+1):=by
   unfold c9
   have w:(bfQ S.after S.x0 (m+1)).take (m+1)=(bfQ S.after S.x0 m).take m++[x]:=by
    obtain ⟨t,B⟩:=jQ S.after S.x0 m
    have r:=(AI.mp o).1
    rw[<-B,FJ (by omega),CY,o];rfl
   rw[w,BJ,CS]
   congr 1
   refine BI fun y p=>?_
   unfold qT
   congr 1
   refine BI fun z s=>?_
   obtain ⟨j,i⟩:=FG p
   have g:j < m:=by
    have:=(AI.mp i).1
    rw[BO] at this;omega
   rw[List.getElem?_take,AL g] at i
   refine (vO (jQ S.after S.x0 m) ?_).symm
   have l:(bfQ S.after S.x0 j)[j]? = some y:=uH (O.le (by omega)) ((O.on j (by omega)).1) (sY (O.le (by omega)) i)
   have:=k6 (fs:=bfQ S.after S.x0 j) _ s
   rw[<-m9 l] at this
   exact (l6 (by omega)).subset this
  rw[e]
  exact ih (m+1) u' v' (by omega)
def aTD{S:Sq}{N:Nat}(O:S.ok N):iO [.d S.x0,.g S.k1 1 S.G,.g S.k2 2 S.D]=.ok (.d (.tuple [.list (bfQ S.after S.x0 N),.list (c9 S.after (bfQ S.after S.x0 N) N)])):=by
 obtain ⟨u,v,q⟩:=aP6 O N 0 none none (by omega)
 have a:=AM (nA S.after S.x0 N)
 have b:cK S.x0 []=true:=by
  unfold cK
  rw[DR,A3,A3]
  exact O.key.imp (fun h=>⟨h _ a,rfl⟩) (fun h=>⟨h _ a,rfl⟩)
 have hi:fN [S.x0]=[(S.x0,.int 0)]:=rfl
 have c:Fl.i9 [] [(S.x0,.int 0)]=.ok [(S.x0,.int 0)]:=by simp[Fl.i9,b,putM,cQ,eO]
 unfold iO
 rw[aTB]
 simp only[rqρ,bfQ,c9,List.take_zero,hi,BS] at q
 simp[c,q,c9]
end Mc
namespace Fl
open L2 PyProof.Rows
@[simp] theorem aV4(i:Nat)(f g:Sg->R Dz)(ρ:Sg):oP i f g ρ=match ρ[i]? with
 | some (some (.m a6))=>(f ρ).bind fun k=>(g ρ).bind fun y=>if cK k (a6.map (·.1))=true/\a6.length<=16777216 then .ok (.nx (if cQ a6 k=true then ρ else ρ.set i (some (.m (putM a6 k y))))) else .bad
 | _=>.bad:=id rfl
@[simp] theorem aWN(i:Nat)(ρ:Sg):aVY i ρ=match ρ[i]? with
 | some (some (.l xs))=>.ok (.nx (ρ.set i (some (.l xs.reverse))))
 | _=>.bad:=id rfl
def aD2{x:Dz}{xs:List Dz}(h:a9 x=.ok xs):sP x=.ok (xs.zipIdx.map t8):=by
 unfold sP;rw[h];rfl
end Fl
namespace Mc
open L2 PyProof.Rows Fl
mutual
def nbD:Dz->Bool
 | .bool _=>false
 | .dict _=>false
 | .list xs=>sZ xs
 | .tuple xs=>sZ xs
 | _=>true
def sZ:List Dz->Bool
 | []=>true
 | x::t=>nbD x && sZ t
end
mutual
theorem aKJ:∀ d:Dz,d.canLay0=true->d.eqv d=true
 | .none,_=>by rfl
 | .bool b,_=>by simp[PyData.eqv]
 | .int i,_=>by simp[PyData.eqv]
 | .str x,_=>by simp[PyData.eqv]
 | .list xs,h=>by
  show PyData.eqvAll xs xs=true
  exact aAG xs h
 | .tuple xs,h=>by
  show PyData.eqvAll xs xs=true
  exact aAG xs h
 | .dict _,h=>by cases h
theorem aAG:∀ xs:List Dz,PyData.canLayAll0 xs=true->PyData.eqvAll xs xs=true
 | [],_=>by rfl
 | x::t,h=>by
  have h':(x.canLay0 && PyData.canLayAll0 t)=true:=h
  rw[A3] at h'
  show (x.eqv x && PyData.eqvAll t t)=true
  rw[aKJ x h'.1,aAG t h'.2];rfl
end
mutual
theorem aKK:∀ x y:Dz,nbD x=true->nbD y=true->x.eqv y=true->x=y
 | .none,.none,_,_,_=>rfl
 | .int i,.int j,_,_,h=>by simp[PyData.eqv] at h;rw[h]
 | .str i,.str j,_,_,h=>by simp[PyData.eqv] at h;rw[h]
 | .list xs,.list ys,h1,h2,h=>by rw[aAH xs ys h1 h2 h]
 | .tuple xs,.tuple ys,h1,h2,h=>by rw[aAH xs ys h1 h2 h]
 | .bool _,_,h,_,_=>by cases h
 | .dict _,_,h,_,_=>by cases h
 | _,.bool _,_,h,_=>by cases h
 | _,.dict _,_,h,_=>by cases h
 | .none,.int _,_,_,h=>by simp[PyData.eqv] at h
 | .none,.str _,_,_,h=>by simp[PyData.eqv] at h
 | .none,.list _,_,_,h=>by simp[PyData.eqv] at h
 | .none,.tuple _,_,_,h=>by simp[PyData.eqv] at h
 | .int _,.none,_,_,h=>by simp[PyData.eqv] at h
 | .int _,.str _,_,_,h=>by simp[PyData.eqv] at h
 | .int _,.list _,_,_,h=>by simp[PyData.eqv] at h
 | .int _,.tuple _,_,_,h=>by simp[PyData.eqv] at h
 | .str _,.none,_,_,h=>by simp[PyData.eqv] at h
 | .str _,.int _,_,_,h=>by simp[PyData.eqv] at h
 | .str _,.list _,_,_,h=>by simp[PyData.eqv] at h
 | .str _,.tuple _,_,_,h=>by simp[PyData.eqv] at h
 | .list _,.none,_,_,h=>by simp[PyData.eqv] at h
 | .list _,.int _,_,_,h=>by simp[PyData.eqv] at h
 | .list _,.str _,_,_,h=>by simp[PyData.eqv] at h
 | .list _,.tuple _,_,_,h=>by simp[PyData.eqv] at h
 | .tuple _,.none,_,_,h=>by simp[PyData.eqv] at h
 | .tuple _,.int _,_,_,h=>by simp[PyData.eqv] at h
 | .tuple _,.str _,_,_,h=>by simp[PyData.eqv] at h
 | .tuple _,.list _,_,_,h=>by simp[PyData.eqv] at h
theorem aAH:∀ xs ys:List Dz,sZ xs=true->sZ ys=true->PyData.eqvAll xs ys=true->xs=ys
 | [],[],_,_,_=>rfl
 | [],_::_,_,_,h=>by simp[PyData.eqvAll] at h
 | _::_,[],_,_,h=>by simp[PyData.eqvAll] at h
 | x::xs,y::ys,h1,h2,h=>by
  have h1':(nbD x && sZ xs)=true:=h1
  have a:(nbD y && sZ ys)=true:=h2
  have h':(x.eqv y && PyData.eqvAll xs ys)=true:=h
  rw[A3] at h1' a h'
  rw[aKK x y h1'.1 a.1 h'.1,aAH xs ys h1'.2 a.2 h'.2]
end
def aTE{d:Dz}(h:SeqAt.shaped d=true):d.canLay0=true:=by
 have h':(d.canLay0 && decide (d.depth<=64))=true:=h
 rw[A3] at h'
 exact h'.1
def aTF{x y:Dz}(hx:nbD x=true)(a:nbD y=true)(l:SeqAt.shaped x=true):x.eqv y=decide (x=y):=by
 by_cases h:x=y
 .subst h;rw[aKJ x (aTE l),AX rfl]
 .rw[BA h]
  cases q:x.eqv y with
  | false=>rfl
  | true=>exact absurd (aKK x y hx a q) h
structure Cp(d:Dz):Prop where
 nb:nbD d=true
 sh:SeqAt.shaped d=true
def aD3{x y:Dz}(hx:Cp x)(a:Cp y):dNe x y=.ok (.bool (!decide (x=y))):=by rw[aDO hx.sh a.sh,aTF hx.nb a.nb hx.sh]
def wρ(rs:List Rw)(f:Tn)(bk:List Tn)(t:Tn)(ps:List Int)(u:O9 A):Sg:=[some (.d (aV rs)),some (.d (jF f bk)),some (.d t.d),some (.m (been PyData.int ps)),u]
def aMP{rs:List Rw}{f:Tn}{bk:List Tn}{x:Str}{ps:List Int}{u:O9 A}:wT (wρ rs f bk (.w x) ps u)=.ok false:=by
 simp[wT,wρ,Tn.d,aAA]
def aMQ{rs:List Rw}{f:Tn}{bk:List Tn}{q:Int}{ps:List Int}{u:O9 A}:wT (wρ rs f bk (.n q) ps u)=.ok true:=by
 simp[wT,wρ,Tn.d,z9]
def aTG{rs:List Rw}{f:Tn}{bk:List Tn}{q:Int}{ps:List Int}{u:O9 A}(h:q∈ps):wB (wρ rs f bk (.n q) ps u)=.ok (.rt (.d (.str "ever"))):=by
 have h1:=kZ ps q
 have h2:=(pP kY).mpr h
 simp[wB,wρ,Tn.d,h1,h2]
def aV5{rs:List Rw}{f:Tn}{bk:List Tn}{q:Int}{ps:List Int}{u:O9 A}{x:Str}(h:q∉ps)(a:dO rs q)(g:ps.length<=16777216)(e:(bB rs q).r=.w x):wB (wρ rs f bk (.n q) ps u)=.ok (.nx (wρ rs f bk (.w x) (ps++[q]) (some (.d (.str x))))):=by
 have h1:=kZ ps q
 have h2:=jH kY h
 have b:=mX kY h
 have i:(been PyData.int ps).length<=16777216:=by rw[kK];exact g
 have c:=rJ a.1 a.2
 simp[wB,wρ,Tn.d,h1,h2,b,i,c,cB,e,aAA]
def aV6{rs:List Rw}{f:Tn}{bk:List Tn}{q a:Int}{ps:List Int}{u:O9 A}(h:q∉ps)(b:dO rs q)(j:ps.length<=16777216)(e:(bB rs q).r=.n a)(h0:0<=a)(c:a < (bk.length:Int)):wB (wρ rs f bk (.n q) ps u)=.ok (.nx (wρ rs f bk (bkF bk a) (ps++[q]) (some (.d (.int a))))):=by
 have h1:=kZ ps q
 have h2:=jH kY h
 have g:=mX kY h
 have i:(been PyData.int ps).length<=16777216:=by rw[kK];exact j
 have l:=rJ b.1 b.2
 have k:=aNU h0 c
 simp[wB,wρ,Tn.d,h1,h2,g,i,l,cB,e,z9,jF,k]
def s9{rs:List Rw}{sg:Nat}(M:Mach rs sg){q a:Int}(b:dO rs q)(e:(bB rs q).r=.n a):0<=a/\a < (rs.length:Int):=by
 have c:=AM (eP b.1 b.2)
 have:=(M.row _ c).1.2.1
 rw[e] at this
 exact this
def aP7{rs:List Rw}{sg:Nat}{f:Tn}{bk:List Tn}(M:Mach rs sg)(m:bk.length=rs.length)(j:∀ t∈bk,tnV rs.length t){h:Int}:∀ (n:Nat) (ps:List Int) (q:Int) (u:O9 A),Und2 (f8 rs (bkF bk)) h ps q->(∀ p∈ps,dO rs p)->dO rs q->rs.length+1<=ps.length+n->
  aJ (bV wT wB) (bM (vV 2)) (wρ rs f bk (.n q) ps u)=.ok (.rt (.d (.str ((cD (f8 rs (bkF bk)) h).getD everW)))):=by
 intro n
 induction n with
 | zero=>
  intro ps q u U pv a i
  have:=vJ U.nd pv
  omega
 | succ n ih=>
  intro ps q u U pv a i
  rw[bJ]
  by_cases b:q∈ps
  .rw[kI aMQ (aTG b),U.met b];rfl
  .have o:ps.length<=rs.length:=vJ U.nd pv
   have c:ps.length<=16777216:=by have:=M.len2;omega
   cases e:(bB rs q).r with
   | w x=>
    have st:f8 rs (bkF bk) q=some (.inr x):=by unfold f8;rw[e]
    rw[hJ aMQ (aV5 b a c e),eQ aMP,U.outs st]
    simp[wρ,Tn.d]
   | n q'=>
    obtain ⟨l,k⟩:=s9 M a e
    rw[hJ aMQ (aV6 b a c e l (by rw[m];exact k))]
    have g:=vI j q'
    cases e2:bkF bk q' with
    | w x=>
     have st:f8 rs (bkF bk) q=some (.inr x):=by unfold f8;rw[e];simp only;rw[e2]
     rw[eQ aMP,U.outs st]
     simp[wρ,Tn.d]
    | n r=>
     rw[e2] at g
     have st:f8 rs (bkF bk) q=some (.inl r):=by unfold f8;rw[e];simp only;rw[e2]
     have:=ih (ps++[q]) r (some (.d (.int q'))) (U.next b st) (fun p c=>by
      rcases BK.mp c with z|z
      · exact pv p z
      · rw [AQ.mp z]; exact a) g (by rw [A5, B5]; omega)
     rw[bJ] at this
     exact this
def aUZ{rs:List Rw}{sg:Nat}{f:Tn}{bk:List Tn}(M:Mach rs sg)(a:bk.length=rs.length)(c:∀ t∈bk,tnV rs.length t)(g:tnV rs.length f):fP [.d (aV rs),.d (jF f bk)]=.ok (.d (.str (wbR rs (bkF bk) f))):=by
 have e:dIx (jF f bk) (.int 0)=.ok f.d:=rfl
 have key:aJ (bV wT wB) (bM (vV 2)) (wρ rs f bk f [] none)=.ok (.rt (.d (.str (wbR rs (bkF bk) f)))):=by
  cases f with
  | w x=>
   rw[bJ,eQ aMP]
   simp[wρ,Tn.d,wbR]
  | n q=>exact aP7 M a c (rs.length+1) [] q none Und2.start (fun p b=>by simp at b) g (by simp)
 unfold fP
 rw[n9]
 rw[bJ] at key
 simp only[wρ,been,BS] at key
 simp only[jC,bJ,pO,j3,lI,iR,gP,jN,A0,A1,e,R.bind_ok,BB,BD,Nat.reduceAdd,AY,BS,BZ,B7,List.replicate,BC,BG,key]
def aMR{rs:List Rw}{sg:Nat}(M:Mach rs sg){bk a:Int->Tn}(h:∀ q,dO rs q->bk q=a q)(m:∀ q,dO rs q->tnV rs.length (bk q)){t:Tn}(i:tnV rs.length t):wbR rs bk t=wbR rs a t:=by
 cases t with
 | w x=>rfl
 | n q=>
  have st:∀ q,dO rs q->f8 rs bk q=f8 rs a q:=fun q b=>by
   unfold f8
   cases e:(bB rs q).r with
   | w x=>rfl
   | n c=>simp only;rw[h c (s9 M b e)]
  have g:∀ q c,dO rs q->f8 rs bk q=some (.inl c)->dO rs c:=fun q c b e=>by
   unfold f8 at e
   cases e2:(bB rs q).r with
   | w x=>rw[e2] at e;cases e
   | n r=>
    rw[e2] at e
    simp only at e
    have f:=m _ (s9 M b e2)
    split at e
    · rename_i u p; cases e; rw [p] at f; exact f
    · cases e
  have l:∀ n q o,dO rs q->Ex (f8 rs bk) n q o->Ex (f8 rs a) n q o:=by
   intro n q o b d
   induction d with
   | @out q o e=>exact .out (by rw[<-st q b];exact e)
   | @go q c o n e t ih=>exact .go (by rw[<-st q b];exact e) (ih (g q c b e))
  have k:∀ n q o,dO rs q->Ex (f8 rs a) n q o->Ex (f8 rs bk) n q o:=by
   intro n q o b d
   induction d with
   | @out q o e=>exact .out (by rw[st q b];exact e)
   | @go q c o n e t ih=>
    have j:f8 rs bk q=some (.inl c):=by rw[st q b];exact e
    exact .go j (ih (g q c b j))
  show (cD (f8 rs bk) q).getD everW=(cD (f8 rs a) q).getD everW
  rw[wE (st:=f8 rs bk) (st':=f8 rs a) (s:=q) (s':=q) fun o=>⟨fun ⟨n,x⟩=>⟨n,l n q o i x⟩,fun ⟨n,x⟩=>⟨n,k n q o i x⟩⟩]
def aTH{rs:List Rw}{sg:Nat}{z:List Nat}(M:Mach rs sg)(S:bA sg z):fP [.d (aV rs),.d (aQ rs z)]=.ok (.d (.str (eD rs z))):=by
 have e:((List.range rs.length).map fun q:Nat=>eU rs z (q:Int)).length=rs.length:=by simp
 have b:∀ t∈(List.range rs.length).map fun q:Nat=>eU rs z (q:Int),tnV rs.length t:=fun t c=>by
  obtain ⟨q,f,rfl⟩:=AN.mp c
  exact m8 M S (yM (AZ.mp f))
 unfold aQ
 rw[aUZ M e b (m8 M S (qS M z)),aMR M (fun q a=>aAC a) (fun q a=>vI b q) (m8 M S (qS M z)),<-aDV M S]
 rfl
def aKL{rs:List Rw}{sg:Nat}{z:List Nat}(M:Mach rs sg)(S:bA sg z){s:Int×Int}(V:mJ rs z s):(eF rs z s).ok:=by
 have a:(Tn.w everW).ok:=by show PyData.strOk everW=true;decide +kernel
 unfold eF
 cases e:cD (cU rs z) s with
 | none=>exact a
 | some t=>
  obtain ⟨n,h⟩:=iE e
  show t.ok
  clear e
  induction h with
  | @out s o h=>
   unfold cU at h
   rcases beg_cell M S V with ⟨x,e,c⟩|⟨q,e,b,h1,h2⟩
   .rw[e] at h
    cases h
    have f:=AM (eP V.2.2.1 V.2.2.2)
    have:=((M.row _ f).1.ok).1
    unfold bX at e
    rw[AL c] at e
    simp only at e
    rw[e] at this
    exact this
   .rw[e] at h
    simp only at h
    split at h
    · cases h
    · cases h; exact trivial
  | @go s s' o n h t ih=>
   refine ih ?_
   unfold cU at h
   rcases beg_cell M S V with ⟨x,e,c⟩|⟨q,e,b,h1,h2⟩
   .rw[e] at h;cases h
   .rw[e] at h
    simp only at h
    split at h
    · rename_i d; cases h; exact ⟨h1, d, b⟩
    · cases h
def aP8{rs:List Rw}{sg:Nat}{z:List Nat}(M:Mach rs sg)(S:bA sg z):(eF rs z (0,0)).ok/\∀ t∈(List.range rs.length).map fun q:Nat=>eU rs z (q:Int),t.ok:=⟨aKL M S (qS M z),fun t b=>by
 obtain ⟨q,a,rfl⟩:=AN.mp b
 exact aKL M S (yM (AZ.mp a))⟩
theorem w6:∀ {xs:List Dz},(∀ x∈xs,keyD x=true)->dW xs=true
 | [],_=>rfl
 | x::t,h=>by
  show (keyD x && dW t)=true
  rw[h x (AS ..),w6 fun y a=>h y (AJ _ a)];rfl
def aKM{t:Tn}(h:t.ok):keyD t.d=true:=by
 cases t with
 | n i=>rfl
 | w x=>exact h
def aP9{f:Tn}{bk:List Tn}(g:f.ok)(e:∀ t∈bk,t.ok):gQ (jF f bk)=true:=by
 have h1:keyD (jF f bk)=true:=by
  show dW [f.d,.tuple (bk.map Tn.d)]=true
  refine w6 fun x a=>?_
  rcases AT.mp a with z|a
  .rw[z];exact aKM g
  .rw[AQ.mp a]
   show dW (bk.map Tn.d)=true
   refine w6 fun x a=>?_
   obtain ⟨c,b,rfl⟩:=AN.mp a
   exact aKM (e c b)
 have h2:Sh 3 (jF f bk):=by
  refine mC fun x a=>?_
  rcases AT.mp a with z|a
  .rw[z];exact aBY _ g
  .rw[AQ.mp a]
   refine mC fun x a=>?_
   obtain ⟨c,b,rfl⟩:=AN.mp a
   exact aBY _ (e c b)
 show (keyD (jF f bk) && decide ((jF f bk).depth<=8))=true
 rw[h1,AX (BR h2.2 (by decide))];rfl
def aD4(rs:List Rw)(x:Dz)(k:Nat):Dz:=match jL [.d x,.d (iF rs k)] with
 | .ok (.d y)=>y
 | _=>.none
def aAI{rs:List Rw}{sg k:Nat}{z:List Nat}(M:Mach rs sg)(S:bA sg z)(a:k < sg):aD4 rs (aQ rs z) k=aQ rs (z++[97+k]):=by
 have:=aDY M S (c:=97+k) (by unfold cF;exact AX (by omega))
 rw[show 97+k - 97=k by omega] at this
 unfold aD4
 rw[this]
def aHT(rs:List Rw)(sg:Nat):Prop:=∀ xs:List Dz,xs.Nodup->(∀ x∈xs,∃ z,bA sg z/\x=aQ rs z)->xs.length<=200
def tD{sg k:Nat}{z:List Nat}(S:bA sg z)(d:k < sg)(b:z.length < 1000):bA sg (z++[97+k]):=⟨by simp;omega,fun c a=>by
 rcases BK.mp a with h|h
 · exact S.2 c h
 · rw [AQ.mp h]; unfold cF; exact AX (by omega)⟩
def aKN(rs:List Rw)(x:Dz):Dz:=match fP [.d (aV rs),.d x] with
 | .ok (.d y)=>y
 | _=>.none
def yN{rs:List Rw}{sg:Nat}{z:List Nat}(M:Mach rs sg)(S:bA sg z):aKN rs (aQ rs z)=.str (eD rs z):=by
 unfold aKN
 rw[aTH M S]
def aTI{rs:List Rw}{sg:Nat}(code:List Nat->Nat)(j:∀ z,bA sg z->code z < 200)(hi:∀ z z',bA sg z->bA sg z'->code z=code z'->aQ rs z=aQ rs z'):aHT rs sg:=fun xs g h=>by
 classical
 let f:Dz->Nat:=fun x=>if h:∃ z,bA sg z/\x=aQ rs z then code h.choose else 0
 have d:∀ x∈xs,∃ z,bA sg z/\x=aQ rs z/\f x=code z:=fun x c=>⟨(h x c).choose,(h x c).choose_spec.1,(h x c).choose_spec.2,dif_pos (h x c)⟩
 refine pW f 200 xs g (fun x c=>?_) (fun a i b n e=>?_)
 .obtain ⟨z,S,_,e⟩:=d x c
  rw[e];exact j z S
 .obtain ⟨z,S,e1,e2⟩:=d a i
  obtain ⟨z',k,m,l⟩:=d b n
  rw[e1,m]
  exact hi z z' S k (by rw[<-e2,<-l];exact e)
def tnB(m:Nat):Tn->Prop
 | .n i=>0<=i/\i < (m:Int)
 | .w x=>x="by"\/x="out"\/x="ever"
def aAJ{rs:List Rw}{sg:Nat}{z:List Nat}(M:Mach rs sg)(S:bA sg z){s:Int×Int}(V:mJ rs z s):tnB rs.length (eF rs z s):=by
 unfold eF
 cases e:cD (cU rs z) s with
 | none=>exact .inr (.inr rfl)
 | some t=>
  obtain ⟨n,h⟩:=iE e
  show tnB rs.length t
  clear e
  induction h with
  | @out s o h=>
   unfold cU at h
   rcases beg_cell M S V with ⟨x,e,b⟩|⟨q,e,a,h1,h2⟩
   .rw[e] at h
    cases h
    have c:=AM (eP V.2.2.1 V.2.2.2)
    have:=(M.row _ c).1.1
    unfold bX at e
    rw[AL b] at e
    simp only at e
    rw[e] at this
    rcases this with h|h
    · exact .inl h
    · exact .inr (.inl h)
   .rw[e] at h
    simp only at h
    split at h
    · cases h
    · cases h; exact a
  | @go s s' o n h t ih=>
   refine ih ?_
   unfold cU at h
   rcases beg_cell M S V with ⟨x,e,b⟩|⟨q,e,a,h1,h2⟩
   .rw[e] at h;cases h
   .rw[e] at h
    simp only at h
    split at h
    · rename_i d; cases h; exact ⟨h1, d, a⟩
    · cases h
def tc(m:Nat):Tn->Nat
 | .n i=>i.toNat
 | .w x=>if x="by" then m else if x="out" then m+1 else m+2
def yO{m:Nat}{t:Tn}(h:tnB m t):tc m t < m+3:=by
 cases t with
 | n i=>have:0<=i/\i < (m:Int):=h;show i.toNat < _;omega
 | w x=>show (if x="by" then m else if x="out" then m+1 else m+2) < _;split<;>(try split)<;>omega
def aD5{m:Nat}{t u:Tn}(h:tnB m t)(h':tnB m u)(e:tc m t=tc m u):t=u:=by
 have c:("by":Str)≠"out":=by decide +kernel
 have h1:("ever":Str)≠"by":=by decide +kernel
 have h2:("ever":Str)≠"out":=by decide +kernel
 cases t with
 | n i=>
  have a:0<=i/\i < (m:Int):=h
  cases u with
  | n j=>
   have b:0<=j/\j < (m:Int):=h'
   have e:i.toNat=j.toNat:=e
   rw[show i=j by omega]
  | w x=>
   have e:i.toNat=(if x="by" then m else if x="out" then m+1 else m+2):=e
   split at e<;>(try split at e)<;>omega
 | w x=>
  cases u with
  | n j=>
   have b:0<=j/\j < (m:Int):=h'
   have e:(if x="by" then m else if x="out" then m+1 else m+2)=j.toNat:=e
   split at e<;>(try split at e)<;>omega
  | w y=>
   have e:(if x="by" then m else if x="out" then m+1 else m+2)=(if y="by" then m else if y="out" then m+1 else m+2):=e
   rcases h with rfl|rfl|rfl<;>rcases h' with rfl|rfl|rfl<;>first|rfl|(simp[c,c.symm,h1,h1.symm,h2,h2.symm] at e)
def aD6{rs:List Rw}{z a:List Nat}(h1:eF rs z (0,0)=eF rs a (0,0))(h2:∀ q:Nat,q < rs.length->eU rs z (q:Int)=eU rs a (q:Int)):aQ rs z=aQ rs a:=by
 unfold aQ
 rw[h1,BI fun q b=>h2 q (AZ.mp b)]
def vP(z:List Nat):Nat:=match z.getLast? with
 | none=>0
 | some c=>c - 96
def aAK{sg:Nat}{z:List Nat}(a:sg<=3)(S:bA sg z):vP z < 4:=by
 unfold vP
 cases e:z.getLast? with
 | none=>simp
 | some c=>
  have:=BF (S.2 c (DY e))
  show c - 96 < 4
  omega
def last_eq{sg:Nat}{z a:List Nat}(S:bA sg z)(b:bA sg a)(e:vP z=vP a):(z=[]/\a=[])\/∃ y y' c,z=y++[c]/\a=y'++[c]/\bA sg y/\bA sg y'/\cF sg c=true:=by
 unfold vP at e
 cases h:z.getLast? with
 | none=>
  have i:=GB.mp h
  cases h':a.getLast? with
  | none=>exact .inl ⟨i,GB.mp h'⟩
  | some c'=>
   rw[h,h'] at e
   have:=BF (b.2 c' (DY h'))
   have e:0=c' - 96:=e
   omega
 | some c=>
  have f:=BF (S.2 c (DY h))
  cases h':a.getLast? with
  | none=>
   rw[h,h'] at e
   have e:c - 96=0:=e
   omega
  | some c'=>
   have k:=BF (b.2 c' (DY h'))
   rw[h,h'] at e
   have e:c - 96=c' - 96:=e
   have j:c'=c:=by omega
   subst j
   obtain ⟨y,g⟩:=GC.mp h
   obtain ⟨y',d⟩:=GC.mp h'
   refine .inr ⟨y,y',c',g,d,?_,?_,S.2 c' (DY h)⟩
   · rw [g] at S; exact ⟨by have := S.1; simp at this; omega, fun c f => S.2 c (CG _ f)⟩
   · rw [d] at b; exact ⟨by have := b.1; simp at this; omega, fun c f => b.2 c (CG _ f)⟩
def w8{rs:List Rw}{bk:Int->Tn}{c:Nat}{q:Int}(h:(ck (c - 97) (bB rs q)).2=1):onR rs bk c (.n q)=.n (ck (c - 97) (bB rs q)).1:=by
 have:gI rs bk c q=some (.inr (.n (ck (c - 97) (bB rs q)).1)):=by rw[aAB,AL h]
 show (cD (gI rs bk c) q).getD (.w everW)=_
 rw[pX this];rfl
def aHU{rs:List Rw}{sg:Nat}(M:Mach rs sg)(o:rs.length<=40)(h:∀ r∈rs,∀ k,k < sg->(ck k r).2=1):aHT rs sg:=by
 have f:∀ z,bA sg z->tnB rs.length (eF rs z (0,0)):=fun z S=>aAJ M S (qS M z)
 refine aTI (fun z=>tc rs.length (eF rs z (0,0)) * 4+vP z) (fun z S=>?_) (fun z g S b e=>?_)
 .have:=yO (f z S)
  have:=aAK M.sg3 S
  show _ < 200
  omega
 .have j:=aAK M.sg3 S
  have m:=aAK M.sg3 b
  refine aD6 (aD5 (f z S) (f g b) (by omega)) fun q n=>?_
  rcases last_eq S b (by omega) with ⟨rfl,rfl⟩|⟨y,l,c,rfl,rfl,Sy,Sy',d⟩
  .rfl
  .have a:dO rs (q:Int):=⟨by omega,by omega⟩
   have i:c - 97 < sg:=by have:=BF d;omega
   have h1:=h _ (AM (eP a.1 a.2)) _ i
   rw[uG M Sy d a,uG M Sy' d a,w8 h1,w8 h1]
structure Ctr(rs:List Rw)(sg p q:Nat):Prop where
 len:rs.length=p+1+q
 p1:1<=p
 p5:p<=5
 q1:1<=q
 q5:q<=5
 lef:(bB rs 0).l=.n 0
 mid:(bB rs (p:Int)).l=.n ((p:Int)+1)
 a:∀ i:Nat,i < p->∀ k,k < sg->ck k (bB rs (i:Int))=((((i+(if k=0 then 1 else 0)) % p:Nat):Int),1)
 b:∀ k,k < sg->ck k (bB rs (p:Int))=((p:Int),-1)
 c:∀ j:Nat,j < q->∀ k,k < sg->ck k (bB rs ((p+1+j:Nat):Int))=(((p+1+(j+(if k=sg - 1 then 1 else 0)) % q:Nat):Int),1)
def aMS{P:List Nat->Prop}(h0:P [])(a:∀ z c,P z->P (z++[c]))(z:List Nat):P z:=by
 rw[<-List.reverse_reverse z]
 induction z.reverse with
 | nil=>exact h0
 | cons c t ih=>rw[F7];exact a _ _ ih
def aHV{sg c:Nat}{z:List Nat}(S:bA sg (z++[c])):bA sg z/\cF sg c=true:=⟨⟨by have:=S.1;simp at this;omega,fun c a=>S.2 c (CG _ a)⟩,S.2 c (by simp)⟩
end Mc
namespace Mb
open Classical
section
variable{τ:Type}(g:τ->Nat->τ)(t0:τ)(cs:List Nat)
variable{g t0 cs}
end
end Mb
namespace Mc
open L2 PyProof.Rows Fl
def stD(z:List Nat):Dz:=.str ⟨z.toArray⟩
def sgT(sg:Nat):Str:=Txt.slice "abc" none (some (sg:Int))
def aGF{sg:Nat}(s1:1<=sg)(a:sg<=3):(sgT sg).cps.toList=[97,98,99].take sg:=aOI s1 a
def aQA{sg:Nat}(s1:1<=sg)(a:sg<=3):(sgT sg).cps.toList.length<=3:=by rw[aGF s1 a,BO];simp;omega
abbrev PZ:=Dz×List Nat
def nB{a:List (Dz×Dz)}{k v b:Dz}(h:cQ a k=false):eO (putM a k v) b=if b=k then some v else eO a b:=by
 have h':eO a k=none:=by
  unfold cQ at h
  cases q:eO a k with
  | none=>rfl
  | some x=>rw[q] at h;cases h
 unfold putM
 rw[h,AK (by decide)]
 unfold eO at h' ⊢
 rw[List.find?_append]
 by_cases e:b=k
 .subst e
  have:a.find? (fun p=>decide (p.1=b))=none:=by
   cases q:a.find? (fun p=>decide (p.1=b)) with
   | none=>rfl
   | some x=>rw[q] at h';cases h'
  rw[AL rfl,this]
  simp
 .rw[AK e]
  cases q:a.find? (fun p=>decide (p.1=b)) with
  | none=>simp[BX e]
  | some x=>rfl
def aQB{a:List (Dz×Dz)}{k v:Dz}(h:cQ a k=false):(putM a k v).length=a.length+1:=by
 unfold putM;rw[h,AK (by decide)];simp
def aD7{a:List (Dz×Dz)}{k v:Dz}(h:cQ a k=false):(putM a k v).map (·.1)=a.map (·.1)++[k]:=by
 unfold putM;rw[h,AK (by decide),BJ];rfl
structure Came(L:List PZ)(D:List (Dz×Dz))(m:Nat):Prop where
 got:∀ (j:Nat) (x:Dz) (z:List Nat),1<=j->j < m->L[j]? = some (x,z)->∃ (i k:Nat) (x':Dz) (z':List Nat),eO D (.int (j:Int))=some (.tuple [.int (i:Int),.str ⟨#[97+k]⟩])/\L[i]? = some (x',z')/\i < j/\z=z'++[97+k]
 new:∀ j:Nat,m<=j->cQ D (.int (j:Int))=false
 key:∀ p∈D.map (·.1),pG p=true
def yP{i j:Nat}(h:i≠j):(PyData.int (i:Int))≠.int (j:Int):=fun z=>by cases z;exact h rfl
def Came.step{L:List PZ}{D:List (Dz×Dz)}{m i k j:Nat}{x y:Dz}{z:List Nat}(C:Came L D m)(h1:1<=m)(B:m<=L.length)(hi:L[i]? = some (x,z))(w:i < m)(d:j < m\/(j=m/\L[j]? = some (y,z++[97+k]))) :
  Came L (if cQ D (.int (j:Int))=true then D else putM D (.int (j:Int)) (.tuple [.int (i:Int),.str ⟨#[97+k]⟩])) (if j < m then m else m+1)/\(if cQ D (.int (j:Int))=true then D else putM D (.int (j:Int)) (.tuple [.int (i:Int),.str ⟨#[97+k]⟩])).length<=D.length+1:=by
 refine ⟨?_,?_⟩
 .rcases d with d|⟨rfl,d⟩
  .rw[AL d]
   cases q:cQ D (.int (j:Int)) with
   | true=>rw[AL rfl];exact C
   | false=>
    rw[AK (by decide)]
    have A:j=0:=by
     rcases Nat.eq_zero_or_pos j with z|z
     .exact z
     .obtain ⟨o,t,u,s,g,_⟩:=C.got j _ _ z d (AD (show j < L.length by omega))
      unfold cQ at q
      rw[g] at q;cases q
    subst A
    refine ⟨fun c u s a b e=>?_,fun c n=>?_,fun p l=>?_⟩
    .obtain ⟨o,t,x2,v,g,r⟩:=C.got c u s a b e
     exact ⟨o,t,x2,v,by rw[nB q,AK (yP (by omega))];exact g,r⟩
    .have:=C.new c n
     unfold cQ at this ⊢
     rw[nB q,AK (yP (by omega))];exact this
    .rw[aD7 q] at l
     rcases BK.mp l with h|h
     .exact C.key p h
     .rw[AQ.mp h];rfl
  .have q:=C.new j (AU _)
   rw[q,AK (by decide),AK (show ¬ j < j by omega)]
   refine ⟨fun c u s a b e=>?_,fun c n=>?_,fun p l=>?_⟩
   .by_cases f:c=j
    .subst f
     rw[d] at e
     cases e
     exact ⟨i,k,x,z,by rw[nB q,AL rfl],hi,w,rfl⟩
    .obtain ⟨o,t,x2,v,g,r⟩:=C.got c u s a (by omega) e
     exact ⟨o,t,x2,v,by rw[nB q,AK (yP f)];exact g,r⟩
   .have:=C.new c (by omega)
    unfold cQ at this ⊢
    rw[nB q,AK (yP (by omega))];exact this
   .rw[aD7 q] at l
    rcases BK.mp l with h|h
    .exact C.key p h
    .rw[AQ.mp h];rfl
 .cases q:cQ D (.int (j:Int)) with
  | true=>rw[AL rfl];omega
  | false=>rw[AK (by decide),aQB q];omega
section
variable{after:Dz->List Dz}{x0:Dz}
structure Fto(after:Dz->List Dz)(x0:Dz)(wn:Dz->Bool)(k1 k2:Nat)(G Wn:List Dz->R Dz)(N:Nat):Prop where
 on:∀ m,m < N->m < (bfQ after x0 m).length/\∀ x,(bfQ after x0 m)[m]? = some x->wn x=false
 off:(bfQ after x0 N).length<=N\/∃ x,(bfQ after x0 N)[N]? = some x/\wn x=true
 key:(∀ x∈bfQ after x0 N,gQ x=true)\/(∀ x∈bfQ after x0 N,pG x=true)
 len:(bfQ after x0 N).length<=100000
 hN:N<=100000
 hk1:k1<=12
 hk2:k2<=11
 hG:∀ m x,m < N->(bfQ after x0 N)[m]? = some x->(∃ d,G [x]=.ok d/\a9 d=.ok (after x))/\(after x).length<=3
 hW:∀ m x,m<=N->(bfQ after x0 N)[m]? = some x->Wn [x]=.ok (.bool (wn x))
end
def aBL{P:Nat->Prop}:∀ K:Nat,P K->∃ n,n<=K/\P n/\∀ m,m < n->¬ P m:=by
 intro K
 induction K using Nat.strongRecOn with
 | _ K ih=>
  intro h
  by_cases q:∃ m,m < K/\P m
  .obtain ⟨m,h1,h2⟩:=q
   obtain ⟨n,a,b,c⟩:=ih m h1 h2
   exact ⟨n,by omega,b,c⟩
  .exact ⟨K,AU _,h,fun m e d=>q ⟨m,e,d⟩⟩
def rdD(a0:List (List Nat))(ws:List Dz):Dz:=.tuple [.tuple (a0.map cV),.tuple ws]
def afR(a0:List (List Nat)):Dz->List Dz
 | .int q=>(a0.getD q.toNat []).map fun j:Nat=>.int (j:Int)
 | _=>[]
structure Rdr(a0:List (List Nat))(sg:Nat):Prop where
 n1:1<=a0.length
 n2:a0.length<=1000
 s1:1<=sg
 s3:sg<=3
 row:∀ r∈a0,r.length=sg/\∀ j∈r,j < a0.length
section
variable{a0:List (List Nat)}{sg:Nat}
def Rdr.at(M:Rdr a0 sg){q:Nat}(a:q < a0.length):a0[q]? = some (a0.getD q [])/\(a0.getD q []).length=sg/\∀ j∈a0.getD q [],j < a0.length:=by
 have e:a0[q]? = some (a0.getD q []):=by rw[AG,AD a];rfl
 exact ⟨e,M.row _ (AM e)⟩
def aQC:∀ {n:Nat} {xs:List Dz},xs.Nodup->(∀ x∈xs,∃ q:Nat,q < n/\x=.int (q:Int))->xs.length<=n:=by
 intro n xs f h
 refine pW (fun x=>match x with | .int q=>q.toNat|_=>0) n xs f (fun x i=>?_) (fun a c b g e=>?_)
 .obtain ⟨q,d,rfl⟩:=h x i
  show ((q:Int)).toNat < n
  omega
 .obtain ⟨q,d,rfl⟩:=h a c
  obtain ⟨r,k,rfl⟩:=h b g
  have j:((q:Int)).toNat=((r:Int)).toNat:=e
  rw[show q=r by omega]
def aAL{ws:List Dz}(M:Rdr a0 sg){q:Nat}(a:q < a0.length):dIx (.tuple (a0.map cV)) (.int (q:Int))=.ok (cV (a0.getD q [])):=oS (fR (by rw[AC,(M.at a).1];rfl))
end
def sl(y z:List Nat):Prop:=y.length < z.length\/(y.length=z.length/\List.Lex (· < ·) y z)
section
variable{after:Dz->List Dz}{x0:Dz}
structure FtoC(after:Dz->List Dz)(x0:Dz)(wn:Dz->Bool)(k1 k2:Nat)(G Wn:List Dz->R Dz)(M:Nat):Prop where
 cl:(bfQ after x0 M).length<=M
 hM:M<=100000
 key:(∀ x∈bfQ after x0 M,gQ x=true)\/(∀ x∈bfQ after x0 M,pG x=true)
 hk1:k1<=12
 hk2:k2<=11
 hG:∀ x∈bfQ after x0 M,(∃ d,G [x]=.ok d/\a9 d=.ok (after x))/\(after x).length<=3
 hW:∀ x∈bfQ after x0 M,Wn [x]=.ok (.bool (wn x))
end
def aAM(w:Str):Prop:=w="by"\/w="out"\/w="ever"
structure Rdw(a0:List (List Nat))(ws:List Str)(sg:Nat):Prop where
 r:Rdr a0 sg
 wl:ws.length=a0.length
 ww:∀ w∈ws,aAM w
def rdW(a0:List (List Nat))(ws:List Str):Dz:=rdD a0 (ws.map .str)
section
variable{r1 r2:List (List Nat)}{w1 w2:List Str}{sg:Nat}
def Rdw.w(M:Rdw r1 w1 sg){q:Nat}(a:q < r1.length):aAM (w1.getD q "")/\dIx (.tuple (w1.map .str)) (.int (q:Int))=.ok (.str (w1.getD q "")):=by
 have b:=M.wl
 have e:w1[q]? = some (w1.getD q ""):=by rw[AG,AD (by omega)];rfl
 refine ⟨M.ww _ (AM e),oS (fR ?_)⟩
 rw[AC,e];rfl
end
@[simp] theorem aWO(i:Nat)(f:Sg->R Fw)(ρ:Sg):aVZ i f ρ=f (fzM i ρ):=id rfl
@[simp] theorem aW7(i:Nat)(ρ:Sg):fzM i ρ=match ρ[i]? with|some (some (.m a6))=>ρ.set i (some (.f a6))|_=>ρ:=id rfl
@[simp] theorem aWP(neg:Bool)(i:Nat)(f:Sg->R Dz)(ρ:Sg):aV0 neg i f ρ=(f ρ).bind fun k=>match ρ[i]? with
 | some (some (.f a6))=>if cK k (a6.map (·.1))=true then .ok (.bool (if neg=true then !cQ a6 k else cQ a6 k)) else .bad
 | _=>.bad:=id rfl
@[simp] theorem aV7(i:Nat)(f:Sg->R Dz)(ρ:Sg):aUO i f ρ=match ρ[i]? with
 | some (some (.f a6))=>(f ρ).bind fun k=>if cK k (a6.map (·.1))=true then (match eO a6 k with
  | some v=>.ok v
  | none=>.bad) else .bad
 | _=>.bad:=id rfl
@[simp] theorem aV8(i:Nat)(ρ:Sg):aUP i ρ=match ρ[i]? with|some (some (.f a6))=>if a6.length<=16777216 then .ok (a6.map (·.1)) else .bad|_=>.bad:=id rfl
section
variable{r1 r2:List (List Nat)}{w1 w2:List Str}{sg:Nat}
end
def stN1(a0:List (List Nat))(q c:Nat):Nat:=(a0.getD q []).getD (c - 97) 0
def runN(a0:List (List Nat))(q:Nat)(z:List Nat):Nat:=z.foldl (stN1 a0) q
def Sgs(sg:Nat)(z:List Nat):Prop:=∀ c∈z,cF sg c=true
section
variable{a0 r1 r2:List (List Nat)}{ws w1 w2:List Str}{sg:Nat}
def yQ{c:Nat}(h:cF sg c=true):97<=c/\c - 97 < sg:=by
 unfold cF at h
 have:=BF h
 omega
def iK(M:Rdr a0 sg){q c:Nat}(b:q < a0.length)(d:cF sg c=true):(a0.getD q [])[c - 97]? = some (stN1 a0 q c)/\stN1 a0 q c < a0.length:=by
 have a:=M.at b
 have h:=yQ d
 have f:c - 97 < (a0.getD q []).length:=by rw[a.2.1];exact h.2
 have e:(a0.getD q [])[c - 97]? = some (stN1 a0 q c):=by
  unfold stN1
  generalize a0.getD q []=r at *
  rw[AG,AD f];rfl
 exact ⟨e,a.2.2 _ (AM e)⟩
theorem pA(M:Rdr a0 sg):∀ (z:List Nat) {q:Nat},Sgs sg z->q < a0.length->runN a0 q z < a0.length
 | [],_,_,h=>h
 | c::t,_,hs,h=>pA M t (fun c a=>hs c (AJ _ a)) (iK M h (hs c AS)).2
def EqI(a0:List (List Nat))(ws:List Str)(sg i x y:Nat):Prop:=∀ w,Sgs sg w->w.length<=i->ws.getD (runN a0 x w) ""=ws.getD (runN a0 y w) ""
def EqI.up{i x y:Nat}(h:EqI a0 ws sg (i+1) x y):EqI a0 ws sg i x y:=fun w a b=>h w a (by omega)
def EqI.sy{i x y:Nat}(h:EqI a0 ws sg i x y):EqI a0 ws sg i y x:=fun w a b=>(h w a b).symm
def EqI.tr{i x y z:Nat}(h:EqI a0 ws sg i x y)(k:EqI a0 ws sg i y z):EqI a0 ws sg i x z:=fun w a b=>(h w a b).trans (k w a b)
def oG(a0:List (List Nat))(ws:List Str)(sg i x:Nat):Prop:=∀ b,b < x->¬ EqI a0 ws sg i x b
def rN(i x:Nat):∃ r,r<=x/\EqI a0 ws sg i x r/\oG a0 ws sg i r:=by
 obtain ⟨r,h1,h2,a⟩:=aBL (P:=fun r=>EqI a0 ws sg i x r) x (fun w _ _=>rfl)
 exact ⟨r,h1,h2,fun b c h=>a b c (h2.tr h)⟩
def aQD{i:Nat}(h:∀ x,x < a0.length->oG a0 ws sg (i+1) x->oG a0 ws sg i x){x y:Nat}(hx:x < a0.length)(g:y < a0.length)(e:EqI a0 ws sg i x y):EqI a0 ws sg (i+1) x y:=by
 obtain ⟨r,r1,r2,f⟩:=rN (a0:=a0) (ws:=ws) (sg:=sg) (i+1) x
 obtain ⟨s,s1,a,b⟩:=rN (a0:=a0) (ws:=ws) (sg:=sg) (i+1) y
 have c:=h r (by omega) f
 have d:=h s (by omega) b
 have e2:EqI a0 ws sg i r s:=(r2.up.sy.tr e).tr a.up
 have:r=s:=by
  rcases DF r s with q|q|q
  · exact absurd e2.sy (d r q)
  · exact q
  · exact absurd e2 (c s q)
 subst this
 exact r2.tr a.sy
theorem aD8(M:Rdr a0 sg){i:Nat}(h:∀ x y,x < a0.length->y < a0.length->EqI a0 ws sg i x y->EqI a0 ws sg (i+1) x y):∀ (k:Nat) {x y:Nat},x < a0.length->y < a0.length->EqI a0 ws sg i x y->EqI a0 ws sg (i+k) x y
 | 0,_,_,_,_,e=>e
 | k+1,x,y,hx,hy,e=>fun w hs hl=>by
  cases w with
  | nil=>exact e [] hs (CM _)
  | cons c t=>
   have hc:=hs c AS
   obtain ⟨_,b⟩:=iK M hx hc
   obtain ⟨_,g⟩:=iK M hy hc
   have e1:=h x y hx hy e
   have e2:EqI a0 ws sg i (stN1 a0 x c) (stN1 a0 y c):=fun u f hl=>e1 (c::u) (fun d a=>by
    rcases AT.mp a with q|q
    · rw [q]; exact hc
    · exact f d q) (by simpa using hl)
   exact aD8 M h k b g e2 t (fun c hc=>hs c (AJ _ hc)) (by simp at hl;omega)
theorem aKO{α:Type}(p q:α->Bool):∀ l:List α,(∀ a∈l,p a=true->q a=true)->(∃ a∈l,p a=false/\q a=true)->l.countP p < l.countP q
 | [],_,⟨a,h,_⟩=>by simp at h
 | x::t,hi,⟨a,h,h1,h2⟩=>by
  rw[List.countP_cons,List.countP_cons]
  have hle:=List.countP_mono_left (l:=t) (p:=p) (q:=q) fun a b=>hi a (AJ _ b)
  rcases AT.mp h with c|c
  .subst c
   rw[h1,h2];simp;omega
  .have e:=aKO p q t (fun a b=>hi a (AJ _ b)) ⟨a,c,h1,h2⟩
   have:=hi x AS
   cases d:p x with
   | false=>
    rw[AK B9]
    split<;>omega
   | true=>rw[this d];simp;omega
end
def ix1(ks:List Dz)(k:Dz):Nat:=ks.findIdx fun y=>decide (y=k)
def aGG{ks:List Dz}{k:Dz}(h:k∈ks):ks[ix1 ks k]? = some k/\∀ j,j < ix1 ks k->ks[j]? ≠ some k:=by
 have b:∃ x∈ks,decide (x=k)=true:=⟨k,h,AX rfl⟩
 have a:ix1 ks k < ks.length:=List.findIdx_lt_length_of_exists b
 refine ⟨?_,fun j c e=>?_⟩
 .have:=List.findIdx_getElem (w:=a)
  rw[AD a]
  exact CL some (BF this)
 .obtain ⟨f,d⟩:=AI.mp e
  have:=List.not_of_lt_findIdx c
  rw[d] at this
  simp at this
def aTJ{ks:List Dz}{k:Dz}{i:Nat}(h:ks[i]? = some k)(a:∀ j,j < i->ks[j]? ≠ some k):ix1 ks k=i:=by
 obtain ⟨h1,h2⟩:=aGG (AM h)
 rcases DF (ix1 ks k) i with q|q|q
 · exact absurd h1 (a _ q)
 · exact q
 · exact absurd h (h2 _ q)
def aNX{x:Dz}{ks:List Dz}(hx:a9 x=.ok ks)(R:ks.length<=100000)(n:(∀ k∈ks,gQ k=true)\/(∀ k∈ks,pG k=true)):jM [.d x]=.ok (.d (.list (ks.map fun k=>.int (ix1 ks k:Int)))):=by
 have s:=aD2 hx
 have same:∀ (k:Dz) (M:List (Dz×Dz)),k∈ks->(∀ p∈M,p.1∈ks)->cK k (M.map (·.1))=true:=fun k M h1 h2=>by
  unfold cK
  rw[DR,A3,A3]
  rcases n with n|n
  .exact .inl ⟨n k h1,BY.mpr fun y C=>by
    obtain ⟨p,b,rfl⟩:=AN.mp C
    exact n _ (h2 p b)⟩
  .exact .inr ⟨n k h1,BY.mpr fun y C=>by
    obtain ⟨p,b,rfl⟩:=AN.mp C
    exact n _ (h2 p b)⟩
 have l:∀ (M:List (Dz×Dz)) k,cQ M k=(eO M k).isSome:=fun M k=>rfl
 obtain ⟨Q,L,M,v,B,P,g,t,O⟩:=f6 (fs:=stT [(stN 2),(stN 3)]) (fb:=oP 1 (eV 3) (eV 2)) (d:=t8) (xs:=ks.zipIdx) (ρ:=[some (.d x),some (.m []),none,none])
  (fun i ρ=>∃ (M:List (Dz×Dz)) (v B:O9 A),ρ=[some (.d x),some (.m M),v,B]/\(∀ k,eO M k=if k∈ks.take i then some (.int (ix1 ks k:Int)) else none)/\(∀ p∈M,p.1∈ks)/\M.length<=i)
  ⟨[],none,none,rfl,fun k=>by simp[eO],fun p b=>by simp at b,AU _⟩ (fun i p ρ b F=>by
  obtain ⟨M,v,B,e,g,t,O⟩:=F
  subst e
  obtain ⟨k,a⟩:=p
  obtain ⟨h,rfl⟩:ks[i]? = some k/\a=i:=by
   rw[FF] at b
   cases q:ks[i]? with
   | none=>rw[q] at b;cases b
   | some y=>
    rw[q] at b
    simp only[DS,G8,EG,Prod.mk.injEq] at b
    exact ⟨by rw[b.1],b.2.symm⟩
  have u:=AM h
  have N:a < ks.length:=(AI.mp h).1
  have w:=same k M u t
  have H:M.length<=16777216:=by omega
  have I:ks.take (a+1)=ks.take a++[k]:=by rw[CY,h];rfl
  by_cases c:k∈ks.take a
  .have o:cQ M k=true:=by rw[l,g k,AL c];rfl
   refine ⟨[some (.d x),some (.m M),some (.d (.int (a:Int))),some (.d k)],[some (.d x),some (.m M),some (.d (.int (a:Int))),some (.d k)],by simp[t8],.inl ?_,M,some (.d (.int (a:Int))),some (.d k),rfl,fun f=>?_,t,by omega⟩
   .simp[w,H,o]
   .rw[g f,I]
    by_cases e:f=k
    .subst e;rw[AL c,AL (CG _ c)]
    .have:f∈ks.take a++[k]↔f∈ks.take a:=by simp[e]
     by_cases q:f∈ks.take a
     · rw [AL q, AL (this.mpr q)]
     · rw [AK q, AK fun z => q (this.mp z)]
  .have o:cQ M k=false:=by rw[l,g k,AK c];rfl
   have E:ix1 ks k=a:=aTJ h fun j K e=>c (by
    refine AM (i:=j) ?_
    rw[EQ K];exact e)
   refine ⟨[some (.d x),some (.m M),some (.d (.int (a:Int))),some (.d k)],[some (.d x),some (.m (putM M k (.int (a:Int)))),some (.d (.int (a:Int))),some (.d k)],by simp[t8],.inl ?_,putM M k (.int (a:Int)),some (.d (.int (a:Int))),some (.d k),rfl,fun f=>?_,fun p b=>?_,?_⟩
   .simp[w,H,o]
   .rw[nB o,I]
    by_cases e:f=k
    .subst e;rw[AL rfl,AL (by simp),E]
    .rw[AK e,g f]
     have:f∈ks.take a++[k]↔f∈ks.take a:=by simp[e]
     by_cases q:f∈ks.take a
     · rw [AL q, AL (this.mpr q)]
     · rw [AK q, AK fun z => q (this.mp z)]
   .unfold putM at b
    rw[o,AK (by decide)] at b
    rcases BK.mp b with z|z
    .exact t p z
    .rw[AQ.mp z];exact u
   .unfold putM
    rw[o,AK (by decide),A5];simp;omega)
 rw[EE,GM] at g
 subst P
 have G:=cY (fs:=stN 0) (fe:=nG 1 (eV 0)) (ρ0:=[none,some (.m M)]) (d:=fun k:Dz=>k) (g:=fun k:Dz=>PyData.int (ix1 ks k:Int)) (xs:=ks) fun k r=>⟨_,rfl,by
  have w:=same k M r t
  have J:=g k
  rw[AL r] at J
  simp[w,J]⟩
 rw[List.map_id'] at G
 have D:mG (stT [(stN 2),(stN 3)]) (oP 1 (eV 3) (eV 2)) (ks.zipIdx.map t8) [some (.d x),some (.m []),none,none]=.ok (.nx [some (.d x),some (.m M),v,B]):=L
 unfold jM wY
 simp[s,D,hx,eJ,G]
section
variable{a0:List (List Nat)}{ws:List Str}{sg:Nat}
def rp(a0:List (List Nat))(ws:List Str)(sg i x:Nat):Nat:=(rN (a0:=a0) (ws:=ws) (sg:=sg) i x).choose
def aHW(i x:Nat):rp a0 ws sg i x<=x:=(rN (a0:=a0) (ws:=ws) (sg:=sg) i x).choose_spec.1
def tE(i x:Nat):EqI a0 ws sg i x (rp a0 ws sg i x):=(rN (a0:=a0) (ws:=ws) (sg:=sg) i x).choose_spec.2.1
def uI(i x:Nat):oG a0 ws sg i (rp a0 ws sg i x):=(rN (a0:=a0) (ws:=ws) (sg:=sg) i x).choose_spec.2.2
def aKP{i r s:Nat}(h1:oG a0 ws sg i r)(h2:oG a0 ws sg i s)(h:EqI a0 ws sg i r s):r=s:=by
 rcases DF r s with q|q|q
 · exact absurd h.sy (h2 r q)
 · exact q
 · exact absurd h (h1 s q)
def aGH{i x r:Nat}(h:EqI a0 ws sg i x r)(k:oG a0 ws sg i r):r=rp a0 ws sg i x:=aKP k (uI i x) (h.sy.tr (tE i x))
def pS{i x y:Nat}:rp a0 ws sg i x=rp a0 ws sg i y↔EqI a0 ws sg i x y:=by
 constructor
 .intro h
  have:=tE (a0:=a0) (ws:=ws) (sg:=sg) i y
  rw[<-h] at this
  exact (tE i x).tr this.sy
 .intro h
  exact aKP (uI i x) (uI i y) ((tE i x).sy.tr (h.tr (tE i y)))
def aD9{n i:Nat}{κ:Nat->Dz}(d:∀ x y,x < n->y < n->(κ x=κ y↔EqI a0 ws sg i x y)){x:Nat}(hx:x < n):ix1 ((List.range n).map κ) (κ x)=rp a0 ws sg i x:=by
 have a:∀ j,j < n->((List.range n).map κ)[j]? = some (κ j):=fun j h=>by rw[AC,A9 h];rfl
 obtain ⟨h1,h2⟩:=aGG (AM (a x hx))
 generalize ix1 ((List.range n).map κ) (κ x)=r at *
 have f:r < n:=by
  have:=(AI.mp h1).1
  rw[AB,AW] at this;exact this
 rw[a r f] at h1
 have e:κ r=κ x:=BL h1
 refine aGH ((d x r hx f).mp e.symm) fun b g k=>?_
 have c:b < n:=G7 g f
 exact h2 b g (by rw[a b c,<-(d r b f c).mpr k,e])
def lkD(a0:List (List Nat))(ws:List Str)(sg i:Nat):Dz:=.list ((List.range a0.length).map fun x=>.int (rp a0 ws sg i x:Int))
def aEA{x y:Nat}:EqI a0 ws sg 0 x y↔ws.getD x ""=ws.getD y "":=by
 constructor
 .intro h;exact h [] (fun c a=>by simp at a) (AU _)
 .intro h w _ b
  have:w=[]:=List.eq_nil_of_length_eq_zero (by omega)
  subst this;exact h
def aEB(M:Rdr a0 sg){i x y:Nat}(hx:x < a0.length)(e:y < a0.length):EqI a0 ws sg (i+1) x y↔EqI a0 ws sg i x y/\∀ k,k < sg->EqI a0 ws sg i (stN1 a0 x (97+k)) (stN1 a0 y (97+k)):=by
 constructor
 .intro h
  refine ⟨h.up,fun k f w a d=>h ((97+k)::w) (fun c b=>?_) (by simpa using d)⟩
  rcases AT.mp b with q|q
  .rw[q];unfold cF;exact AX (by omega)
  .exact a c q
 .rintro ⟨h1,h2⟩ w a d
  cases w with
  | nil=>exact h1 [] a (CM _)
  | cons c t=>
   have b:=yQ (a c AS)
   have:=h2 (c - 97) b.2 t (fun c b=>a c (AJ _ b)) (by simp at d;omega)
   rw[show 97+(c - 97)=c by omega] at this
   exact this
def aU0{i x:Nat}(hx:x < a0.length):dIx (lkD a0 ws sg i) (.int (x:Int))=.ok (.int (rp a0 ws sg i x:Int)):=lJ (fR (by rw[AC,A9 hx];rfl))
def aTK(M:Rdw a0 ws sg):jM [.d (.tuple (ws.map .str))]=.ok (.d (lkD a0 ws sg 0)):=by
 have n2:=M.r.n2
 have g:=M.wl
 have a:ws.map PyData.str=(List.range a0.length).map fun x=>PyData.str (ws.getD x ""):=by
  refine CN fun j=>?_
  rw[AC,AC]
  by_cases e:j < a0.length
  .rw[A9 e,AD (by omega)]
   show some (PyData.str _)=some (PyData.str _)
   rw[AG,AD (by omega)];rfl
  .rw[BE (by omega),BE (by rw[AW];omega)];rfl
 have c:a9 (.tuple (ws.map .str))=.ok (ws.map .str):=eX (by rw[AB];omega)
 rw[aNX c (by rw[AB];omega) (.inr fun k f=>by obtain ⟨w,_,rfl⟩:=AN.mp f;rfl)]
 unfold lkD
 rw[a,A6]
 congr 3
 refine BI fun x b=>?_
 have b:=AZ.mp b
 show PyData.int _=_
 rw[aD9 (a0:=a0) (ws:=ws) (sg:=sg) (i:=0) (κ:=fun x=>PyData.str (ws.getD x "")) (fun x y _ _=>by rw[aEA];exact ⟨fun h=>by injection h,fun h=>by rw[h]⟩) b]
def aU1(M:Rdr a0 sg){i x:Nat}(hx:x < a0.length):dN [.d (lkD a0 ws sg i),.d (cV (a0.getD x []))]=.ok (.d (.tuple ((a0.getD x []).map fun j=>.int (rp a0 ws sg i j:Int)))):=by
 have e:=M.at hx
 have s3:=M.s3
 have a:a9 (cV (a0.getD x []))=.ok ((a0.getD x []).map fun j:Nat=>.int (j:Int)):=eX (by rw[AB];omega)
 have c:=cY (fs:=stN 0) (fe:=e2 dIx (rV 1) (rV 0)) (ρ0:=[none,some (.d (lkD a0 ws sg i))]) (d:=fun j:Nat=>.int (j:Int)) (g:=fun j:Nat=>PyData.int (rp a0 ws sg i j:Int)) (xs:=a0.getD x []) fun j b=>⟨_,rfl,by
  have:=aU0 (ws:=ws) (sg:=sg) (i:=i) (e.2.2 j b)
  simp[this]⟩
 generalize a0.getD x []=r at *
 unfold dN kX
 simp[a,eJ,c]
def fkK(a0:List (List Nat))(ws:List Str)(sg i x:Nat):Dz:=.tuple [.int (rp a0 ws sg i x:Int),.tuple ((a0.getD x []).map fun j=>.int (rp a0 ws sg i j:Int))]
def aQE(M:Rdr a0 sg){i x y:Nat}(hx:x < a0.length)(e:y < a0.length):fkK a0 ws sg i x=fkK a0 ws sg i y↔EqI a0 ws sg (i+1) x y:=by
 have n:=M.at hx
 have m:=M.at e
 rw[aEB M hx e,<-pS]
 have f:∀ q,q < a0.length->∀ k,k < sg->(a0.getD q [])[k]? = some (stN1 a0 q (97+k)):=fun q g k d=>by
  have:=(iK M g (c:=97+k) (by unfold cF;exact AX (by omega))).1
  rw[show 97+k - 97=k by omega] at this
  exact this
 constructor
 .intro h
  unfold fkK at h
  have h1:(rp a0 ws sg i x:Int)=rp a0 ws sg i y/\(a0.getD x []).map (fun j=>PyData.int (rp a0 ws sg i j:Int))=(a0.getD y []).map fun j=>PyData.int (rp a0 ws sg i j:Int):=by
   injection h with h
   injection h with a b
   injection a with a
   injection b with b
   injection b with b
   exact ⟨a,b⟩
  refine ⟨by omega,fun k d=>pS.mp ?_⟩
  have:=CL (fun l=>l[k]?) h1.2
  simp only[AC,f x hx k d,f y e k d,DS,EG] at this
  injection this with this
  omega
 .rintro ⟨h1,h2⟩
  unfold fkK
  have:(a0.getD x []).map (fun j=>PyData.int (rp a0 ws sg i j:Int))=(a0.getD y []).map fun j=>PyData.int (rp a0 ws sg i j:Int):=by
   refine CN fun k=>?_
   rw[AC,AC]
   by_cases d:k < sg
   .rw[f x hx k d,f y e k d]
    show some (PyData.int _)=some (PyData.int _)
    rw[pS.mpr (h2 k d)]
   .rw[BE (by omega),BE (by omega)]
  rw[h1,this]
theorem aGI(f:Nat->Int):∀ (xs:List Nat),dW (xs.map fun j=>.int (f j))=true
 | []=>rfl
 | x::t=>by rw[AY,dW,aGI f t];rfl
def aTL(M:Rdr a0 sg){i x:Nat}(hx:x < a0.length):gQ (fkK a0 ws sg i x)=true:=by
 have d:=aGI (fun j=>(rp a0 ws sg i j:Int)) (a0.getD x [])
 have h2:Sh 2 (fkK a0 ws sg i x):=mC fun y c=>by
  rcases AT.mp c with q|q
  .rw[q];exact pD _ _
  .rw[AQ.mp q]
   exact mC fun z b=>by
    obtain ⟨j,_,rfl⟩:=AN.mp b
    exact pD _ _
 have a:=h2.2
 unfold fkK at a ⊢
 unfold gQ
 rw[A3]
 refine ⟨?_,AX (by omega)⟩
 show dW [_,_]=true
 unfold dW dW
 show (true && (dW ((a0.getD x []).map fun j=>PyData.int (rp a0 ws sg i j:Int)) && dW []))=true
 rw[d];rfl
def aNY(M:Rdw a0 ws sg)(i:Nat):o7 [.d (.tuple (a0.map cV)),.d (lkD a0 ws sg i)]=.ok (.d (lkD a0 ws sg (i+1))):=by
 have n2:=M.r.n2
 have s3:=M.r.s3
 have f:a9 (lkD a0 ws sg i)=.ok ((List.range a0.length).map fun x=>.int (rp a0 ws sg i x:Int)):=iV (by rw[AB,AW];omega)
 have l:a0.map cV=(List.range a0.length).map fun x=>cV (a0.getD x []):=by
  refine CN fun j=>?_
  rw[AC,AC]
  by_cases b:j < a0.length
  .rw[A9 b,(M.r.at b).1];rfl
  .rw[BE (by omega),BE (by rw[AW];omega)];rfl
 have e:a9 (.tuple (a0.map cV))=.ok ((List.range a0.length).map fun x=>cV (a0.getD x [])):=by rw[<-l];exact eX (by rw[AB];omega)
 have q:aDG (lkD a0 ws sg i) (.tuple (a0.map cV))=.ok ((List.range a0.length).map fun x=>.tuple [.int (rp a0 ws sg i x:Int),cV (a0.getD x [])]):=by
  unfold aDG
  rw[f,e]
  show R.ok _=R.ok _
  rw[List.zip_map,A6]
  congr 1
  refine CN fun j=>?_
  rw[AC,AC]
  by_cases b:j < a0.length
  .have h:((List.range a0.length).zip (List.range a0.length))[j]? = some (j,j):=List.getElem?_zip_eq_some.mpr ⟨A9 b,A9 b⟩
   rw[A9 b,h];rfl
  .rw[BE (by rw[FD,AW];omega),BE (by rw[AW];omega)];rfl
 have o:=cY (fs:=stT [(stN 0),(stN 1)]) (fe:=dP (aB (eV 0) (aB (eA (aZ 2 dN (aB (vV 2) (aB (vV 1) aM)))) aM))) (ρ0:=[none,none,some (.d (lkD a0 ws sg i))]) (d:=fun x=>PyData.tuple [.int (rp a0 ws sg i x:Int),cV (a0.getD x [])]) (g:=fkK a0 ws sg i) (xs:=List.range a0.length) fun x a=>⟨[some (.d (.int (rp a0 ws sg i x:Int))),some (.d (cV (a0.getD x []))),some (.d (lkD a0 ws sg i))],by simp,by
  have:=aU1 (ws:=ws) M.r (i:=i) (AZ.mp a)
  unfold fkK
  simp[-List.getD_eq_getElem?_getD,this]⟩
 have m:a9 (.list ((List.range a0.length).map (fkK a0 ws sg i)))=.ok ((List.range a0.length).map (fkK a0 ws sg i)):=iV (by rw[AB,AW];omega)
 have c:=aNX m (by rw[AB,AW];omega) (.inl fun k m=>by
  obtain ⟨x,a,rfl⟩:=AN.mp m
  exact aTL M.r (AZ.mp a))
 have p:((List.range a0.length).map (fkK a0 ws sg i)).map (fun k=>PyData.int (ix1 ((List.range a0.length).map (fkK a0 ws sg i)) k:Int))=(List.range a0.length).map fun x=>.int (rp a0 ws sg (i+1) x:Int):=by
  rw[A6]
  refine BI fun x a=>?_
  show PyData.int _=_
  rw[aD9 (a0:=a0) (ws:=ws) (sg:=sg) (i:=i+1) (κ:=fkK a0 ws sg i) (fun x y a n=>aQE M.r a n) (AZ.mp a)]
 rw[p] at c
 have c:jM [.d (.list ((List.range a0.length).map (fkK a0 ws sg i)))]=.ok (.d (lkD a0 ws sg (i+1))):=c
 unfold o7 zY
 simp[-List.getD_eq_getElem?_getD,q,eJ,o,c]
theorem aGJ(f:Nat->Int):∀ (xs:List Nat),sZ (xs.map fun j=>.int (f j))=true
 | []=>rfl
 | x::t=>by rw[AY];show (true && sZ _)=true;rw[aGJ f t];rfl
def vQ(i:Nat):Cp (lkD a0 ws sg i):=⟨aGJ _ _,Sh.shaped (n:=1) (sh_lst fun x a=>by
 obtain ⟨q,_,rfl⟩:=AN.mp a
 exact pD _ _) (by decide)⟩
def vR{i:Nat}(h:lkD a0 ws sg i=lkD a0 ws sg (i+1)):∀ x,x < a0.length->rp a0 ws sg i x=rp a0 ws sg (i+1) x:=fun x a=>by
 unfold lkD at h
 injection h with h
 have:=CL (fun l=>l[x]?) h
 simp only[AC,A9 a,DS,EG] at this
 injection this with this
 omega
open Classical in
def nRep(a0:List (List Nat))(ws:List Str)(sg i:Nat):Nat:=(List.range a0.length).countP fun x=>decide (oG a0 ws sg i x)
open Classical in
def aAN{i:Nat}(h:lkD a0 ws sg i≠lkD a0 ws sg (i+1)):nRep a0 ws sg i < nRep a0 ws sg (i+1):=by
 refine aKO _ _ _ (fun x _ h=>AX fun b d e=>BF h b d e.up) (C9 fun c=>h ?_)
 have st:∀ x,x < a0.length->oG a0 ws sg (i+1) x->oG a0 ws sg i x:=fun x a g=>C9 fun h'=>c ⟨x,AZ.mpr a,BA h',AX g⟩
 unfold lkD
 congr 1
 refine BI fun x a=>?_
 have a:=AZ.mp a
 have f:=aHW (a0:=a0) (ws:=ws) (sg:=sg) i x
 rw[<-aGH (a0:=a0) (ws:=ws) (sg:=sg) (i:=i+1) (x:=x) (r:=rp a0 ws sg i x) (aQD st a (by omega) (tE i x)) fun b d e=>uI i x b d e.up]
def aGK(i:Nat):nRep a0 ws sg i<=a0.length:=by
 unfold nRep
 have:=List.countP_le_length (p:=fun x=>@decide (oG a0 ws sg i x) (Classical.propDecidable _)) (l:=List.range a0.length)
 rw[AW] at this;exact this
def aQF(M:Rdw a0 ws sg):∀ (k i:Nat),a0.length<=nRep a0 ws sg i+k->∃ N,aJ (bV arT arB) (bM (vV 1)) [some (.d (rdW a0 ws)),some (.d (lkD a0 ws sg i)),some (.d (lkD a0 ws sg (i+1)))]=.ok (.rt (.d (lkD a0 ws sg N)))/\lkD a0 ws sg N=lkD a0 ws sg (N+1):=by
 intro k
 induction k with
 | zero=>
  intro i l
  by_cases h:lkD a0 ws sg i=lkD a0 ws sg (i+1)
  .refine ⟨i,?_,h⟩
   have a:arT [some (.d (rdW a0 ws)),some (.d (lkD a0 ws sg i)),some (.d (lkD a0 ws sg (i+1)))]=.ok false:=by
    have:=aD3 (vQ (a0:=a0) (ws:=ws) (sg:=sg) (i+1)) (vQ (a0:=a0) (ws:=ws) (sg:=sg) i)
    rw[AX h.symm] at this
    simp[arT,this]
   rw[bJ,eQ a]
   simp
  .have:=aAN h
   have:=aGK (a0:=a0) (ws:=ws) (sg:=sg) (i+1)
   omega
 | succ k ih=>
  intro i l
  by_cases h:lkD a0 ws sg i=lkD a0 ws sg (i+1)
  .refine ⟨i,?_,h⟩
   have a:arT [some (.d (rdW a0 ws)),some (.d (lkD a0 ws sg i)),some (.d (lkD a0 ws sg (i+1)))]=.ok false:=by
    have:=aD3 (vQ (a0:=a0) (ws:=ws) (sg:=sg) (i+1)) (vQ (a0:=a0) (ws:=ws) (sg:=sg) i)
    rw[AX h.symm] at this
    simp[arT,this]
   rw[bJ,eQ a]
   simp
  .have j:=aAN h
   have a:arT [some (.d (rdW a0 ws)),some (.d (lkD a0 ws sg i)),some (.d (lkD a0 ws sg (i+1)))]=.ok true:=by
    have:=aD3 (vQ (a0:=a0) (ws:=ws) (sg:=sg) (i+1)) (vQ (a0:=a0) (ws:=ws) (sg:=sg) i)
    rw[BA fun e=>h e.symm] at this
    simp[arT,this]
   have c:dIx (rdW a0 ws) (.int 0)=.ok (.tuple (a0.map cV)):=rfl
   have f:=aNY M (i+1)
   have g:arB [some (.d (rdW a0 ws)),some (.d (lkD a0 ws sg i)),some (.d (lkD a0 ws sg (i+1)))]=.ok (.nx [some (.d (rdW a0 ws)),some (.d (lkD a0 ws sg (i+1))),some (.d (lkD a0 ws sg (i+1+1)))]):=by
    simp[arB,c,f]
   obtain ⟨N,e,b⟩:=ih (i+1) (by omega)
   refine ⟨N,?_,b⟩
   rw[bJ] at e ⊢
   rw[hJ a g]
   exact e
def EqA(a0:List (List Nat))(ws:List Str)(sg x y:Nat):Prop:=∀ w,Sgs sg w->ws.getD (runN a0 x w) ""=ws.getD (runN a0 y w) ""
def aU2(M:Rdw a0 ws sg):∃ L:List Nat,fQ [.d (rdW a0 ws)]=.ok (.d (.list (L.map fun r:Nat=>.int (r:Int))))/\L.length=a0.length/\∀ x,x < a0.length->∃ r,L[x]? = some r/\r<=x/\EqA a0 ws sg x r/\∀ b,b < r->¬ EqA a0 ws sg r b:=by
 obtain ⟨N,e,j⟩:=aQF M a0.length 0 (by omega)
 have n:dIx (rdW a0 ws) (.int 0)=.ok (.tuple (a0.map cV)):=rfl
 have m:dIx (rdW a0 ws) (.int 1)=.ok (.tuple (ws.map .str)):=rfl
 have k:=aTK M
 have h1:=aNY M 0
 have g:∀ {x y:Nat},x < a0.length->y < a0.length->EqI a0 ws sg N x y->EqA a0 ws sg x y:=fun {x y} a c h w f=>by
  have:=aD8 (ws:=ws) M.r (i:=N) (fun x y a c e=>by
   have:=pS.mpr e
   rw[vR j x a,vR j y c] at this
   exact pS.mp this) w.length a c h
  exact this w f (by omega)
 refine ⟨(List.range a0.length).map (rp a0 ws sg N),?_,by rw[AB,AW],fun x a=>⟨rp a0 ws sg N x,by rw[AC,A9 a];rfl,aHW N x,g a (DM (aHW N x) a) (tE N x),fun b o h=>uI N x b o fun w f _=>h w f⟩⟩
 have l:lkD a0 ws sg N=.list (((List.range a0.length).map (rp a0 ws sg N)).map fun r:Nat=>.int (r:Int)):=by unfold lkD;rw[A6];rfl
 rw[<-l]
 unfold fQ
 rw[oA]
 rw[bJ] at e
 simp only[G8] at e h1
 simp only[jC,bJ,j3,kH,iC,fZ,lI,oQ,iR,gP,jN,R.bind_ok,BB,BD,Nat.reduceAdd,Nat.reduceSub,CD,AY,BS,BZ,B7,List.replicate,BC,BG,A0,A1,n,m,k,h1,e]
end
section
variable{a0:List (List Nat)}{ws:List Str}{sg:Nat}{L:List Nat}
structure Lk(a0:List (List Nat))(ws:List Str)(sg:Nat)(L:List Nat):Prop where
 len:L.length=a0.length
 at_:∀ x,x < a0.length->L[x]? = some (L.getD x 0)/\L.getD x 0<=x/\EqA a0 ws sg x (L.getD x 0)/\∀ b,b < L.getD x 0->¬ EqA a0 ws sg (L.getD x 0) b
def aEC(M:Rdw a0 ws sg):∃ L:List Nat,fQ [.d (rdW a0 ws)]=.ok (.d (.list (L.map fun r:Nat=>.int (r:Int))))/\Lk a0 ws sg L:=by
 obtain ⟨L,e,l,h⟩:=aU2 M
 refine ⟨L,e,l,fun x a=>?_⟩
 obtain ⟨r,h1,h2,b,c⟩:=h x a
 have:L.getD x 0=r:=by rw[AG,h1];rfl
 rw[this]
 exact ⟨h1,h2,b,c⟩
def afL(a0:List (List Nat))(L:List Nat):Dz->List Dz
 | .int q=>(a0.getD q.toNat []).map fun j=>.int (L.getD j 0:Int)
 | _=>[]
def oW(q:Nat):afL a0 L (.int (q:Int))=(a0.getD q []).map fun j=>.int (L.getD j 0:Int):=by
 show (a0.getD ((q:Int)).toNat []).map _=_
 rw[show ((q:Int)).toNat=q by omega]
def nC(M:Rdr a0 sg)(K:Lk a0 ws sg L){n:Nat}:∀ {x:Dz},x∈bfQ (afL a0 L) (.int 0) n->∃ q:Nat,q < a0.length/\x=.int (q:Int):=by
 induction n with
 | zero=>intro x a;rw[AQ.mp a];exact ⟨0,M.n1,rfl⟩
 | succ n ih=>
  intro x a
  rw[bfQ] at a
  split at a
  .rename_i y d
   rcases adA_mem _ a with h|h
   .exact ih h
   .obtain ⟨q,e,rfl⟩:=ih (AM d)
    rw[oW] at h
    obtain ⟨j,c,rfl⟩:=AN.mp h
    have b:=(M.at e).2.2 j c
    have:=(K.at_ j b).2.1
    exact ⟨L.getD j 0,by omega,rfl⟩
  .exact ih a
def aTM(M:Rdr a0 sg)(K:Lk a0 ws sg L){x:Nat}(hx:x < a0.length):dN [.d (.list (L.map fun r:Nat=>.int (r:Int))),.d (cV (a0.getD x []))]=.ok (.d (.tuple (afL a0 L (.int (x:Int))))):=by
 have e:=M.at hx
 have s3:=M.s3
 have a:a9 (cV (a0.getD x []))=.ok ((a0.getD x []).map fun j:Nat=>.int (j:Int)):=eX (by rw[AB];omega)
 have c:=cY (fs:=stN 0) (fe:=e2 dIx (rV 1) (rV 0)) (ρ0:=[none,some (.d (.list (L.map fun r:Nat=>.int (r:Int))))]) (d:=fun j:Nat=>.int (j:Int)) (g:=fun j:Nat=>PyData.int (L.getD j 0:Int)) (xs:=a0.getD x []) fun j b=>⟨_,rfl,by
  have:dIx (.list (L.map fun r:Nat=>.int (r:Int))) (.int (j:Int))=.ok (.int (L.getD j 0:Int)):=lJ (fR (by rw[AC,(K.at_ j (e.2.2 j b)).1];rfl))
  simp[-List.getD_eq_getElem?_getD,this]⟩
 rw[oW]
 generalize a0.getD x []=r at *
 unfold dN kX
 simp[-List.getD_eq_getElem?_getD,a,eJ,c]
structure Lst(a0:List (List Nat))(ws:List Str)(L:List Nat)(N:Nat):Prop where
 len:(bfQ (afL a0 L) (.int 0) N).length=N
 on:∀ m,m < N->m < (bfQ (afL a0 L) (.int 0) m).length
 le:N<=a0.length
def aED(M:Rdr a0 sg)(K:Lk a0 ws sg L):∃ N,Lst a0 ws L N:=by
 have c:∀ n,(bfQ (afL a0 L) (.int 0) n).length<=a0.length:=fun n=>aQC (nV _ _ n) fun x e=>nC M K e
 obtain ⟨N,h1,h2,f⟩:=aBL (P:=fun n=>(bfQ (afL a0 L) (.int 0) n).length<=n) a0.length (c _)
 have on:∀ m,m < N->m < (bfQ (afL a0 L) (.int 0) m).length:=fun m d=>by have:=f m d;omega
 refine ⟨N,Nat.le_antisymm h2 ?_,on,h1⟩
 cases N with
 | zero=>omega
 | succ n=>
  have a:=on n (by omega)
  have b:=(jQ (afL a0 L) (.int 0) n).length_le
  omega
def roomsL(a0:List (List Nat))(L:List Nat)(N:Nat):List Nat:=(bfQ (afL a0 L) (.int 0) N).map fun x=>match x with | .int q=>q.toNat|_=>0
def bW(a0:List (List Nat))(L:List Nat)(N:Nat):List (List Nat):=(bfQ (afL a0 L) (.int 0) N).map fun x=>(afL a0 L x).map (nrQ (bfQ (afL a0 L) (.int 0) N))
def c8(a0:List (List Nat))(ws:List Str)(L:List Nat)(N:Nat):List Str:=(roomsL a0 L N).map fun q=>ws.getD q ""
def l7(M:Rdr a0 sg)(K:Lk a0 ws sg L)(N:Nat):bfQ (afL a0 L) (.int 0) N=(roomsL a0 L N).map fun q:Nat=>.int (q:Int):=by
 unfold roomsL
 rw[A6]
 conv=>lhs;rw[<-List.map_id (bfQ (afL a0 L) (.int 0) N)]
 refine BI fun x a=>?_
 obtain ⟨q,_,rfl⟩:=nC M K a
 show PyData.int (q:Int)=.int (((q:Int).toNat:Nat):Int)
 rw[show (((q:Int).toNat:Nat):Int)=(q:Int) by omega]
def aU3(M:Rdw a0 ws sg)(K:Lk a0 ws sg L)(eL:fQ [.d (rdW a0 ws)]=.ok (.d (.list (L.map fun r:Nat=>.int (r:Int))))){N:Nat}(T:Lst a0 ws L N) :
  o8 [.d (rdW a0 ws)]=.ok (.d (rdW (bW a0 L N) (c8 a0 ws L N))):=by
 have n2:=M.r.n2
 have s3:=M.r.s3
 have n:=T.le
 have v:dIx (rdW a0 ws) (.int 0)=.ok (.tuple (a0.map cV)):=rfl
 have o:dIx (rdW a0 ws) (.int 1)=.ok (.tuple (ws.map .str)):=rfl
 have u:dIx (.list (L.map fun r:Nat=>.int (r:Int))) (.int 0)=.ok (.int 0):=by
  have h:=K.at_ 0 M.r.n1
  have:L.getD 0 0=0:=by omega
  rw[this] at h
  exact lJ (fR (j:=0) (by rw[AC,h.1];rfl))
 let S:Sq:={after:=afL a0 L,x0:=.int 0,stop:=fun _ _=>false,k1:=2,k2:=1,G:=jA 3 fY [.d (.list (L.map fun r:Nat=>.int (r:Int))),.d (rdW a0 ws)],D:=gF lY}
 have O:S.ok N:={
  on:=fun m f=>⟨T.on m f,rfl⟩
  off:=.inl (E8 T.len)
  key:=.inr fun x i=>by obtain ⟨q,_,rfl⟩:=nC M.r K i;rfl
  len:=by show (bfQ (afL a0 L) (.int 0) N).length<=_;rw[T.len];omega
  hk1:=by show 2<=12;omega
  hk2:=by show 1<=12;omega
  hG:=fun m x f i=>by
   obtain ⟨q,a,rfl⟩:=nC M.r K (AM i)
   have s:(afL a0 L (.int (q:Int))).length<=3:=by rw[oW,AB,(M.r.at a).2.1];exact s3
   refine ⟨⟨.tuple (afL a0 L (.int (q:Int))),?_,eX (by show (afL a0 L (.int (q:Int))).length<=_;omega)⟩,by show (afL a0 L (.int (q:Int))).length<=1000;omega⟩
   have e:=aTM M.r K a
   have c:=aAL (ws:=ws.map .str) M.r a
   show jA 3 fY [.d (.list (L.map fun r:Nat=>.int (r:Int))),.d (rdW a0 ws)] [.int (q:Int)]=_
   unfold jA fY
   simp[-List.getD_eq_getElem?_getD,v,c,e,dOf]
  hD:=fun m f A=>by
   show gF lY [.list (bfQ (afL a0 L) (.int 0) m),.int (m:Int)]=.ok (.bool false)
   unfold gF lY zX
   simp[dOf]}
 have e:=aTD O
 have e:iO [.d (.int 0),.g 2 1 (jA 3 fY [.d (.list (L.map fun r:Nat=>.int (r:Int))),.d (rdW a0 ws)]),.g 1 2 (gF lY)]=.ok (.d (.tuple [.list (bfQ (afL a0 L) (.int 0) N),.list (c9 (afL a0 L) (bfQ (afL a0 L) (.int 0) N) N)])):=e
 have p:c9 (afL a0 L) (bfQ (afL a0 L) (.int 0) N) N=(bW a0 L N).map cV:=by
  unfold c9 bW
  rw[C6 (E8 T.len),A6];rfl
 rw[p] at e
 have k:=l7 M.r K N
 have t:(roomsL a0 L N).length=N:=by unfold roomsL;rw[AB,T.len]
 rw[k] at e
 have hi:a9 (.list ((roomsL a0 L N).map fun q:Nat=>.int (q:Int)))=.ok ((roomsL a0 L N).map fun q:Nat=>.int (q:Int)):=iV (by rw[AB];omega)
 have b:∀ q∈roomsL a0 L N,q < a0.length:=fun q a=>by
  have:PyData.int (q:Int)∈bfQ (afL a0 L) (.int 0) N:=by rw[k];exact AN.mpr ⟨q,a,rfl⟩
  obtain ⟨C,h,e⟩:=nC M.r K this
  injection e with e
  omega
 have l:=cY (fs:=stN 0) (fe:=e2 dIx (e2 dIx (rV 1) (eC (.int 1))) (rV 0)) (ρ0:=[none,some (.d (rdW a0 ws))]) (d:=fun q:Nat=>.int (q:Int)) (g:=fun q:Nat=>PyData.str (ws.getD q "")) (xs:=roomsL a0 L N) fun q a=>⟨_,rfl,by
  obtain ⟨_,c⟩:=M.w (b q a)
  simp[-List.getD_eq_getElem?_getD,o,c]⟩
 have y:(roomsL a0 L N).map (fun q:Nat=>PyData.str (ws.getD q ""))=(c8 a0 ws L N).map .str:=by unfold c8;rw[A6];rfl
 rw[y] at l
 have x0:dIx (.tuple [.list ((roomsL a0 L N).map fun q:Nat=>.int (q:Int)),.list ((bW a0 L N).map cV)]) (.int 0)=.ok (.list ((roomsL a0 L N).map fun q:Nat=>.int (q:Int))):=rfl
 have x1:dIx (.tuple [.list ((roomsL a0 L N).map fun q:Nat=>.int (q:Int)),.list ((bW a0 L N).map cV)]) (.int 1)=.ok (.list ((bW a0 L N).map cV)):=rfl
 show o8 [.d (rdW a0 ws)]=.ok (.d (.tuple [.tuple ((bW a0 L N).map cV),.tuple ((c8 a0 ws L N).map .str)]))
 generalize (bW a0 L N).map cV=B at *
 generalize (c8 a0 ws L N).map PyData.str=z at *
 generalize (roomsL a0 L N).map (fun q:Nat=>PyData.int (q:Int))=E at *
 unfold o8 zZ
 simp[vF,pK,sO,zU,aHM,jB,vG,eL,u,e,x0,x1,hi,eJ,l,dOf]
end
section
variable{a0:List (List Nat)}{ws:List Str}{sg:Nat}{L:List Nat}{N:Nat}
def EqA.sy{x y:Nat}(h:EqA a0 ws sg x y):EqA a0 ws sg y x:=fun w a=>(h w a).symm
def EqA.tr{x y z:Nat}(h:EqA a0 ws sg x y)(k:EqA a0 ws sg y z):EqA a0 ws sg x z:=fun w a=>(h w a).trans (k w a)
def EqA.on{x y c:Nat}(h:EqA a0 ws sg x y)(b:cF sg c=true):EqA a0 ws sg (stN1 a0 x c) (stN1 a0 y c):=fun w e=>h (c::w) fun d a=>by
 rcases AT.mp a with q|q
 · rw [q]; exact b
 · exact e d q
def Lk.iff(K:Lk a0 ws sg L){x y:Nat}(hx:x < a0.length)(c:y < a0.length):L.getD x 0=L.getD y 0↔EqA a0 ws sg x y:=by
 obtain ⟨_,_,b,d⟩:=K.at_ x hx
 obtain ⟨_,_,a,f⟩:=K.at_ y c
 constructor
 .intro h;rw[<-h] at a;exact b.tr a.sy
 .intro h
  have e:EqA a0 ws sg (L.getD x 0) (L.getD y 0):=b.sy.tr (h.tr a)
  rcases DF (L.getD x 0) (L.getD y 0) with q|q|q
  · exact absurd e.sy (f _ q)
  · exact q
  · exact absurd e (d _ q)
def Lk.idem(K:Lk a0 ws sg L){x:Nat}(hx:x < a0.length):L.getD (L.getD x 0) 0=L.getD x 0:=by
 have h:=K.at_ x hx
 exact ((K.iff hx (DM h.2.1 hx)).mpr h.2.2.1).symm
def mK(T:Lst a0 ws L N):(roomsL a0 L N).length=N:=by unfold roomsL;rw[AB,T.len]
def uJ(M:Rdr a0 sg)(K:Lk a0 ws sg L):∀ q∈roomsL a0 L N,q < a0.length:=fun q a=>by
 have:PyData.int (q:Int)∈bfQ (afL a0 L) (.int 0) N:=by rw[l7 M K];exact AN.mpr ⟨q,a,rfl⟩
 obtain ⟨b,h,e⟩:=nC M K this
 injection e with e
 omega
def aHX(M:Rdr a0 sg)(K:Lk a0 ws sg L):∀ n,∀ x∈bfQ (afL a0 L) (.int 0) n,∃ q:Nat,q < a0.length/\x=.int (q:Int)/\L.getD q 0=q:=by
 intro n
 induction n with
 | zero=>
  intro x b
  rw[AQ.mp b]
  have:=(K.at_ 0 M.n1).2.1
  exact ⟨0,M.n1,rfl,by omega⟩
 | succ n ih=>
  intro x b
  rw[bfQ] at b
  split at b
  .rename_i y d
   rcases adA_mem _ b with h|h
   .exact ih x h
   .obtain ⟨q,e,rfl,_⟩:=ih _ (AM d)
    rw[oW] at h
    obtain ⟨j,c,rfl⟩:=AN.mp h
    have a:=(M.at e).2.2 j c
    exact ⟨L.getD j 0,DM (K.at_ j a).2.1 a,rfl,K.idem a⟩
  .exact ih x b
def uK{after:Dz->List Dz}{x0 x y:Dz}{n:Nat}(i:(bfQ after x0 n).length<=n)(hx:x∈bfQ after x0 n)(g:y∈after x):y∈bfQ after x0 n:=by
 obtain ⟨m,f⟩:=FG hx
 have a:=(AI.mp f).1
 have b:m < n:=A8 a i
 by_cases h:m < (bfQ after x0 m).length
 .have:=uH (l6 (DA b)) h f
  have e:=m9 this
  have d:y∈bfQ after x0 (m+1):=by rw[e];exact k6 _ g
  exact (l6 (show m+1<=n by omega)).subset d
 .exfalso
  have c:∀ k,(bfQ after x0 (m+k))=bfQ after x0 m:=by
   intro k
   induction k with
   | zero=>rfl
   | succ k ih=>
    have:(bfQ after x0 (m+k))[m+k]? = none:=by rw[ih];exact BE (by omega)
    rw[<-Nat.add_assoc,bfQ,this]
    exact ih
  obtain ⟨k,rfl⟩:=Nat.le.dest (DA b)
  rw[c k] at a
  omega
def aMT(M:Rdr a0 sg)(K:Lk a0 ws sg L)(T:Lst a0 ws L N){i c:Nat}(hi:i < N)(o:cF sg c=true) :
  stN1 (bW a0 L N) i c < N/\(roomsL a0 L N).getD (stN1 (bW a0 L N) i c) 0=L.getD (stN1 a0 ((roomsL a0 L N).getD i 0) c) 0:=by
 have l:=mK T
 have m:(roomsL a0 L N)[i]? = some ((roomsL a0 L N).getD i 0):=by rw[AG,AD (by omega)];rfl
 have h:=uJ M K _ (AM m)
 generalize p:(roomsL a0 L N).getD i 0=q at *
 have k:=l7 M K N
 have e:(bfQ (afL a0 L) (.int 0) N)[i]? = some (.int (q:Int)):=by rw[k,AC,m];rfl
 obtain ⟨e1,r⟩:=iK M h o
 have n:PyData.int (L.getD (stN1 a0 q c) 0:Int)∈afL a0 L (.int (q:Int)):=by rw[oW];exact AN.mpr ⟨_,AM e1,rfl⟩
 have f:=uK (E8 T.len) (AM e) n
 have d:(bW a0 L N).getD i []=(afL a0 L (.int (q:Int))).map (nrQ (bfQ (afL a0 L) (.int 0) N)):=by
  rw[AG]
  unfold bW
  rw[AC,e];rfl
 have g:stN1 (bW a0 L N) i c=nrQ (bfQ (afL a0 L) (.int 0) N) (.int (L.getD (stN1 a0 q c) 0:Int)):=by
  unfold stN1
  rw[d,AG,AC,oW,AC,e1];rfl
 have a:=nU f
 rw[g]
 generalize nrQ (bfQ (afL a0 L) (.int 0) N) (.int (L.getD (stN1 a0 q c) 0:Int))=j at *
 have b:=(AI.mp a).1
 rw[T.len] at b
 refine ⟨b,?_⟩
 rw[k,AC] at a
 cases z:(roomsL a0 L N)[j]? with
 | none=>rw[z] at a;cases a
 | some v=>
  rw[z] at a
  have:PyData.int (v:Int)=.int (L.getD (stN1 a0 q c) 0:Int):=BL a
  injection this with this
  rw[AG,z]
  show v=_
  omega
def aTN(M:Rdw a0 ws sg)(K:Lk a0 ws sg L)(T:Lst a0 ws L N):Rdw (bW a0 L N) (c8 a0 ws L N) sg:=by
 have a:(bW a0 L N).length=N:=by unfold bW;rw[AB,T.len]
 have k:1<=N:=by
  have:=T.len
  cases N with
  | zero=>simp[bfQ] at this
  | succ n=>omega
 have g:=T.le
 have n2:=M.r.n2
 refine ⟨⟨by omega,by omega,M.r.s1,M.r.s3,fun r i=>?_⟩,?_,fun w f=>?_⟩
 .obtain ⟨x,d,rfl⟩:=AN.mp i
  obtain ⟨q,c,rfl⟩:=nC M.r K d
  refine ⟨by rw[AB,oW,AB,(M.r.at c).2.1],fun j h=>?_⟩
  obtain ⟨y,e,rfl⟩:=AN.mp h
  have b:=nU (uK (E8 T.len) d e)
  have:=(AI.mp b).1
  rw[T.len] at this
  rw[a];exact this
 .unfold c8;rw[AB,mK T,a]
 .obtain ⟨q,c,rfl⟩:=AN.mp f
  exact (M.w (uJ M.r K q c)).1
theorem aMU(M:Rdr a0 sg)(K:Lk a0 ws sg L)(T:Lst a0 ws L N):∀ (w:List Nat) {i x:Nat},Sgs sg w->i < N->x < a0.length->(roomsL a0 L N).getD i 0=L.getD x 0->runN (bW a0 L N) i w < N/\(roomsL a0 L N).getD (runN (bW a0 L N) i w) 0=L.getD (runN a0 x w) 0
 | [],_,_,_,hi,_,h=>⟨hi,h⟩
 | c::t,i,x,hs,hi,hx,h=>by
  have hc:=hs c AS
  obtain ⟨h1,h2⟩:=aMT M K T hi hc
  have a:=(iK M hx hc).2
  have d:=K.at_ x hx
  have b:L.getD x 0 < a0.length:=DM d.2.1 hx
  have e:L.getD (stN1 a0 ((roomsL a0 L N).getD i 0) c) 0=L.getD (stN1 a0 x c) 0:=by
   rw[h]
   exact (K.iff (iK M b hc).2 a).mpr (d.2.2.1.sy.on hc)
  exact aMU M K T t (fun c hc=>hs c (AJ _ hc)) h1 a (h2.trans e)
def aU4(M:Rdw a0 ws sg)(K:Lk a0 ws sg L)(T:Lst a0 ws L N){w:List Nat}{i x:Nat}(a:Sgs sg w)(hi:i < N)(hx:x < a0.length)(h:(roomsL a0 L N).getD i 0=L.getD x 0) :
  (c8 a0 ws L N).getD (runN (bW a0 L N) i w) ""=ws.getD (runN a0 x w) "":=by
 obtain ⟨h1,h2⟩:=aMU M.r K T w a hi hx h
 have f:=mK T
 have b:(roomsL a0 L N)[runN (bW a0 L N) i w]? = some ((roomsL a0 L N).getD (runN (bW a0 L N) i w) 0):=by rw[AG,AD (by omega)];rfl
 have e:(c8 a0 ws L N).getD (runN (bW a0 L N) i w) ""=ws.getD ((roomsL a0 L N).getD (runN (bW a0 L N) i w) 0) "":=by
  rw[AG]
  unfold c8
  rw[AC,b];rfl
 rw[e,h2]
 have:=(K.at_ _ (pA M.r w a hx)).2.2.1 [] (fun c d=>by simp at d)
 exact this.symm
end
section
variable{after1 after2:Dz->List Dz}{x1 x2:Dz}{Rl:Dz->Dz->Prop}
def aMV(h1:∀ x y x' y',Rl x y->Rl x' y'->(x=x'↔y=y')){ps:List (Dz×Dz)}{q:Dz×Dz}(c:∀ p∈ps,Rl p.1 p.2)(b:Rl q.1 q.2):q.1∈ps.map (·.1)↔q.2∈ps.map (·.2):=by
 constructor
 .intro h
  obtain ⟨p,a,e⟩:=AN.mp h
  exact AN.mpr ⟨p,a,(h1 _ _ _ _ (c p a) b).mp e⟩
 .intro h
  obtain ⟨p,a,e⟩:=AN.mp h
  exact AN.mpr ⟨p,a,(h1 _ _ _ _ (c p a) b).mpr e⟩
theorem aAO(h1:∀ x y x' y',Rl x y->Rl x' y'->(x=x'↔y=y')):∀ (qs ps:List (Dz×Dz)),(∀ p∈ps,Rl p.1 p.2)->(∀ q∈qs,Rl q.1 q.2)->∃ ps':List (Dz×Dz),adA (ps.map (·.1)) (qs.map (·.1))=ps'.map (·.1)/\adA (ps.map (·.2)) (qs.map (·.2))=ps'.map (·.2)/\∀ p∈ps',Rl p.1 p.2
 | [],ps,hp,_=>⟨ps,rfl,rfl,hp⟩
 | q::qs,ps,hp,hq=>by
  have hq0:=hq q AS
  have e:=aMV h1 hp hq0
  by_cases h:q.1∈ps.map (·.1)
  .obtain ⟨ps',a,b,c⟩:=aAO h1 qs ps hp fun y d=>hq y (AJ _ d)
   refine ⟨ps',?_,?_,c⟩
   .show adA (adQ _ _) _=_;rw[kM h];exact a
   .show adA (adQ _ _) _=_;rw[kM (e.mp h)];exact b
  .obtain ⟨ps',a,b,c⟩:=aAO h1 qs (ps++[q]) (fun y d=>by
    rcases BK.mp d with z|z
    · exact hp y z
    · rw [AQ.mp z]; exact hq0) fun y d => hq y (AJ _ d)
   rw[BJ] at a b
   refine ⟨ps',?_,?_,c⟩
   .show adA (adQ _ _) _=_;rw[iJ h];exact a
   .show adA (adQ _ _) _=_;rw[iJ fun z=>h (e.mpr z)];exact b
def aGL(h0:Rl x1 x2)(j:∀ x y,Rl x y->∃ qs:List (Dz×Dz),after1 x=qs.map (·.1)/\after2 y=qs.map (·.2)/\∀ q∈qs,Rl q.1 q.2)(h1:∀ x y x' y',Rl x y->Rl x' y'->(x=x'↔y=y'))(n:Nat):∃ ps:List (Dz×Dz),bfQ after1 x1 n=ps.map (·.1)/\bfQ after2 x2 n=ps.map (·.2)/\∀ p∈ps,Rl p.1 p.2:=by
 induction n with
 | zero=>exact ⟨[(x1,x2)],rfl,rfl,fun p e=>by rw[AQ.mp e];exact h0⟩
 | succ n ih=>
  obtain ⟨ps,a,b,c⟩:=ih
  rw[bfQ,bfQ,a,b,AC,AC]
  cases q:ps[n]? with
  | none=>exact ⟨ps,rfl,rfl,c⟩
  | some p=>
   obtain ⟨qs,e1,e2,g⟩:=j p.1 p.2 (c p (AM q))
   obtain ⟨d,i,h,f⟩:=aAO h1 qs ps c g
   exact ⟨d,by show adA _ (after1 p.1)=_;rw[e1];exact i,by show adA _ (after2 p.2)=_;rw[e2];exact h,f⟩
theorem aGM(h1:∀ x y x' y',Rl x y->Rl x' y'->(x=x'↔y=y')){q:Dz×Dz}(a:Rl q.1 q.2):∀ (ps:List (Dz×Dz)),(∀ p∈ps,Rl p.1 p.2)->nrQ (ps.map (·.1)) q.1=nrQ (ps.map (·.2)) q.2
 | [],_=>rfl
 | p::t,hp=>by
  have ih:=aGM h1 a t fun y b=>hp y (AJ _ b)
  have e:=h1 _ _ _ _ (hp p AS) a
  unfold nrQ at ih ⊢
  rw[AY,AY,List.idxOf_cons,List.idxOf_cons]
  by_cases h:p.1=q.1
  · rw [G4.mpr h, G4.mpr (e.mp h)]; rfl
  · rw [D7.mpr h, D7.mpr fun z => h (e.mpr z), ih]
end
section
variable{r1 r2:List (List Nat)}{w1 w2:List Str}{sg:Nat}{L1 L2:List Nat}{N1 N2:Nat}
def EqX(r1 r2:List (List Nat))(w1 w2:List Str)(sg x y:Nat):Prop:=∀ w,Sgs sg w->w1.getD (runN r1 x w) ""=w2.getD (runN r2 y w) ""
def EqX.on{x y c:Nat}(h:EqX r1 r2 w1 w2 sg x y)(b:cF sg c=true):EqX r1 r2 w1 w2 sg (stN1 r1 x c) (stN1 r2 y c):=fun w e=>h (c::w) fun d a=>by
 rcases AT.mp a with q|q
 · rw [q]; exact b
 · exact e d q
def RlX(r1 r2:List (List Nat))(w1 w2:List Str)(sg:Nat)(L1 L2:List Nat)(a b:Dz):Prop:=∃ x y:Nat,a=.int (x:Int)/\b=.int (y:Int)/\x < r1.length/\y < r2.length/\L1.getD x 0=x/\L2.getD y 0=y/\EqX r1 r2 w1 w2 sg x y
def aGN(M:Rdr r1 sg){x:Nat}(hx:x < r1.length):r1.getD x []=(List.range sg).map fun k=>stN1 r1 x (97+k):=by
 have b:=M.at hx
 refine CN fun k=>?_
 rw[AC]
 by_cases a:k < sg
 .have:=(iK M hx (c:=97+k) (by unfold cF;exact AX (by omega))).1
  rw[show 97+k - 97=k by omega] at this
  rw[this,A9 a];rfl
 .rw[BE (by omega),BE (by rw[AW];omega)];rfl
def aKQ(M1:Rdr r1 sg)(M2:Rdr r2 sg)(g:Lk r1 w1 sg L1)(l:Lk r2 w2 sg L2):∀ a b,RlX r1 r2 w1 w2 sg L1 L2 a b->∃ qs:List (Dz×Dz),afL r1 L1 a=qs.map (·.1)/\afL r2 L2 b=qs.map (·.2)/\∀ q∈qs,RlX r1 r2 w1 w2 sg L1 L2 q.1 q.2:=by
 rintro _ _ ⟨x,y,rfl,rfl,hx,hy,_,_,h⟩
 refine ⟨(List.range sg).map fun k=>(.int (L1.getD (stN1 r1 x (97+k)) 0:Int),.int (L2.getD (stN1 r2 y (97+k)) 0:Int)),?_,?_,fun q m=>?_⟩
 .rw[oW,aGN M1 hx,A6,A6];rfl
 .rw[oW,aGN M2 hy,A6,A6];rfl
 .obtain ⟨k,n,rfl⟩:=AN.mp m
  have e:cF sg (97+k)=true:=by unfold cF;exact AX (by have:=AZ.mp n;omega)
  have d:=(iK M1 hx e).2
  have f:=(iK M2 hy e).2
  have j:=g.at_ _ d
  have i:=l.at_ _ f
  refine ⟨_,_,rfl,rfl,DM j.2.1 d,DM i.2.1 f,g.idem d,l.idem f,fun w c=>?_⟩
  rw[<-j.2.2.1 w c,<-i.2.2.1 w c]
  exact h.on e w c
def aQG(f:Lk r1 w1 sg L1)(d:Lk r2 w2 sg L2):∀ a b a' b',RlX r1 r2 w1 w2 sg L1 L2 a b->RlX r1 r2 w1 w2 sg L1 L2 a' b'->(a=a'↔b=b'):=by
 rintro _ _ _ _ ⟨x,y,rfl,rfl,hx,hy,fx,fy,h⟩ ⟨x',y',rfl,rfl,hx',hy',fx',fy',h'⟩
 constructor
 .intro e
  injection e with e
  obtain rfl:x=x':=by omega
  have:EqA r2 w2 sg y y':=fun w c=>(h w c).symm.trans (h' w c)
  rw[<-fy,<-fy',(d.iff hy hy').mpr this]
 .intro e
  injection e with e
  obtain rfl:y=y':=by omega
  have:EqA r1 w1 sg x x':=fun w c=>(h w c).trans (h' w c).symm
  rw[<-fx,<-fx',(f.iff hx hx').mpr this]
def aHY(M1:Rdw r1 w1 sg)(M2:Rdw r2 w2 sg)(f:Lk r1 w1 sg L1)(e:Lk r2 w2 sg L2)(o:Lst r1 w1 L1 N1)(k:Lst r2 w2 L2 N2)(h:EqX r1 r2 w1 w2 sg 0 0) :
  N1=N2/\bW r1 L1 N1=bW r2 L2 N2/\c8 r1 w1 L1 N1=c8 r2 w2 L2 N2:=by
 have B:=(f.at_ 0 M1.r.n1).2.1
 have z:=(e.at_ 0 M2.r.n1).2.1
 have s:RlX r1 r2 w1 w2 sg L1 L2 (.int 0) (.int 0):=⟨0,0,rfl,rfl,M1.r.n1,M2.r.n1,by omega,by omega,h⟩
 have l:=aKQ M1.r M2.r f e
 have h1:=aQG (w1:=w1) (w2:=w2) f e
 have m:=aGL s l h1
 have d:∀ n,(bfQ (afL r1 L1) (.int 0) n).length=(bfQ (afL r2 L2) (.int 0) n).length:=fun n=>by
  obtain ⟨ps,a,b,_⟩:=m n
  rw[a,b,AB,AB]
 have u:N1=N2:=by
  rcases DF N1 N2 with q|q|q
  .have:=k.on N1 q
   have a:=o.len
   have b:=d N1
   omega
  .exact q
  .have:=o.on N2 q
   have a:=k.len
   have b:=d N2
   omega
 subst u
 obtain ⟨ps,a,b,c⟩:=m N1
 refine ⟨rfl,?_,?_⟩
 .unfold bW
  rw[a,b,A6,A6]
  refine BI fun p i=>?_
  obtain ⟨qs,e1,e2,v⟩:=l p.1 p.2 (c p i)
  show (afL r1 L1 p.1).map _=(afL r2 L2 p.2).map _
  rw[e1,e2,A6,A6]
  refine BI fun q j=>?_
  exact aGM h1 (v q j) ps c
 .unfold c8 roomsL
  rw[a,b,A6,A6,A6,A6]
  refine BI fun p i=>?_
  obtain ⟨x,y,e1,e2,A,w,_,_,g⟩:=c p i
  show w1.getD (match p.1 with | .int q=>q.toNat|_=>0) ""=w2.getD (match p.2 with | .int q=>q.toNat|_=>0) ""
  rw[e1,e2]
  show w1.getD ((x:Int)).toNat ""=w2.getD ((y:Int)).toNat ""
  rw[show ((x:Int)).toNat=x by omega,show ((y:Int)).toNat=y by omega]
  exact g [] fun c t=>by simp at t
end
section
variable{a0 r1 r2:List (List Nat)}{ws w1 w2:List Str}{sg:Nat}{L L1 L2:List Nat}{N N1 N2:Nat}
def aAP(T:Lst a0 ws L N):0 < N:=by
 have:=T.len
 cases N with
 | zero=>simp[bfQ] at this
 | succ n=>omega
def yR(M:Rdr a0 sg)(K:Lk a0 ws sg L)(T:Lst a0 ws L N):(roomsL a0 L N).getD 0 0=L.getD 0 0:=by
 have h:=K.at_ 0 M.n1
 have e:(roomsL a0 L N)[0]? = some 0:=by
  have:=nA (afL a0 L) (.int 0) N
  rw[l7 M K,AC] at this
  cases z:(roomsL a0 L N)[0]? with
  | none=>rw[z] at this;cases this
  | some v=>
   rw[z] at this
   have:PyData.int (v:Int)=.int 0:=BL this
   injection this with this
   rw[show v=0 by omega]
 rw[AG,e]
 show 0=_
 omega
def tF(M:Rdw a0 ws sg)(K:Lk a0 ws sg L)(T:Lst a0 ws L N):EqX (bW a0 L N) a0 (c8 a0 ws L N) ws sg 0 0:=fun w a=>
 aU4 M K T a (aAP T) M.r.n1 (yR M.r K T)
def aBM(M1:Rdw r1 w1 sg)(M2:Rdw r2 w2 sg)(f:Lk r1 w1 sg L1)(e:Lk r2 w2 sg L2)(c:Lst r1 w1 L1 N1)(d:Lst r2 w2 L2 N2) :
  (bW r1 L1 N1=bW r2 L2 N2/\c8 r1 w1 L1 N1=c8 r2 w2 L2 N2)↔EqX r1 r2 w1 w2 sg 0 0:=by
 constructor
 .rintro ⟨h1,h2⟩ w hw
  have a:=tF M1 f c w hw
  have b:=tF M2 e d w hw
  rw[h1,h2] at a
  exact a.symm.trans b
 .intro h
  exact (aHY M1 M2 f e c d h).2
end
end Mc
namespace Zp
open L2
def gU{κ:Type}[DecidableEq κ]:List κ->List κ->List κ
 | a7,[]=>a7
 | a7,k::ks=>gU (if k∈a7 then a7 else a7++[k]) ks
theorem xA{κ:Type}[DecidableEq κ]:∀ (ks:List κ) (a7:List κ) (k:κ),gU a7 (ks++[k])=if k∈gU a7 ks then gU a7 ks else gU a7 ks++[k]
 | [],_,_=>rfl
 | x::ks,a7,k=>xA ks _ k
theorem pT{κ:Type}[DecidableEq κ]:∀ (ks:List κ) (a7:List κ) (k:κ),k∈gU a7 ks↔k∈a7\/k∈ks
 | [],a7,k=>by simp[gU]
 | x::ks,a7,k=>by
  rw[gU,pT ks]
  by_cases h:x∈a7
  .rw[AL h]
   constructor
   .rintro (a|a)
    .exact .inl a
    .exact .inr (.tail _ a)
   .rintro (a|a)
    .exact .inl a
    .cases a with
     | head=>exact .inl h
     | tail _ a=>exact .inr a
  .rw[AK h]
   simp only[BK,AT,CC,D0,or_assoc]
theorem xB{κ:Type}[DecidableEq κ]:∀ (ks:List κ) (a7:List κ),(gU a7 ks).length<=a7.length+ks.length
 | [],a7=>by simp[gU]
 | x::ks,a7=>by
  rw[gU]
  have:=xB ks (if x∈a7 then a7 else a7++[x])
  by_cases h:x∈a7
  · rw [AL h] at this ⊢; simp only [BB]; omega
  · rw [AK h] at this ⊢; simp only [BB, A5, BD] at this ⊢; omega
def aHZ{k:Key}{v:V9}(h:lF k v=true):v.scannable=true:=by
 rcases keyIs_shape h with ⟨i,t,rfl,rfl⟩|⟨x,t,rfl,rfl⟩<;>rfl
def aE1{prog:P9}{w:W9}{h:H9}{a:Az}{S b:Key->Bool}{n c:Nat}(x:Heap.SetOf (dA prog w) h a S n)(e:∀ k,S k=b k)(d:n=c):Heap.SetOf (dA prog w) h a b c:=by
 have:S=b:=funext e
 subst this;subst d;exact x
def qM{κ:Type}[DecidableEq κ](ks:List κ)(k:κ):Bool:=ks.any fun x=>decide (x=k)
def aEE{κ:Type}[DecidableEq κ](ks:List κ)(k:κ):qM ks k=true↔k∈ks:=by
 unfold qM
 rw[GK]
 constructor
 .rintro ⟨x,h,e⟩
  rw[<-of_decide_eq_true e];exact h
 .intro h
  exact ⟨k,h,AX rfl⟩
def aMW{κ:Type}[DecidableEq κ](ks:List κ)(x k:κ):qM (ks++[x]) k=(qM ks k || decide (k=x)):=by
 unfold qM
 rw[List.any_append]
 simp only[FY,List.any_nil,Bool.or_false]
 congr 1
 exact decide_eq_decide.mpr eq_comm
def aMX{prog:P9}{w:W9}{A:U9}{R:Result->S9->Prop}{I S l:Az}{items:Array V9}{ks:List Key}(T:A.handled=none)(P:l≠I)(a:S≠I)(B:S≠l)
  (V:∀ (i:Nat) v,items[i]? = some v->∃ k,ks[i]? = some k/\lF k v=true) (Z:items.size=ks.length) (Y:items.size+1 < scanBound) :
  ∀ (k i:Nat) (s:S9),items.size - i=k->i<=items.size->s.heap.IsListIter I l i->s.heap.IsList l items->Heap.SetOf (dA prog w) s.heap S (qM (ks.take i)) (gU [] (ks.take i)).length->
   (∀ h' tk,(∀ b o,b≠I->b≠S->s.heap.get? b=some o->h'.get? b=some o)->Heap.SetOf (dA prog w) h' S (qM ks) (gU [] ks).length->R (.ok (.ret .none)) {s with heap:=h',toks:=tk})->
   codeAny (model prog w) A (.builtin "set.update.loop" ⟨[.ref S,.ref I],[]⟩) R s:=by
 have W:=(Walks.list (prog:=prog) (w:=w) (A:=A.in1) (by exact T) I l P items).toS
 intro k
 induction k with
 | zero=>
  intro i s E hi f p n G
  have:i=items.size:=by omega
  subst this
  refine GU ER ?_
  rw[Around.under_plainId DN _]
  show wpAny _ A.in1 (pyNext (.ref I) >>= _) _ _ s
  refine AA (W.done s _ _ ⟨f,p⟩ fun s' M=>AH ?_)
  obtain ⟨z,g,d,tk,os⟩:=s'
  obtain ⟨j,y,F,K,U⟩:=M
  cases y;cases F;cases K
  refine G z tk (fun b o h1 _ e=>j b o (by simpa using h1) e) ?_
  obtain ⟨o,es,ep,t,e,r⟩:=n
  rw[C6 (by omega)] at r
  exact ⟨o,es,ep,t,j _ _ (by simpa using a) e,r⟩
 | succ k ih=>
  intro i s E hi f p n G
  refine GU ER ?_
  rw[Around.under_plainId DN _]
  show wpAny _ A.in1 (pyNext (.ref I) >>= _) _ _ s
  refine AA (W.item i s _ _ (by omega) ⟨f,p⟩ fun v s' Q St M=>?_)
  obtain ⟨z,g,d,tk,os⟩:=s'
  obtain ⟨j,y,F,K,U⟩:=M
  cases y;cases F;cases K
  obtain ⟨N,e1,e2⟩:=V i v Q
  have H:Heap.SetOf (dA prog w) z S (qM (ks.take i)) (gU [] (ks.take i)).length:=by
   obtain ⟨o,es,ep,t,e,r⟩:=n
   exact ⟨o,es,ep,t,j _ _ (by simpa using a) e,r⟩
  show wpAny _ A.in1 (holding [v] (setAdd S v) >>= _) _ _ _
  refine AA (CA ?_)
  unfold setAdd
  refine CA (AA ((dA prog w).pyHash e2 ?_))
  have h:(gU [] (ks.take i)).length+1 < scanBound:=by
   have h1:=xB (ks.take i) []
   rw[BO] at h1
   simp only[BD] at h1
   omega
  refine wpAny_setAddHashed_of (knd:=dA prog w) e2 (aHZ e2) H h fun h' C st=>?_
  refine AH ⟨plainId_quiet DN _,?_⟩
  have L:ks.take (i+1)=ks.take i++[N]:=by rw[CY,e1];rfl
  refine ih (i+1) _ (by omega) (by omega) ?_ ?_ ?_ ?_
  .obtain ⟨c,u,r⟩:=St.1
   exact ⟨c,C.extBut _ _ (fun q=>a q.symm) u,r⟩
  .obtain ⟨c,u,r⟩:=St.2
   exact ⟨c,C.extBut _ _ (fun q=>B q.symm) u,r⟩
  .refine aE1 st (fun X=>?_) ?_
   .rw[L,aMW]
   .rw[L,xA]
    by_cases m:N∈gU [] (ks.take i)
    · rw [AL m, AL ((aEE _ _).mpr (((pT _ _ _).mp m).resolve_left (fun q => nomatch q)))]
    · rw [AK m, AK (fun q => m ((pT _ _ _).mpr (.inr ((aEE _ _).mp q)))), A5]; rfl
  .intro h2 D J x
   exact G h2 D (fun b o h1 O e=>J b o h1 O (C.extBut _ _ O (j b o (by simpa using h1) e))) x
def aEF{prog:P9}{w:W9}{A:U9}{E:V9->S9->Prop}{s:S9}{l:V9}{Q:V9->S9->Prop}
  (h:∀ led,wpAny (model prog w) A.in1.in1 (Builtin.«set.__init__» {pos:=[.ref s.heap.objs.size,l]}) (fun i s'=>match i with
   | .done f=>wants (fun r a=>r=Value.none/\Q (.ref s.heap.objs.size) a) E (Except.ok f) s'
   | .again c'=>c'.quiet=true/\codeAny (model prog w) A.in1 c' (wants (fun r a=>r=Value.none/\Q (.ref s.heap.objs.size) a) E) s') (fun e s'=>E e s')
   {s with heap:=s.heap.push {cls:=.type "set",data:=.set #[] 0 (SetTable.fresh 0 0 led)}}) :
  wpAny (model prog w) A (call (.type "set") [l]) Q E s:=by
 obtain ⟨c,tl,g⟩:=D4.mro
 refine ES (codeAny_of_tree (AH ⟨Code.quiet_builtin {pos:=Value.type "set"::[l]} (by kernel_rfl),GU F.entry_type_call ?_⟩))
 rw[Around.under_plain (weight_type_call_type "set" [l] []) rfl]
 unfold Builtin.«type.__call__»
 refine FH D4.notType (FH D4.canCreate ?_)
 refine AA (FR (F.typeCall_set_1 l) (AA (FR g (FH rfl (AA (FR D4.made (AA (AH (AA (CA ?_))))))))))
 refine ES (EH (code_set_new_1 (E:=E) (Q₁:=fun obj b=>obj=.ref s.heap.objs.size/\∃ led,b={s with heap:=s.heap.push {cls:=.type "set",data:=.set #[] 0 (SetTable.fresh 0 0 led)}}) l fun led=>⟨rfl,led,rfl⟩) fun r b d=>?_)
 cases r with
 | error e=>exact d
 | ok f=>
  cases f with
  | ret v=>
   obtain ⟨rfl,led,rfl⟩:=d
   have k:(s.heap.push {cls:=.type "set",data:=.set #[] 0 (SetTable.fresh 0 0 led)}).get? s.heap.objs.size=some {cls:=.type "set",data:=.set #[] 0 (SetTable.fresh 0 0 led)}:=A4 _ rfl
   have j:({s with heap:=s.heap.push {cls:=.type "set",data:=.set #[] 0 (SetTable.fresh 0 0 led)}}:S9).TypeIs (.ref s.heap.objs.size) "set":=⟨_,k,rfl⟩
   refine AA (EL j D4.sub (FH rfl (AA (CA ?_))))
   refine AA (GR j D4.init.lookup (CA (AA (FR (D4.init.bind _) (AA (ES (EH (codeAny_call_builtin (R:=wants (fun r a=>r=Value.none/\Q (.ref s.heap.objs.size) a) E) D4.init.plain F.entry_set_init (check_set_init_1 j (h led))) fun r a d=>?_)))))))
   cases r with
   | error e=>exact d
   | ok f=>
    cases f with
    | ret v=>
     obtain ⟨rfl,m⟩:=d
     exact AH (AH m)
    | _=>exact d.elim
  | _=>exact d.elim
def aKR{prog:P9}{w:W9}{A:U9}{E:V9->S9->Prop}{s:S9}{l:Az}{items:Array V9}{ks:List Key}{Q:V9->S9->Prop}(G:A.handled=none)(t:s.heap.IsList l items)
  (M:∀ (i:Nat) v,items[i]? = some v->∃ k,ks[i]? = some k/\lF k v=true) (L:items.size=ks.length) (K:items.size+1 < scanBound)
  (H:∀ h' tk,(∀ b o,s.heap.get? b=some o->h'.get? b=some o)->Heap.SetOf (dA prog w) h' s.heap.objs.size (qM ks) (gU [] ks).length->Q (.ref s.heap.objs.size) {s with heap:=h',toks:=tk}) :
  wpAny (model prog w) A (call (.type "set") [.ref l]) Q E s:=by
 have m:l < s.heap.objs.size:=by obtain ⟨c,D,_⟩:=t;exact AV D
 refine aEF fun a=>?_
 have q:(s.heap.push {cls:=.type "set",data:=.set #[] 0 (SetTable.fresh 0 0 a)}).get? s.heap.objs.size=some {cls:=.type "set",data:=.set #[] 0 (SetTable.fresh 0 0 a)}:=A4 _ rfl
 have J:=t
 obtain ⟨C,z,h,c,x⟩:=t
 generalize p:s.heap.objs.size=S at *
 have B:S≠l:=DB m
 have g:=AE {cls:=.type "set",data:=.set #[] 0 (SetTable.fresh 0 0 a)} z
 have y:({s with heap:=s.heap.push {cls:=.type "set",data:=.set #[] 0 (SetTable.fresh 0 0 a)}}:S9).TypeIs (.ref S) "set":=⟨_,q,rfl⟩
 have d:({s with heap:=s.heap.push {cls:=.type "set",data:=.set #[] 0 (SetTable.fresh 0 0 a)}}:S9).TypeIs (.ref l) "list":=⟨_,g,h⟩
 unfold Builtin.«set.__init__»
 refine AA (AH (AA ?_))
 unfold typeNameOfCut shownTypeOf
 refine AA (AA (wpAny_typeOf y ?_))
 refine AH ?_
 refine AH (AA (AH (AA (AH (AA ?_)))))
 unfold setUsed setState
 refine AA (AA (wpAny_load q (AH (AH ?_))))
 show wpAny _ _ (Builtin.Frozenset.updateFrom "set.__init__" S (.ref l) >>= _) _ _ _
 refine AA ?_
 unfold Builtin.Frozenset.updateFrom Builtin.Frozenset.isAnySet
 refine AA ?_
 refine AA (EL d F.sub_list_set ?_)
 refine EL d F.sub_list_frozenset ?_
 refine AA (wpAny_typeOf d ?_)
 have n:(s.heap.push {cls:=.type "set",data:=.set #[] 0 (SetTable.fresh 0 0 a)}).IsList l items:=⟨C,g,h,c,x⟩
 show wpAny _ _ (pyIter (.ref l) >>= _) _ _ _
 have j:(s.heap.push {cls:=.type "set",data:=.set #[] 0 (SetTable.fresh 0 0 a)}).objs.size=S+1:=by rw[B6,p]
 refine AA (EV n (AA (wpAny_runValue ?_)))
 show codeAny _ _ (.builtin "set.update.loop" ⟨[.ref S,.ref (s.heap.push _).objs.size],[]⟩) _ _
 have up:∀ b o,s.heap.get? b=some o->(s.heap.push {cls:=.type "set",data:=.set #[] 0 (SetTable.fresh 0 0 a)}).get? b=some o:=fun b o e=>AE _ e
 generalize s.heap.push {cls:=.type "set",data:=.set #[] 0 (SetTable.fresh 0 0 a)}=N at *
 rw[j]
 refine aMX (I:=S+1) (S:=S) (l:=l) (items:=items) (ks:=ks) (A:=A.in1.in1) G (BP (F8 m)) (BP (GG S)) B M L K items.size 0 _ (by omega) (by omega) ?_ ?_ ?_ ?_
 .refine ⟨{cls:=.type "list_iterator",data:=.fields #[.ref l,.int 0 0]},?_,rfl,rfl⟩
  rw[<-j]
  exact A4 _ rfl
 .exact n.push _
 .letI:BEq Key:=instBEqOfDecidableEq
  haveI:LawfulBEq Key:=inferInstance
  refine (PyProof.Rows.setObjOf_fresh (knd:=dA prog w) a).setOf (AE _ q) (by decide)
 .intro h' tk r u
  refine AH (AH ⟨rfl,H h' tk (fun b o e=>?_) u⟩)
  have f:b < S:=p▸AV e
  exact r b o (BP (F8 f)) (BP f) (AE _ (up b o e))
end Zp
namespace L2
open PySem.Spec PyProof.Rows
def aEG:V->O9 Key
 | .int i=>some (.inl i)
 | .str z=>some (.inr z)
 | _=>none
def aQH{v:V}{k:Key}{u:V9}(h:aEG v=some k)(r:bL v u):lF k u=true:=by
 cases v<;>simp only[aEG] at h<;>cases h
 · obtain ⟨t, rfl⟩ := r; simp [lF, Value.isInt]
 · obtain ⟨t, rfl⟩ := r; simp [lF, Value.isStrOf]
def aAQ{X:Cx}{a:E3}{ta:TA}{D p2 pos b:Pos}(G:X.calm=true)(m:Gl X "len")(j:X.mg "len"=none)(x:Gl X "set")(n:X.mg "set"=none)(O:PA X [a] ta)
  (N:starEach [a] X.env=[(false,eval a X.env)]:=by rfl)
  (hs3:starEach [.Call (.Name "set" p2) [a] [] b] X.env=[(false,eval (.Call (.Name "set" p2) [a] [] b) X.env)]:=by rfl) :
  PE X (.Call (.Name "len" D) [.Call (.Name "set" p2) [a] [] b] [] pos) (tCB (fun xs H Q=>∃ p ys ks,xs=[.ref p]/\SqL X.K H p ys/\ys.map aEG=ks.map some/\ys.length < 4000/\Q (.int ((Zp.gU [] ks).length:Nat)) H) ta):=by
 intro a5 s σ H Q I h
 refine CP (nI I m j A7 ?_ (by decide) (by decide))
 refine E7 (e:=.Call (.Name "set" p2) [a] [] b) (rest:=[]) ?_ hs3 rfl
 rw[hs3]
 show wpAny _ _ (spliced [(false,eval (.Call (.Name "set" p2) [a] [] b) X.env)]) _ _ s
 refine Calls.spliced_cons ?_
 refine CP (nI I x n PyProof.Rows.boot_set (CZ (thn (O b a5 s σ H _ I h) fun us s1 w=>?_) (by rw[N];rfl) (by rfl)))
 obtain ⟨vs,H1,r,r1,L⟩:=w
 obtain ⟨p,ys,ks,rfl,M,C,Y,q⟩:=L
 obtain ⟨u,rfl,J⟩:=oM r1
 cases J
 obtain ⟨d,B,E,hz⟩:=r.list M
 have z:=B.length
 have U:ys.length=ks.length:=by simpa using congrArg List.length C
 refine Zp.aKR (ks:=ks) (items:=d.toArray) (r.ok.hd G) E.isList (fun i v g=>?_) (by simp only[BH];omega) (by simp only[BH,scanBound];omega) fun h' tk F st=>?_
 .rw[List.getElem?_toArray] at g
  have hi:i < d.length:=(AI.mp g).1
  have y:ys[i]? = some ys[i]:=AD (by omega)
  have c:=CL (fun l=>l[i]?) C
  simp only[AC,y,DS] at c
  cases f:ks[i]? with
  | none=>rw[f] at c;cases c
  | some k=>
   rw[f] at c
   obtain ⟨u2,e2,r2⟩:=B.get y
   rw[g] at e2
   cases e2
   exact ⟨k,rfl,aQH (BL c) r2⟩
 refine Calls.spliced_nil ?_
 obtain ⟨o,es,ep,t,V,S,P,Z,g5,g6,T,A⟩:=st
 have R:=Zp.xB ks []
 have W:(Zp.gU [] ks).length < 4000:=by simp only[BD] at R;omega
 refine call_len_set (s:={s1 with heap:=h',toks:=tk}) V S P T (by rw[A];omega) ?_
 rw[A]
 exact ⟨.int ((Zp.gU [] ks).length:Nat),H1,(r.kept (t':=tk) F).tok _,⟨_,rfl⟩,q⟩
end L2
namespace Fl
open L2 PyProof.Rows
def j9:Dz->O9 Key
 | .int i=>some (.inl i)
 | .str z=>some (.inr z)
 | _=>none
def tG:List Dz->O9 (List Key)
 | []=>some []
 | d::ds=>match j9 d,tG ds with
  | some k,some ks=>some (k::ks)
  | _,_=>none
def dSetN:Dz->R Dz
 | .list xs=>match tG xs with
  | some ks=>if xs.length < 4000 then .ok (.int ((Zp.gU [] ks).length:Nat)) else .bad
  | none=>.bad
 | _=>.bad
def aH0:mF dSetN:=by intro a e h;unfold dSetN at h;split at h<;>(try split at h)<;>(try split at h)<;>cases h
theorem aBN{K:Frag}{F:Hp}:∀ {xs:List Dz} {vs:List V} {ks:List Key},DatVs K F vs xs->tG xs=some ks->vs.map aEG=ks.map some
 | [],vs,ks,r,h=>by cases r;cases h;rfl
 | d::ds,vs,ks,r,h=>by
  cases r with
  | cons r1 r2=>
   unfold tG at h
   split at h
   .rename_i k a h1 h2
    cases h
    rw[AY,AY,aBN r2 h2]
    congr 1
    cases r1<;>simp only[j9] at h1<;>cases h1<;>rfl
   .cases h
section
variable{X:Cx}{c:Ct}{E:XK}{e:E3}
def aAR{i:Sg->R Dz}(j:X.K=c.K)(h0:PE X e (tCB (fun xs H Q=>∃ p ys ks,xs=[.ref p]/\SqL X.K H p ys/\ys.map aEG=ks.map some/\ys.length < 4000/\Q (.int ((Zp.gU [] ks).length:Nat)) H) (gL (tV (bO c) c E i) kC))):PD X c E e (e1 dSetN i):=
 PE.imp h0 fun σ H Q h=>by
  obtain ⟨ρ,F,ab,k⟩:=tV1 (Ra:=bO c) sH aH0 (mE c) h
  refine ⟨ρ,F,ab,k.imp fun d _ q v l H' s r=>?_⟩
  obtain ⟨u,t,a,n,g,m,b,q⟩:=q v l H' s r
  unfold dSetN at b
  split at b
  .split at b
   .rename_i ks f
    split at b
    .rename_i o
     cases b
     obtain ⟨p,vs,rfl,h1,h2⟩:=bG.lst_of g m
     rw[<-j] at h1
     have:=h2.length
     exact ⟨p,vs,ks,rfl,h1,aBN h2 f,by omega,q _ _ _ (Ext.refl g) (.int _)⟩
    .cases b
   .cases b
  .cases b
end
def aQI(i j:Nat)(f g:Sg->R Dz):Sg->R Fw:=fun ρ=>match ρ[i]? with
 | some (some (.l xs))=>match ρ[j]? with
  | some (some (.m a6))=>(f ρ).bind fun k=>(g ρ).bind fun y=>if cK k (a6.map (·.1))=true/\a6.length<=16777216/\xs.length < 16777216/\i≠j then
   .ok (.nx ((ρ.set j (some (.m (match eO a6 k with|some _=>a6|none=>putM a6 k y)))).set i (some (.l (xs++[(eO a6 k).getD y]))))) else .bad
  | _=>.bad
 | _=>.bad
@[simp] theorem aU5(i j:Nat)(f g:Sg->R Dz)(ρ:Sg):aQI i j f g ρ=match ρ[i]? with
 | some (some (.l xs))=>match ρ[j]? with
  | some (some (.m a6))=>(f ρ).bind fun k=>(g ρ).bind fun y=>if cK k (a6.map (·.1))=true/\a6.length<=16777216/\xs.length < 16777216/\i≠j then
   .ok (.nx ((ρ.set j (some (.m (match eO a6 k with|some _=>a6|none=>putM a6 k y)))).set i (some (.l (xs++[(eO a6 k).getD y]))))) else .bad
  | _=>.bad
 | _=>.bad:=id rfl
@[simp] theorem aV9(i:Nat)(ρ:Sg):vH i ρ=match ρ[i]? with
 | some (some (.m a6))=>if a6.length<=16777216 then .ok (.int (a6.length:Int)) else .bad
 | some (some (.f a6))=>if a6.length<=16777216 then .ok (.int (a6.length:Int)) else .bad
 | _=>.bad:=id rfl
end Fl
namespace Mc
open L2 PyProof.Rows Fl
section
variable{a0:List (List Nat)}{ws:List Str}{sg:Nat}
def aKS{a b:Dz}{k:Key}(h1:j9 a=some k)(h2:j9 b=some k):a=b:=by
 cases a<;>cases b<;>simp only[j9,EG,reduceCtorEq] at h1 h2<;>subst h1<;>first|(injection h2 with e;rw[e])|cases h2
theorem aEH{κ:Nat->Dz}{key:Nat->Key}:∀ (xs:List Nat),(∀ x∈xs,j9 (κ x)=some (key x))->tG (xs.map κ)=some (xs.map key)
 | [],_=>rfl
 | x::t,h=>by
  rw[AY,AY,tG,h x AS,aEH t fun y a=>h y (AJ _ a)]
open Classical in
theorem aEI{f:Nat->Key}:∀ n:Nat,(Zp.gU [] ((List.range n).map f)).length=(List.range n).countP fun x=>decide (∀ b,b < x->f x≠f b)
 | 0=>rfl
 | n+1=>by
  rw[GT,BJ,CS,Zp.xA,List.countP_append,List.countP_singleton]
  have ih:=aEI (f:=f) n
  by_cases h:f n∈Zp.gU [] ((List.range n).map f)
  .rw[AL h,ih]
   have h':=((Zp.pT _ _ _).mp h).resolve_left fun q=>nomatch q
   obtain ⟨b,a,e⟩:=AN.mp h'
   rw[AK]
   .rfl
   .intro q
    exact BF q b (AZ.mp a) e.symm
  .rw[AK h,A5,ih,AL]
   .rfl
   .refine AX fun b a e=>h ?_
    rw[e]
    exact (Zp.pT _ _ _).mpr (.inr (AN.mpr ⟨b,AZ.mpr a,rfl⟩))
def kOk(d:Dz):Prop:=(∃ i,d=.int i)\/∃ w,aAM w/\d=.str w
def kOk.key{d:Dz}(h:kOk d):(j9 d).isSome=true:=by
 rcases h with ⟨i,rfl⟩|⟨w,_,rfl⟩<;>rfl
structure Kd(a0:List (List Nat))(ws:List Str)(sg i:Nat)(κ:Nat->Dz):Prop where
 ok:∀ x,x < a0.length->kOk (κ x)
 iff:∀ x y,x < a0.length->y < a0.length->(κ x=κ y↔EqI a0 ws sg i x y)
open Classical in
def Kd.cnt{i:Nat}{κ:Nat->Dz}(D:Kd a0 ws sg i κ)(h:a0.length < 4000):dSetN (.list ((List.range a0.length).map κ))=.ok (.int (nRep a0 ws sg i:Nat)):=by
 have g:tG ((List.range a0.length).map κ)=some ((List.range a0.length).map fun x=>(j9 (κ x)).getD (.inl 0)):=aEH _ fun x f=>by
  have:=(D.ok x (AZ.mp f)).key
  cases e:j9 (κ x) with
  | none=>rw[e] at this;cases this
  | some k=>rfl
 suffices hm:(Zp.gU [] ((List.range a0.length).map fun x=>(j9 (κ x)).getD (.inl 0))).length=nRep a0 ws sg i by
  unfold dSetN
  dsimp only
  rw[g]
  dsimp only
  rw[AL (by rw[AB,AW];exact h),hm]
 rw[aEI]
 unfold nRep
 refine List.countP_congr fun x f=>?_
 have f:=AZ.mp f
 rw[FT,FT]
 have same:∀ b,b < x->((j9 (κ x)).getD (.inl 0)=(j9 (κ b)).getD (.inl 0)↔EqI a0 ws sg i x b):=fun b d=>by
  rw[<-D.iff x b f (by omega)]
  have k1:=(D.ok x f).key
  have k2:=(D.ok b (by omega)).key
  constructor
  .intro h
   cases e1:j9 (κ x) with
   | none=>rw[e1] at k1;cases k1
   | some a=>
    cases e2:j9 (κ b) with
    | none=>rw[e2] at k2;cases k2
    | some c=>
     rw[e1,e2] at h
     have h:a=c:=h
     subst h
     exact aKS e1 e2
  .intro h;rw[h]
 constructor
 .intro h b d e;exact h b d ((same b d).mpr e)
 .intro h b d e;exact h b d ((same b d).mp e)
def aMY(M:Rdw a0 ws sg):Kd a0 ws sg 0 fun x=>.str (ws.getD x ""):=⟨fun x a=>.inr ⟨_,(M.w a).1,rfl⟩,fun x y _ _=>by
 rw[aEA]
 constructor
 · intro h; injection h
 · intro h; rw [h]⟩
def aQJ{i:Nat}{κ:Nat->Dz}(b:∀ x y,x < a0.length->y < a0.length->(κ x=κ y↔EqI a0 ws sg i x y)):Kd a0 ws sg i fun x=>.int (nrQ (adA [] ((List.range a0.length).map κ)) (κ x):Int):=⟨fun _ _=>.inl ⟨_,rfl⟩,fun x y d c=>by
 rw[<-b x y d c]
 have f:κ x∈adA [] ((List.range a0.length).map κ):=k6 _ (AN.mpr ⟨x,AZ.mpr d,rfl⟩)
 have e:κ y∈adA [] ((List.range a0.length).map κ):=k6 _ (AN.mpr ⟨y,AZ.mpr c,rfl⟩)
 constructor
 .intro h
  injection h with h
  have h:nrQ (adA [] ((List.range a0.length).map κ)) (κ x)=nrQ (adA [] ((List.range a0.length).map κ)) (κ y):=by omega
  have a:=nU f
  rw[h,nU e] at a
  exact (BL a).symm
 .intro h;rw[h]⟩
def aTO(M:Rdr a0 sg){i:Nat}(h:nRep a0 ws sg (i+1)<=nRep a0 ws sg i){x y:Nat}(hx:x < a0.length)(a:y < a0.length)(e:EqI a0 ws sg i x y):EqA a0 ws sg x y:=by
 have b:lkD a0 ws sg i=lkD a0 ws sg (i+1):=C9 fun q=>by have:=aAN q;omega
 intro w c
 have:=aD8 (ws:=ws) M (i:=i) (fun x y hx a e=>by
  have:=pS.mpr e
  rw[vR b x hx,vR b y a] at this
  exact pS.mp this) w.length hx a e
 exact this w c (by omega)
theorem kOk.keyD{d:Dz}(h:kOk d):keyD d=true:=by
 rcases h with ⟨i,rfl⟩|⟨w,h,rfl⟩
 .rfl
 .show PyData.strOk w=true
  rcases h with rfl|rfl|rfl<;>decide +kernel
def kOk.sh{d:Dz}(h:kOk d)(n:Nat):Sh n d:=by
 rcases h with ⟨i,rfl⟩|⟨w,h,rfl⟩
 · exact pD _ _
 · exact aIT _ (by rcases h with rfl | rfl | rfl <;> decide +kernel)
theorem aEJ:∀ {xs:List Dz},(∀ d∈xs,kOk d)->dW xs=true
 | [],_=>rfl
 | d::t,h=>by
  have ih:=aEJ (xs:=t) fun y a=>h y (AJ _ a)
  rw[dW,ih,(h d AS).keyD];rfl
end
def clT:Sg->R Bool:=(e1 asB (e2 dGt (e1 dSetN (rV 2)) (rV 3)))
def clB:Sg->R Fw:=(aJ (bU 3 (vD (e1 dSetN (rV 2))))
 (aJ (fM 4 (d0 [none,some 2,some 0] (gM (e1 dLen (rV 0))) (stN 0) fH (e2 cI (dP (aB (e2 dIx (rV 1) (rV 0)) aM)) (e1 dTup (eL (d0 [none,some 1] (e1 a9 (e2 dIx (rV 2) (rV 0))) (stN 0) fH (e2 dIx (rV 1) (rV 0))))))))
 (aJ (qA 5)
 (aJ (sFz 4 (lA (e1 a9 (eV 4)) (stN 6) (oP 5 (eV 6) (vH 5))))
 (fM 2 (d0 [none,some 5] (e1 a9 (rV 4)) (stN 0) fH (nG 1 (eV 0))))))))
def kN:Sg->R Fw:=(aJ (fM 2 (e1 dLst (rV 1))) (aJ (bU 3 (vD (eC (.int 0)))) (aJ (bV clT clB) (sFz 2 (bM (vV 2))))))
def gJ:List A->R A:=fnF 7 kN
def shI:Sg->R Fw:=(aJ (sIf (bOr (e1 asB (e2 dNe (rV 8) (eC (.int 1)))) (e1 asB (e2 dGt (rV 7) (rV 1)))) (bM (vD (eC (.bool false)))) sNx)
 (bU 1 (vD (e2 cI (rV 1) (e1 dInt (e2 dEq (rV 7) (rV 1)))))))
def shF:Sg->R Fw:=(aJ (n8 (stT [(stN 4),(stN 5),(stN 6)]) (eV 3))
 (aJ (sIf (bOr (e1 asB (e2 dGe (rV 2) (rV 1))) (bOr (e1 asB (e2 dNe (rV 4) (e2 dIx (eL (fG (aB (eC (.int 0)) (aB (eC (.str "out")) aM)))) (e1 dInt (e2 dGt (rV 2) (eC (.int 0))))))) (j4 (e1 asB (e1 (gZ "str") (rV 6)))))) (bM (vD (eC (.bool false)))) sNx)
 (lA (e1 a9 (eV 5)) (stT [(stN 7),(stN 8)]) shI)))
def lC:Sg->R Fw:=(aJ (bU 1 (vD (eC (.int 1)))) (aJ (lA (e1 sP (eV 0)) (stT [(stN 2),(stN 3)]) shF) (bM (vD (eC (.bool true))))))
def gY:List A->R A:=fnF 9 lC
def lwI:Sg->R Fw:=(sIf (e1 asB (e2 dNe (eA (aZ 2 eS (aB (vV 7) (aB (vV 11) aM)))) (e2 dIx (eL (fG (aB (eC (.str "out")) (aB (eC (.str "by")) aM)))) (e1 dInt (e2 dEq (eA (aZ 2 eS (aB (vV 1) (aB (vV 11) aM)))) (eC (.str "by"))))))) (bM (vD (eC (.bool false)))) sNx)
def lwF:Sg->R Fw:=(aJ (bU 9 (vD (e2 dMod (eA (aZ 2 bS (aB (vV 0) (aB (vD (e2 cI (eC (.int 10)) (rV 8))) aM)))) (eC (.int 41)))))
 (aJ (bU 10 (aZ 4 iD (aB (vV 0) (aB (vD (e2 cI (eC (.int 20)) (rV 8))) (aB (vV 9) (aB (vD (e1 dLen (e2 dIx (e2 dIx (rV 1) (eC (.int 0))) (eC (.int 1))))) aM))))))
 (lA (e1 a9 (eL (fG (aB (eV 10) (aB (eSl dSl (rV 10) oNo (oSo (e2 dDiv (rV 9) (eC (.int 4))))) (aB (e2 dIx (rV 3) (e2 dMod (rV 8) (e1 dLen (rV 3)))) aM)))))) (stN 11) lwI)))
def aH1:Sg->R Fw:=(aJ (n8 (stT [(stN 1),(stN 2)]) (eA (aZ 2 jE (aB (vV 0) (aB (vD (eC (.int 0))) aM)))))
 (aJ (n8 (stT [(stN 3),(stN 4),(stN 5)]) (eV 2))
 (aJ (bU 6 (vD (e1 dSetN (eA (aZ 2 gJ (aB (vV 4) (aB (vD (eL (d0 [none] (e1 a9 (rV 5)) (stN 0) fH (e2 dIx (eL (fG (aB (eC (.str "out")) (aB (eC (.str "by")) aM)))) (e1 dInt (e2 dEq (rV 0) (eC (.str "by")))))))) aM)))))))
 (aJ (bU 7 (aZ 1 iQ (aB (vV 1) aM)))
 (aJ (sIf (bOr (j4 (e1 asB (eA (aZ 3 gX (aB (vV 7) (aB (vV 6) (aB (vD (e1 dLen (e2 dIx (e2 dIx (rV 1) (eC (.int 0))) (eC (.int 1))))) aM))))))) (j4 (e1 asB (eA (aZ 1 gY (aB (vV 7) aM)))))) (bM (vD (eC (.bool false)))) sNx)
 (aJ (lA (gM (eC (.int 10))) (stN 8) lwF)
 (bM (vD (zL (e2 dEq (eA (aZ 1 iQ (aB (vV 1) aM))) (rV 7)) (e2 dEq (eA (aZ 1 iQ (aB (vV 7) aM))) (rV 7)))))))))))
def aH2:List A->R A:=fnF 12 aH1
def top(i:Nat):Stmt:=PySem.Challenge.pw_striproam_k31_machines_that_always_stop.main.body.getD i (.Pass ⟨0,0,0,0⟩)
def fB:ClSt:=clS "one_way.<locals>.after" ((dR (top 17)).getD 1 (.Pass ⟨0,0,0,0⟩))
def iT:Pos:=aSQ ((dR (top 17)).getD 1 (.Pass ⟨0,0,0,0⟩))
def iU:ClSt:=clE "one_way.<locals>.<lambda>" (aSP (aSO ((dR (top 17)).getD 2 (.Pass ⟨0,0,0,0⟩))) 2)
def iX:Pos:=aVX (aSP (aSO ((dR (top 17)).getD 2 (.Pass ⟨0,0,0,0⟩))) 2)
def f9:ClSt:=clS "least.<locals>.after" ((dR (top 23)).getD 1 (.Pass ⟨0,0,0,0⟩))
def jR:Pos:=aSQ ((dR (top 23)).getD 1 (.Pass ⟨0,0,0,0⟩))
def qsT:List (Pos×Str):=[(iT,("one_way.<locals>.after":Str)),(iX,("one_way.<locals>.<lambda>":Str)),(jR,("least.<locals>.after":Str))]
structure Txt(w:World)(K:Frag)(mg:Str->Option V9):Prop where
 b_all:mg "all"=none
 b_bool:mg "bool"=none
 b_enumerate:mg "enumerate"=none
 b_int:mg "int"=none
 b_isinstance:mg "isinstance"=none
 b_len:mg "len"=none
 b_list:mg "list"=none
 b_range:mg "range"=none
 b_set:mg "set"=none
 b_str:mg "str"=none
 b_tuple:mg "tuple"=none
 b_zip:mg "zip"=none
 g_MOST_BEGINNINGS:∃ t,mg "MOST_BEGINNINGS"=some (.int 200 t)
 g_MOST_ROOMS:∃ t,mg "MOST_ROOMS"=some (.int 60 t)
section
variable{P:P9}{w:W9}{K:Frag}{mg:Str->O9 V9}{base:H9}{TH:Hp}
def wG:FnScope ["machine"] ["machine"] (aO (top 5)):=by constructor<;>first|rfl|decide +kernel
def aE2(T:Txt w K mg)(D:DefAt K mg "signs_of" (top 5) ["machine"]):aT P w K mg base TH 1 "signs_of" ["machine"] kU:=
 @cP P w K mg base TH "signs_of" (top 5) ["machine"] ["machine"] 0 sQ D wG (fun f a A outer s H F E b=>by
  have nd:=wG.nd
  exact (Fl.aN (Fl.bE (aP (c6 rfl (bF b9 rfl T.b_len A7 (aG (aA (aX (aY rfl) aI (aA (aX (aY rfl) aI (aC (pv 0)) (aA aF))) (aA aF))) aK)))))))
def wH:FnScope ["machine","number"] ["machine","number"] (aO (top 6)):=by constructor<;>first|rfl|decide +kernel
def aE3(T:Txt w K mg)(D:DefAt K mg "cells_of" (top 6) ["machine","number"]):aT P w K mg base TH 1 "cells_of" ["machine","number"] kW:=
 @cP P w K mg base TH "cells_of" (top 6) ["machine","number"] ["machine","number"] 0 sR D wH (fun f a A outer s H F E e=>by
  have nd:=wH.nd
  exact (Fl.aN (Fl.bE (aP (dI (eH (eG (N:=["row","number"]) (js:=[none,some 1]) rfl (.own (.cap rfl (.inl rfl) (.inl rfl) .nil)) (by rfl) (k9 rfl (aC (pv 0)))) (by decide) (by decide) (is:=[0]) (fun cl C b c d=>⟨_,(bC (i:=0) (show (["row","number"]:List Str).Nodup by decide +kernel) rfl (Or.inl rfl)),(bD 0),Fl.dD,(aX (aY rfl) aI (aA (aX (aY rfl) aI (aC (pv 0)) (aA aF))) (aC (pv 1)))⟩)))))))
def yS:FnScope ["begin","after","done","found","numbers","rows","row","thing"] ["begin","after","done"] (aO (top 8)):=by constructor<;>first|rfl|decide +kernel
def aH3(T:Txt w K mg)(D:DefAt K mg "reached" (top 8) ["begin","after","done"]):aT P w K mg base TH 13 "reached" ["begin","after","done"] iO:=
 @cP P w K mg base TH "reached" (top 8) ["begin","after","done","found","numbers","rows","row","thing"] ["begin","after","done"] 12 t9 D yS (fun f b A outer s H F E a=>by
  have nd:=yS.nd
  exact (Fl.aD (fX (L2.aH (i:=3) nd rfl (Or.inl rfl) (eR (aL (bH (pv 0)) bI))))
   (Fl.aD (aFQ rfl rfl (L2.aH (i:=4) nd rfl (Or.inl rfl) (aFO a.units (aC8 (bH (pv 0)) aF aFP))))
   (Fl.aD (fX (L2.aH (i:=5) nd rfl (Or.inl rfl) (eR bI)))
   (Fl.aD (Fl.dU (L2.dU (dS ⟨rfl,rfl⟩) (PW.pt (Fl.nJ (Fl.cO qZ mQ (aA (c6 rfl (bF b9 rfl T.b_len A7 (aG (aC (pv 5)) aK)))) (aA (c6 rfl (bF b9 rfl T.b_len A7 (aG (aC (pv 3)) aK)))) (b7 _)) (Fl.mL (Fl.gB (Fl.eK (aO8 (m:=12) rfl rfl rfl (a.mono (by decide)) (aDA (pv 2) (b8 fun _ _ _ h=>h) (aDC (aC (pv 3)) (aDC (aA (c6 rfl (bF b9 rfl T.b_len A7 (aG (aC (pv 5)) aK)))) aO7)))))))))
   (Fl.aD (fX (L2.aH (i:=6) nd rfl (Or.inl rfl) (eR bI)))
   (Fl.aD (Fl.dJ (bD 7) (L2.dJ (dS ⟨rfl,rfl⟩) rfl (zM rfl (aSJ (m:=12) rfl rfl rfl (a.mono (by decide)) (aDA (pv 1) (b8 fun _ _ _ h=>h) (aL (aX (aY rfl) aI (aC (pv 3)) (aA (c6 rfl (bF b9 rfl T.b_len A7 (aG (aC (pv 5)) aK))))) bI)))) (bC (i:=7) nd rfl (Or.inl rfl))
   (Fl.aD (Fl.dY (rA rfl rfl (mM (wR a.units) (bH (pv 7)) (pv 4) (by with_unfolding_all rfl))) (Fl.aD (Fl.o6 rfl rfl (iL (c6 rfl (bF b9 rfl T.b_len A7 (aG (aC (pv 3)) aK))) (qU (pv 4) (bH (pv 7)) (mS a.units))))
   (Fl.aN (kF rfl (L2.gK (kQ BV BT BU gD (pv 3) (aG (bH (pv 7)) aK)))))) Fl.cS)
   (Fl.aN (kF rfl (L2.gK (kQ BV BT BU gD (pv 6) (aG (vB rfl rfl (vA a.units (pv 4) (bH (pv 7)) (fun _ _=>rfl))) aK))))))))
   (Fl.aN (kF rfl (L2.gK (kQ BV BT BU gD (pv 5) (aG (dX rfl (cC cA rfl T.b_tuple A2 (aG (aC (pv 6)) aK))) aK)))))))))
   (Fl.aN (p6 5 (p6 3 (Fl.bE (aP (dL (aL (bH (pv 3)) (aL (bH (pv 5)) bI)))))))))))))
def aEK:FnScope ["found","at"] ["found","at"] (aO (top 9)):=by constructor<;>first|rfl|decide +kernel
def aMZ(T:Txt w K mg)(D:DefAt K mg "never" (top 9) ["found","at"]):aT P w K mg base TH 1 "never" ["found","at"] lY:=
 @cP P w K mg base TH "never" (top 9) ["found","at"] ["found","at"] 0 zX D aEK (fun f a A outer s H F E b=>by
  have nd:=aEK.nd
  exact (Fl.aN (Fl.bE (aP iW))))
def yT:FnScope ["part"] ["part"] (aO (top 12)):=by constructor<;>first|rfl|decide +kernel
def aH4(T:Txt w K mg)(D:DefAt K mg "is_word" (top 12) ["part"]):aT P w K mg base TH 1 "is_word" ["part"] g9:=
 @cP P w K mg base TH "is_word" (top 12) ["part"] ["part"] 0 qB D yT (fun f a A outer s H F E b=>by
  have nd:=yT.nd
  exact (Fl.aN (Fl.bE (aP (jX (bF (gR rfl (o3 _)) rfl T.b_isinstance BM (aG (aC (pv 0)) (aG (iG (v:=.ty "str") rfl T.b_str C8 rfl) aK))))))))
def pU:FnScope ["machine","lefts"] ["machine"] (aO (top 13)):=by constructor<;>first|rfl|decide +kernel
def xC(T:Txt w K mg)(D:DefAt K mg "without_signs" (top 13) ["machine"]):aT P w K mg base TH 1 "without_signs" ["machine"] iP:=
 @cP P w K mg base TH "without_signs" (top 13) ["machine","lefts"] ["machine"] 0 mH D pU (fun f a A outer s H F E e=>by
  have nd:=pU.nd
  exact (Fl.aD (Fl.aH (L2.aH (i:=1) nd rfl (Or.inl rfl) (aP (dX rfl (cC cA rfl T.b_tuple A2 (aG (aA (dI (eH (eG (N:=["row"]) (js:=[none]) rfl (.own .nil) (by rfl) (k9 rfl (aC (pv 0)))) (by decide) (by decide) (is:=[0]) (fun cl C b c d=>⟨_,(bC (i:=0) (show (["row"]:List Str).Nodup by decide +kernel) rfl (Or.inl rfl)),(bD 0),Fl.dD,(aX (aY rfl) aI (aC (pv 0)) (aA aF))⟩)))) aK))))))
   (Fl.aN (Fl.bE (aP (dL (aL (aX (aY rfl) aI (aC (pv 1)) (aA aF)) (aL (bH (pv 1)) bI))))))))
end
section
variable{P:P9}{w:W9}{K:Frag}{mg:Str->O9 V9}{base:H9}{TH:Hp}
def yU:FnScope ["backs","cells","room","been","cell"] ["backs","cells","room"] (aO (top 14)):=by constructor<;>first|rfl|decide +kernel
def aH5(T:Txt w K mg)(D:DefAt K mg "gone_on" (top 14) ["backs","cells","room"])(a:aT P w K mg base TH 1 "is_word" ["part"] g9):aT P w K mg base TH 2 "gone_on" ["backs","cells","room"] kG:=
 @cP P w K mg base TH "gone_on" (top 14) ["backs","cells","room","been","cell"] ["backs","cells","room"] 1 uA D yU (fun f c A outer s H F E b=>by
  have nd:=yU.nd
  exact (Fl.aD (o5 rfl (L2.aH (i:=3) nd rfl (Or.inl rfl) o4))
   (Fl.aD (Fl.dU (L2.dU (dS ⟨rfl,rfl⟩) (Fl.gB (Fl.eK (cR (bQ rfl rfl rfl (bP a (b.mono (by decide)) rfl (b8 fun _ _ _ h=>h) (aE (aS (pv 2)) a8))))))
   (Fl.aD (Fl.dY (rA rfl rfl (mM (zS b.units) (bH (pv 2)) (pv 3) (by with_unfolding_all rfl))) (Fl.aN (Fl.bE (aP dH))) Fl.cS)
   (Fl.aD (Fl.o6 rfl rfl (iL iW (qU (pv 3) (bH (pv 2)) (mS b.units))))
   (Fl.aD (Fl.aH (L2.aH (i:=4) nd rfl (Or.inl rfl) (aP (aX (aY rfl) aI (aC (pv 1)) (aC (pv 2))))))
   (Fl.aD (Fl.dY (Fl.cO (iN rfl b.units) fK (aA (aX (aY rfl) aI (aC (pv 4)) (aA aF))) (aA aF) (b7 _)) (Fl.aN (Fl.bE (aP (aX (aY rfl) aI (aC (pv 4)) (aA aF))))) Fl.cS)
   (Fl.aN (Fl.aH (L2.aH (i:=2) nd rfl (Or.inl rfl) (aP (aX (aY rfl) aI (aC (pv 0)) (aA (aX (aY rfl) aI (aC (pv 4)) (aA aF))))))))))))))
   (Fl.aN (Fl.bE (aS (pv 2)))))))
def aBO:FnScope ["begun","cells","first","backs"] ["begun","cells"] (aO (top 15)):=by constructor<;>first|rfl|decide +kernel
def aKT(T:Txt w K mg)(D:DefAt K mg "longer" (top 15) ["begun","cells"])(a:aT P w K mg base TH 2 "gone_on" ["backs","cells","room"] kG):aT P w K mg base TH 3 "longer" ["begun","cells"] jL:=
 @cP P w K mg base TH "longer" (top 15) ["begun","cells","first","backs"] ["begun","cells"] 2 wX D aBO (fun f c A outer s H F E b=>by
  have nd:=aBO.nd
  exact (Fl.aD (Fl.aH (L2.aH (i:=2) nd rfl (Or.inl rfl) (bQ rfl rfl rfl (bP a (b.mono (by decide)) rfl (b8 fun _ _ _ h=>h) (aE (aP (aX (aY rfl) aI (aC (pv 0)) (aA aF))) (aE (aS (pv 1)) (aE (aP (aX (aY rfl) aI (aC (pv 0)) (aA aF))) a8)))))))
   (Fl.aD (Fl.aH (L2.aH (i:=3) nd rfl (Or.inl rfl) (aP (dX rfl (cC cA rfl T.b_tuple A2 (aG (aA (dI (eH (eG (N:=["room","begun","cells"]) (js:=[none,some 0,some 1]) rfl (.own (.cap rfl (.inl rfl) (.inl rfl) (.cap rfl (.inl rfl) (.inl rfl) .nil))) (by rfl) (uZ (i8 (gC rfl T.b_range (aG (aA (c6 rfl (bF b9 rfl T.b_len A7 (aG (aC (pv 1)) aK)))) aK))))) (by decide) (by decide) (is:=[0]) (fun cl C d e g=>⟨_,(bC (i:=0) (show (["room","begun","cells"]:List Str).Nodup by decide +kernel) rfl (Or.inl rfl)),(bD 0),Fl.dD,(cR (bQ rfl rfl rfl (bP a (b.mono (by decide)) rfl mB (aE (aP (aX (aY rfl) aI (aC (pv 1)) (aA aF))) (aE (aS (pv 2)) (aE (aS (pv 0)) a8))))))⟩)))) aK))))))
   (Fl.aN (Fl.bE (aP (dL (aL (bH (pv 2)) (aL (bH (pv 3)) bI)))))))))
def rO:FnScope ["machine","begun","room","been","turn"] ["machine","begun"] (aO (top 16)):=by constructor<;>first|rfl|decide +kernel
def aAS(T:Txt w K mg)(D:DefAt K mg "word_behind" (top 16) ["machine","begun"])(a:aT P w K mg base TH 1 "is_word" ["part"] g9):aT P w K mg base TH 2 "word_behind" ["machine","begun"] fP:=
 @cP P w K mg base TH "word_behind" (top 16) ["machine","begun","room","been","turn"] ["machine","begun"] 1 n9 D rO (fun f c A outer s H F E b=>by
  have nd:=rO.nd
  exact (Fl.aD (Fl.aH (L2.aH (i:=2) nd rfl (Or.inl rfl) (aP (aX (aY rfl) aI (aC (pv 1)) (aA aF)))))
   (Fl.aD (o5 rfl (L2.aH (i:=3) nd rfl (Or.inl rfl) o4))
   (Fl.aD (Fl.dU (L2.dU (dS ⟨rfl,rfl⟩) (Fl.gB (Fl.eK (cR (bQ rfl rfl rfl (bP a (b.mono (by decide)) rfl (b8 fun _ _ _ h=>h) (aE (aS (pv 2)) a8))))))
   (Fl.aD (Fl.dY (rA rfl rfl (mM (zS b.units) (bH (pv 2)) (pv 3) (by with_unfolding_all rfl))) (Fl.aN (Fl.bE (aP dH))) Fl.cS)
   (Fl.aD (Fl.o6 rfl rfl (iL iW (qU (pv 3) (bH (pv 2)) (mS b.units))))
   (Fl.aD (Fl.aH (L2.aH (i:=4) nd rfl (Or.inl rfl) (aP (aX (aY rfl) aI (aA (aX (aY rfl) aI (aC (pv 0)) (aC (pv 2)))) (aA aF)))))
   (Fl.aN (Fl.aH (L2.aH (i:=2) nd rfl (Or.inl rfl) (aP (x6 (Fl.eK (cR (bQ rfl rfl rfl (bP a (b.mono (by decide)) rfl (b8 fun _ _ _ h=>h) (aE (aS (pv 4)) a8))))) (bH (pv 4)) (aX (aY rfl) aI (aA (aX (aY rfl) aI (aC (pv 1)) (aA aF))) (aC (pv 4)))))))))))))
   (Fl.aN (Fl.bE (aS (pv 2))))))))
def iY:CloScope ["begun","columns"] ["begun"] ["columns"] fB.scope:=⟨rfl,rfl,rfl,by decide +kernel,rfl,by decide +kernel,by decide +kernel,by decide +kernel,by decide +kernel⟩
def vU:∀ y∈fB.scope.names,y.2=.free->(aO (top 17)).names.lookup y.1=some .cell\/(aO (top 17)).names.lookup y.1=some .free:=by decide +kernel
def uL:(iT,("one_way.<locals>.after":Str))∈qsT:=(.head _)
def vW:∀ p∈qsT,p.1.line=iT.line->p.1.col=iT.col->p.2=("one_way.<locals>.after":Str):=by decide +kernel
def uM(T:Txt w K mg)(a:aT P w K mg base TH 3 "longer" ["begun","cells"] jL):CloOk P w K mg base TH fB ["columns"] 4 1 (jA 2 eW):=
 @aJN P w K mg base TH fB ["begun","columns"] ["begun"] ["columns"] 3 _ eW rfl iY (fun _ _ _ _ _=>Mc.bn1 fun _=>rfl) (fun f g cl A outer s H F E c b=>by
  have nd:=iY.nd
  exact (Fl.aN (Fl.bE (aP (dI (eH (eG (N:=["cells","begun"]) (js:=[none,some 0]) rfl (.own (.cap rfl (.inl rfl) (.inl rfl) .nil)) (by rfl) (k9 rfl (aC (pv 1)))) (by decide) (by decide) (is:=[0]) (fun cl C d e h=>⟨_,(bC (i:=0) (show (["cells","begun"]:List Str).Nodup by decide +kernel) rfl (Or.inl rfl)),(bD 0),Fl.dD,(cR (bQ rfl rfl rfl (bP a (b.mono (by decide)) rfl mB (aE (aS (pv 1)) (aE (aS (pv 0)) a8)))))⟩)))))))
def jS:CloScope ["found","at"] ["found","at"] [] iU.scope:=⟨rfl,rfl,rfl,by decide +kernel,rfl,by decide +kernel,by decide +kernel,by decide +kernel,by decide +kernel⟩
def xD:∀ y∈iU.scope.names,y.2=.free->(aO (top 17)).names.lookup y.1=some .cell\/(aO (top 17)).names.lookup y.1=some .free:=by decide +kernel
def vX:(iX,("one_way.<locals>.<lambda>":Str))∈qsT:=(.tail _ (.head _))
def xE:∀ p∈qsT,p.1.line=iX.line->p.1.col=iX.col->p.2=("one_way.<locals>.<lambda>":Str):=by decide +kernel
def vY(T:Txt w K mg):CloOk P w K mg base TH iU [] 1 2 (jA 2 gN):=
 @aSL P w K mg base TH iU ["found","at"] ["found","at"] [] 0 _ (e2 dGt (e1 dLen (rV 0)) (eC (.int 200))) rfl jS (fun _ _ _ _ _=>Mc.bn2 fun _ _=>rfl) (fun f b cl A outer s H F E a c=>by
  have nd:=jS.nd
  exact (jV i7 fW (aA (c6 rfl (bF b9 rfl T.b_len A7 (aG (aC (pv 0)) aK)))) (aA (jJ (oX (v:=.int 200) rfl T.g_MOST_BEGINNINGS.choose_spec ⟨_,rfl⟩) fun _=>.int _)) (b7 _)))
def yV:FnScope ["machine","columns","after","search","found"] ["machine"] (aO (top 17)):=by constructor<;>first|rfl|decide +kernel
def aH6(T:Txt w K mg)(D:DefAtT K mg base TH qsT "one_way" (top 17) ["machine"])(e:aT P w K mg base TH 1 "signs_of" ["machine"] kU)(d:aT P w K mg base TH 1 "cells_of" ["machine","number"] kW)(j:aT P w K mg base TH 3 "longer" ["begun","cells"] jL)(g:aT P w K mg base TH 13 "reached" ["begin","after","done"] iO)(b:aT P w K mg base TH 1 "without_signs" ["machine"] iP)(c:aT P w K mg base TH 2 "word_behind" ["machine","begun"] fP){Wp_TooMany Cp_TooMany:Az}(a:ErrP K mg "TooMany" Wp_TooMany Cp_TooMany):aT P w K mg base TH 14 "one_way" ["machine"] jG:=
 @aF0 P w K mg base TH "one_way" (top 17) ["machine","columns","after","search","found"] ["machine"] 13 qsT (fun q=>[(("one_way.<locals>.after":Str),fB)].lookup q) qD D yV (fun f c0 P0 A outer s H F E l n o=>by
  have nd:=yV.nd
  exact (Fl.aD (fX (L2.aH (i:=1) nd rfl (Or.inr rfl) (eH (eG (N:=["number","machine"]) (js:=[none,some 0]) rfl (.own (.cap rfl (.inl rfl) (.inl rfl) .nil)) (by rfl) (uZ (i8 (gC rfl T.b_range (aG (aA (cR (bQ rfl rfl rfl (bP e (o.mono (by decide)) rfl (b8 fun _ _ _ h=>h) (aE (aS (pv 0)) a8))))) aK))))) (by decide) (by decide) (is:=[0]) (fun cl C p r t=>⟨_,(bC (i:=0) (show (["number","machine"]:List Str).Nodup by decide +kernel) rfl (Or.inl rfl)),(bD 0),Fl.dD,(cR (bQ rfl rfl rfl (bP d (o.mono (by decide)) rfl mB (aE (aS (pv 1)) (aE (aS (pv 0)) a8)))))⟩))))
   (Fl.aD (aFW (S:=fB) rfl rfl n (L2.aI2 rfl l rfl uL vW vU rfl rfl rfl nd rfl (Or.inl rfl)))
   (Fl.aD (p6 1 (Fl.aH (L2.aH (i:=3) nd rfl (Or.inl rfl) (aJO (js:=[1]) rfl rfl rfl rfl rfl rfl rfl (zV ⟨_,rfl,rfl,rfl⟩ aJQ) (L2.aI5 g (o.mono (by decide)) rfl (b8 fun _ _ _ h=>h) (mT (aHL (bQ rfl rfl rfl (bP b (o.mono (by decide)) rfl (b8 fun _ _ _ h=>h) (aE (aS (pv 0)) a8)))) (mT (aFY (S:=fB) rfl (uM T j) (fun y k=>iY.only (y,.free) k rfl) (fun y k=>BN (iY.cap y k)) rfl (by decide) (pv 2)) (mT (aSM (S:=iU) rfl n (vY T ) (fun y k=>jS.only (y,.free) k rfl) (fun y k=>BN (jS.cap y k)) rfl (by decide) (L2.aRY rfl l rfl vX xE xD rfl)) aFZ))))))))
   (Fl.aD (Fl.aH (L2.aH (i:=4) nd rfl (Or.inl rfl) (aP (aX (aY rfl) aI (aC (pv 3)) (aA aF)))))
   (Fl.aD (Fl.dY (Fl.cO i7 fW (aA (c6 rfl (bF b9 rfl T.b_len A7 (aG (aC (pv 4)) aK)))) (aA (jJ (oX (v:=.int 200) rfl T.g_MOST_BEGINNINGS.choose_spec ⟨_,rfl⟩) fun _=>.int _)) (b7 _)) (Fl.aN (aBC a.m (L2.t6 rfl a rfl (aG (aJM (aA (jJ (oX (v:=.int 200) rfl T.g_MOST_BEGINNINGS.choose_spec ⟨_,rfl⟩) fun _=>.int _))) aK)))) Fl.cS)
   (Fl.aN (Fl.bE (aP (dL (aL (dX rfl (cC cA rfl T.b_tuple A2 (aG (aA (aX (aY rfl) aI (aC (pv 3)) (aA aF))) aK))) (aL (dX rfl (cC cA rfl T.b_tuple A2 (aG (aA (dI (eH (eG (N:=["begun","machine"]) (js:=[none,some 0]) rfl (.own (.cap rfl (.inl rfl) (.inl rfl) .nil)) (by rfl) (k9 rfl (aC (pv 4)))) (by decide) (by decide) (is:=[0]) (fun cl C p r t=>⟨_,(bC (i:=0) (show (["begun","machine"]:List Str).Nodup by decide +kernel) rfl (Or.inl rfl)),(bD 0),Fl.dD,(cR (bQ rfl rfl rfl (bP c (o.mono (by decide)) rfl mB (aE (aS (pv 1)) (aE (aS (pv 0)) a8)))))⟩)))) aK))) bI))))))))))))
def aBP:FnScope ["keys","first","room","key"] ["keys"] (aO (top 19)):=by constructor<;>first|rfl|decide +kernel
def aKU(T:Txt w K mg)(D:DefAt K mg "firsts" (top 19) ["keys"]):aT P w K mg base TH 1 "firsts" ["keys"] jM:=
 @cP P w K mg base TH "firsts" (top 19) ["keys","first","room","key"] ["keys"] 0 wY D aBP (fun f b A outer s H F E a=>by
  have nd:=aBP.nd
  exact (Fl.aD (o5 rfl (L2.aH (i:=1) nd rfl (Or.inr rfl) o4))
   (Fl.aD (Fl.dJ (jW rfl (cN (bD 2) (cN (bD 3) iI)) rfl) (L2.dJ (dS ⟨rfl,rfl⟩) rfl (aF6 rfl (L2.aF5 rfl T.b_enumerate (aG (bH (pv 0)) aK))) (jU rfl (cM (bC (i:=2) nd rfl (Or.inl rfl)) (cM (bC (i:=3) nd rfl (Or.inl rfl)) iH)))
   (Fl.aN (aF4 rfl rfl (L2.gK (aJL GP DI FQ (aJX a.units) (pv 1) (aG (bH (pv 3)) (aG (bH (pv 2)) aK))))))))
   (Fl.aN (Fl.bE (aP (dI (eH (eG (N:=["key","first"]) (js:=[none,some 1]) rfl (.own (.cap rfl (.inl rfl) (.inl rfl) .nil)) (by rfl) (k9 rfl (aC (pv 0)))) (by decide) (by decide) (is:=[0]) (fun cl C c d e=>⟨_,(bC (i:=0) (show (["key","first"]:List Str).Nodup by decide +kernel) rfl (Or.inl rfl)),(bD 0),Fl.dD,(vB rfl rfl (vA a.units (pv 1) (bH (pv 0)) (fun _ _=>rfl)))⟩)))))))))
def qE:FnScope ["likes","row"] ["likes","row"] (aO (top 20)):=by constructor<;>first|rfl|decide +kernel
def yW(T:Txt w K mg)(D:DefAt K mg "behind_signs" (top 20) ["likes","row"]):aT P w K mg base TH 1 "behind_signs" ["likes","row"] dN:=
 @cP P w K mg base TH "behind_signs" (top 20) ["likes","row"] ["likes","row"] 0 kX D qE (fun f a A outer s H F E e=>by
  have nd:=qE.nd
  exact (Fl.aN (Fl.bE (aP (dX rfl (cC cA rfl T.b_tuple A2 (aG (aA (dI (eH (eG (N:=["there","likes"]) (js:=[none,some 0]) rfl (.own (.cap rfl (.inl rfl) (.inl rfl) .nil)) (by rfl) (k9 rfl (aC (pv 1)))) (by decide) (by decide) (is:=[0]) (fun cl C b c d=>⟨_,(bC (i:=0) (show (["there","likes"]:List Str).Nodup by decide +kernel) rfl (Or.inl rfl)),(bD 0),Fl.dD,(aX (aY rfl) aI (aC (pv 1)) (aC (pv 0)))⟩)))) aK)))))))
end
section
variable{P:P9}{w:W9}{K:Frag}{mg:Str->O9 V9}{base:H9}{TH:Hp}
def aEL:FnScope ["rows","likes"] ["rows","likes"] (aO (top 21)):=by constructor<;>first|rfl|decide +kernel
def aM0(T:Txt w K mg)(D:DefAt K mg "finer" (top 21) ["rows","likes"])(b:aT P w K mg base TH 1 "firsts" ["keys"] jM)(a:aT P w K mg base TH 1 "behind_signs" ["likes","row"] dN):aT P w K mg base TH 2 "finer" ["rows","likes"] o7:=
 @cP P w K mg base TH "finer" (top 21) ["rows","likes"] ["rows","likes"] 1 zY D aEL (fun f d A outer s H F E c=>by
  have nd:=aEL.nd
  exact (Fl.aN (Fl.bE (bQ rfl rfl rfl (bP b (c.mono (by decide)) rfl (b8 fun _ _ _ h=>h) (aE (aP (dI (eH (eG (N:=["like","row","likes"]) (js:=[none,none,some 1]) rfl (.own (.own (.cap rfl (.inl rfl) (.inl rfl) .nil))) (by rfl) (aPH rfl (L2.aSS rfl T.b_zip (aG (aC (pv 1)) (aG (aC (pv 0)) aK))))) (by decide) (by decide) (is:=[0,1]) (fun cl C e g j=>⟨_,(jU rfl (cM (bC (i:=0) (show (["like","row","likes"]:List Str).Nodup by decide +kernel) rfl (Or.inl rfl)) (cM (bC (i:=1) (show (["like","row","likes"]:List Str).Nodup by decide +kernel) rfl (Or.inl rfl)) iH))),(jW rfl (cN (bD 0) (cN (bD 1) iI)) rfl),Fl.dD,(dL (aL (bH (pv 0)) (aL (cR (bQ rfl rfl rfl (bP a (c.mono (by decide)) rfl mB (aE (aS (pv 2)) (aE (aS (pv 1)) a8))))) bI)))⟩)))) a8))))))
def rP:FnScope ["reader","likes","again"] ["reader"] (aO (top 22)):=by constructor<;>first|rfl|decide +kernel
def aAT(T:Txt w K mg)(D:DefAt K mg "alike_rooms" (top 22) ["reader"])(b:aT P w K mg base TH 1 "firsts" ["keys"] jM)(a:aT P w K mg base TH 2 "finer" ["rows","likes"] o7):aT P w K mg base TH 3 "alike_rooms" ["reader"] fQ:=
 @cP P w K mg base TH "alike_rooms" (top 22) ["reader","likes","again"] ["reader"] 2 oA D rP (fun f d A outer s H F E c=>by
  have nd:=rP.nd
  exact (Fl.aD (Fl.aH (L2.aH (i:=1) nd rfl (Or.inl rfl) (bQ rfl rfl rfl (bP b (c.mono (by decide)) rfl (b8 fun _ _ _ h=>h) (aE (aP (aX (aY rfl) aI (aC (pv 0)) (aA aF))) a8)))))
   (Fl.aD (Fl.aH (L2.aH (i:=2) nd rfl (Or.inl rfl) (bQ rfl rfl rfl (bP a (c.mono (by decide)) rfl (b8 fun _ _ _ h=>h) (aE (aP (aX (aY rfl) aI (aC (pv 0)) (aA aF))) (aE (aS (pv 1)) a8))))))
   (Fl.aD (Fl.dU (L2.dU (dS ⟨rfl,rfl⟩) (Fl.cO (nQ rfl c.units) kE (aC (pv 2)) (aC (pv 1)) (b7 _))
   (Fl.aD (Fl.aH (L2.aH (i:=1) nd rfl (Or.inl rfl) (aS (pv 2))))
   (Fl.aN (Fl.aH (L2.aH (i:=2) nd rfl (Or.inl rfl) (bQ rfl rfl rfl (bP a (c.mono (by decide)) rfl (b8 fun _ _ _ h=>h) (aE (aP (aX (aY rfl) aI (aC (pv 0)) (aA aF))) (aE (aS (pv 1)) a8))))))))))
   (Fl.aN (Fl.bE (aS (pv 1))))))))
def kA:CloScope ["room","likes","reader"] ["room"] ["likes","reader"] f9.scope:=⟨rfl,rfl,rfl,by decide +kernel,rfl,by decide +kernel,by decide +kernel,by decide +kernel,by decide +kernel⟩
def yX:∀ y∈f9.scope.names,y.2=.free->(aO (top 23)).names.lookup y.1=some .cell\/(aO (top 23)).names.lookup y.1=some .free:=by decide +kernel
def xF:(jR,("least.<locals>.after":Str))∈qsT:=(.tail _ (.tail _ (.head _)))
def yY:∀ p∈qsT,p.1.line=jR.line->p.1.col=jR.col->p.2=("least.<locals>.after":Str):=by decide +kernel
def xG(T:Txt w K mg)(a:aT P w K mg base TH 1 "behind_signs" ["likes","row"] dN):CloOk P w K mg base TH f9 ["likes","reader"] 2 1 (jA 3 fY):=
 @aJN P w K mg base TH f9 ["room","likes","reader"] ["room"] ["likes","reader"] 1 _ fY rfl kA (fun _ _ _ _ _=>Mc.bn1 fun _=>rfl) (fun f d cl A outer s H F E c b=>by
  have nd:=kA.nd
  exact (Fl.aN (Fl.bE (bQ rfl rfl rfl (bP a (b.mono (by decide)) rfl (b8 fun _ _ _ h=>h) (aE (aS (pv 1)) (aE (aP (aX (aY rfl) aI (aA (aX (aY rfl) aI (aC (pv 2)) (aA aF))) (aC (pv 0)))) a8)))))))
def aEM:FnScope ["reader","likes","after","search"] ["reader"] (aO (top 23)):=by constructor<;>first|rfl|decide +kernel
def aM1(T:Txt w K mg)(D:DefAtT K mg base TH qsT "least" (top 23) ["reader"])(b:aT P w K mg base TH 3 "alike_rooms" ["reader"] fQ)(a:aT P w K mg base TH 1 "behind_signs" ["likes","row"] dN)(c:aT P w K mg base TH 13 "reached" ["begin","after","done"] iO)(d:aT P w K mg base TH 1 "never" ["found","at"] lY):aT P w K mg base TH 14 "least" ["reader"] o8:=
 @aF0 P w K mg base TH "least" (top 23) ["reader","likes","after","search"] ["reader"] 13 qsT (fun q=>[(("least.<locals>.after":Str),f9)].lookup q) zZ D aEM (fun f c0 P0 A outer s H F E g j l=>by
  have nd:=aEM.nd
  exact (Fl.aD (Fl.aH (L2.aH (i:=1) nd rfl (Or.inr rfl) (bQ rfl rfl rfl (bP b (l.mono (by decide)) rfl (b8 fun _ _ _ h=>h) (aE (aS (pv 0)) a8)))))
   (Fl.aD (aFW (S:=f9) rfl rfl j (L2.aI2 rfl g rfl xF yY yX rfl rfl rfl nd rfl (Or.inl rfl)))
   (Fl.aD (Fl.aH (L2.aH (i:=3) nd rfl (Or.inl rfl) (aJO (js:=[1,0]) rfl rfl rfl rfl rfl rfl rfl (zV ⟨_,rfl,rfl,rfl⟩ (zV ⟨_,rfl,rfl,rfl⟩ aJQ)) (L2.aI5 c (l.mono (by decide)) rfl (b8 fun _ _ _ h=>h) (mT (aHL (aP (aX (aY rfl) aI (aC (pv 1)) (aA aF)))) (mT (aFY (S:=f9) rfl (xG T a) (fun y e=>kA.only (y,.free) e rfl) (fun y e=>BN (kA.cap y e)) rfl (by decide) (pv 2)) (mT (aHL (aPD (k:=1) (x:="never") (ps:=["found","at"]) (G:=lY) rfl d rfl)) aFZ)))))))
   (Fl.aN (Fl.bE (aP (dL (aL (dX rfl (cC cA rfl T.b_tuple A2 (aG (aA (aX (aY rfl) aI (aC (pv 3)) (aA aF))) aK))) (aL (dX rfl (cC cA rfl T.b_tuple A2 (aG (aA (dI (eH (eG (N:=["room","reader"]) (js:=[none,some 0]) rfl (.own (.cap rfl (.inl rfl) (.inl rfl) .nil)) (by rfl) (k9 rfl (aA (aX (aY rfl) aI (aC (pv 3)) (aA aF))))) (by decide) (by decide) (is:=[0]) (fun cl C m n o=>⟨_,(bC (i:=0) (show (["room","reader"]:List Str).Nodup by decide +kernel) rfl (Or.inl rfl)),(bD 0),Fl.dD,(aX (aY rfl) aI (aA (aX (aY rfl) aI (aC (pv 1)) (aA aF))) (aC (pv 0)))⟩)))) aK))) bI))))))))))
def pV:FnScope ["word"] ["word"] (aO (top 25)):=by constructor<;>first|rfl|decide +kernel
def xH(T:Txt w K mg)(D:DefAt K mg "stopping_word" (top 25) ["word"]):aT P w K mg base TH 1 "stopping_word" ["word"] gO:=
 @cP P w K mg base TH "stopping_word" (top 25) ["word"] ["word"] 0 mI D pV (fun f a A outer s H F E b=>by
  have nd:=pV.nd
  exact (Fl.aN (Fl.bE (aP (x6 (Fl.cO (iN rfl b.units) fK (aC (pv 0)) (aA dH) (b7 _)) dH (bH (pv 0)))))))
def qF:FnScope ["reader","room","left"] ["reader","room"] (aO (top 26)):=by constructor<;>first|rfl|decide +kernel
def yZ(T:Txt w K mg)(D:DefAt K mg "stopping_row" (top 26) ["reader","room"]):aT P w K mg base TH 1 "stopping_row" ["reader","room"] hZ:=
 @cP P w K mg base TH "stopping_row" (top 26) ["reader","room","left"] ["reader","room"] 0 mU D qF (fun f a A outer s H F E b=>by
  have nd:=qF.nd
  exact (Fl.aD (Fl.aH (L2.aH (i:=2) nd rfl (Or.inl rfl) (aP (x6 (Fl.cO (iN rfl b.units) fK (aC (pv 1)) (aA aF) (b7 _)) aF dH))))
   (Fl.aN (Fl.bE (aP (dL (aL (bH (pv 2)) (aL (dX rfl (cC cA rfl T.b_tuple A2 (aG (aA (dI (eH (eG (N:=["there"]) (js:=[none]) rfl (.own .nil) (by rfl) (k9 rfl (aA (aX (aY rfl) aI (aA (aX (aY rfl) aI (aC (pv 0)) (aA aF))) (aC (pv 1)))))) (by decide) (by decide) (is:=[0]) (fun cl C c d e=>⟨_,(bC (i:=0) (show (["there"]:List Str).Nodup by decide +kernel) rfl (Or.inl rfl)),(bD 0),Fl.dD,(dL (aL (bH (pv 0)) (aL aF bI)))⟩)))) aK))) (aL (aX (aY rfl) aI (aA (aX (aY rfl) aI (aC (pv 0)) (aA aF))) (aC (pv 1))) bI)))))))))
def wI:FnScope ["machine","reader","words","smallest","rooms"] ["machine"] (aO (top 27)):=by constructor<;>first|rfl|decide +kernel
def aE4(T:Txt w K mg)(D:DefAt K mg "stopping" (top 27) ["machine"])(d:aT P w K mg base TH 14 "one_way" ["machine"] jG)(b:aT P w K mg base TH 1 "stopping_word" ["word"] gO)(e:aT P w K mg base TH 14 "least" ["reader"] o8)(c:aT P w K mg base TH 1 "stopping_row" ["reader","room"] hZ){Wp_TooMany Cp_TooMany:Az}(a:ErrP K mg "TooMany" Wp_TooMany Cp_TooMany):aT P w K mg base TH 15 "stopping" ["machine"] iQ:=
 @cP P w K mg base TH "stopping" (top 27) ["machine","reader","words","smallest","rooms"] ["machine"] 14 sS D wI (fun f k A outer s H F E g=>by
  have nd:=wI.nd
  exact (Fl.aD (Fl.aH (L2.aH (i:=1) nd rfl (Or.inl rfl) (bQ rfl rfl rfl (bP d (g.mono (by decide)) rfl (b8 fun _ _ _ h=>h) (aE (aS (pv 0)) a8)))))
   (Fl.aD (Fl.aH (L2.aH (i:=2) nd rfl (Or.inl rfl) (aP (dX rfl (cC cA rfl T.b_tuple A2 (aG (aA (dI (eH (eG (N:=["word"]) (js:=[none]) rfl (.own .nil) (by rfl) (k9 rfl (aA (aX (aY rfl) aI (aC (pv 1)) (aA aF))))) (by decide) (by decide) (is:=[0]) (fun cl C j l n=>⟨_,(bC (i:=0) (show (["word"]:List Str).Nodup by decide +kernel) rfl (Or.inl rfl)),(bD 0),Fl.dD,(cR (bQ rfl rfl rfl (bP b (g.mono (by decide)) rfl mB (aE (aS (pv 0)) a8))))⟩)))) aK))))))
   (Fl.aD (Fl.aH (L2.aH (i:=3) nd rfl (Or.inr rfl) (bQ rfl rfl rfl (bP e (g.mono (by decide)) rfl (b8 fun _ _ _ h=>h) (aE (aP (dL (aL (aX (aY rfl) aI (aC (pv 1)) (aA aF)) (aL (bH (pv 2)) bI)))) a8)))))
   (Fl.aD (Fl.aH (L2.aH (i:=4) nd rfl (Or.inl rfl) (aP (c6 rfl (bF b9 rfl T.b_len A7 (aG (aA (aX (aY rfl) aI (aC (pv 3)) (aA aF))) aK))))))
   (Fl.aD (Fl.dY (Fl.cO i7 fW (aC (pv 4)) (aA (jJ (oX (v:=.int 60) rfl T.g_MOST_ROOMS.choose_spec ⟨_,rfl⟩) fun _=>.int _)) (b7 _)) (Fl.aN (aBC a.m (L2.t6 rfl a rfl (aG (aJM (aA (jJ (oX (v:=.int 60) rfl T.g_MOST_ROOMS.choose_spec ⟨_,rfl⟩) fun _=>.int _))) aK)))) Fl.cS)
   (Fl.aN (Fl.bE (aP (dX rfl (cC cA rfl T.b_tuple A2 (aG (aA (dI (eH (eG (N:=["room","smallest"]) (js:=[none,some 3]) rfl (.own (.cap rfl (.inl rfl) (.inl rfl) .nil)) (by rfl) (uZ (i8 (gC rfl T.b_range (aG (aC (pv 4)) aK))))) (by decide) (by decide) (is:=[0]) (fun cl C j l n=>⟨_,(bC (i:=0) (show (["room","smallest"]:List Str).Nodup by decide +kernel) rfl (Or.inl rfl)),(bD 0),Fl.dD,(cR (bQ rfl rfl rfl (bP c (g.mono (by decide)) rfl mB (aE (aS (pv 1)) (aE (aS (pv 0)) a8)))))⟩)))) aK))))))))))))
end
section
variable{P:P9}{w:W9}{K:Frag}{mg:Str->O9 V9}{base:H9}{TH:Hp}
def uN:FnScope ["_law_script","_law_k","_law_cell_here","_law_mixed"] ["_law_script","_law_k"] (aO (top 29)):=by constructor<;>first|rfl|decide +kernel
def aEN(T:Txt w K mg)(D:DefAt K mg "_law_cell" (top 29) ["_law_script","_law_k"]):aT P w K mg base TH 1 "_law_cell" ["_law_script","_law_k"] bS:=
 @cP P w K mg base TH "_law_cell" (top 29) ["_law_script","_law_k","_law_cell_here","_law_mixed"] ["_law_script","_law_k"] 0 nH D uN (fun f a A outer s H F E b=>by
  have nd:=uN.nd
  exact (Fl.aD (Fl.aH (L2.aH (i:=2) nd rfl (Or.inl rfl) (aP aF)))
   (Fl.aD (Fl.dY (Fl.cO i7 fW (aA (c6 rfl (bF b9 rfl T.b_len A7 (aG (aC (pv 0)) aK)))) (aA aF) (b7 _)) (Fl.aN (Fl.aH (L2.aH (i:=2) nd rfl (Or.inl rfl) (aP (aX (aY rfl) aI (aC (pv 0)) (aA (aW dE cG (aC (pv 1)) (aA (c6 rfl (bF b9 rfl T.b_len A7 (aG (aC (pv 0)) aK))))))))))) Fl.cS)
   (Fl.aD (Fl.aH (L2.aH (i:=3) nd rfl (Or.inl rfl) (aP (aW dE cG (aA (aW kS iM (aA (aW (dB rfl) cE (aA (aW (dB rfl) cE (aA (aW dE cG (aC (pv 2)) (aA aF))) (aA (aW kS iM (aA aF) (aC (pv 1)))))) (aA aF))) (aA aF))) (aA aF)))))
   (Fl.aN (Fl.bE (aP (aW (dB rfl) cE (aA (aW kS iM (aA (aW hV fC (aC (pv 2)) (aA aF))) (aA aF))) (aA (aW dE cG (aA (aW (dB rfl) cE (aA (aW kS iM (aC (pv 3)) (aA aF))) (aA (aW kS iM (aA aF) (aC (pv 1)))))) (aA aF)))))))))))
def wJ:FnScope ["_law_number","_law_rooms"] ["_law_number","_law_rooms"] (aO (top 30)):=by constructor<;>first|rfl|decide +kernel
def aE5(T:Txt w K mg)(D:DefAt K mg "_law_end" (top 30) ["_law_number","_law_rooms"]):aT P w K mg base TH 1 "_law_end" ["_law_number","_law_rooms"] iS:=
 @cP P w K mg base TH "_law_end" (top 30) ["_law_number","_law_rooms"] ["_law_number","_law_rooms"] 0 oV D wJ (fun f a A outer s H F E b=>by
  have nd:=wJ.nd
  exact (Fl.aD (Fl.dY (Fl.cO (iN rfl b.units) fK (aA (aW dE cG (aC (pv 0)) (aA aF))) (aA aF) (b7 _)) (Fl.aN (Fl.bE (aP (aX (aY rfl) aI (aA (dI (eR (aL dH (aL dH bI))))) (aA (aW dE cG (aA (aW hV fC (aC (pv 0)) (aA aF))) (aA aF))))))) Fl.cS)
   (Fl.aN (Fl.bE (aP (aW dE cG (aA (aW hV fC (aC (pv 0)) (aA aF))) (aC (pv 1))))))))
def oH:FnScope ["_law_number","_law_rooms","_law_signs","_law_left","_law_cells","_law_k","_law_ends"] ["_law_number","_law_rooms","_law_signs"] (aO (top 31)):=by constructor<;>first|rfl|decide +kernel
def vZ(T:Txt w K mg)(D:DefAt K mg "_law_digit_row" (top 31) ["_law_number","_law_rooms","_law_signs"]):aT P w K mg base TH 1 "_law_digit_row" ["_law_number","_law_rooms","_law_signs"] f7:=
 @cP P w K mg base TH "_law_digit_row" (top 31) ["_law_number","_law_rooms","_law_signs","_law_left","_law_cells","_law_k","_law_ends"] ["_law_number","_law_rooms","_law_signs"] 0 lQ D oH (fun f a A outer s H F E e=>by
  have nd:=oH.nd
  exact (Fl.aD (Fl.aH (L2.aH (i:=3) nd rfl (Or.inl rfl) (aP (aW dE cG (aC (pv 0)) (aA (aW (dB rfl) cE (aC (pv 1)) (aA aF)))))))
   (Fl.aD (Fl.aH (L2.aH (i:=0) nd rfl (Or.inl rfl) (aP (aW hV fC (aC (pv 0)) (aA (aW (dB rfl) cE (aC (pv 1)) (aA aF)))))))
   (Fl.aD (fX (L2.aH (i:=4) nd rfl (Or.inl rfl) (eR bI)))
   (Fl.aD (Fl.dJ (bD 5) (L2.dJ (dS ⟨rfl,rfl⟩) rfl (i8 (gC rfl T.b_range (aG (aC (pv 2)) aK))) (bC (i:=5) nd rfl (Or.inl rfl))
   (Fl.aD (kF rfl (L2.gK (kQ BV BT BU gD (pv 4) (aG (dL (aL (aW dE cG (aA (aW hV fC (aC (pv 0)) (aA aF))) (aC (pv 1))) (aL (aW o0 lX (aA aF) (aA (aW kS iM (aA (aW dE cG (aC (pv 0)) (aA aF))) (aA aF)))) bI))) aK))))
   (Fl.aN (Fl.aH (L2.aH (i:=0) nd rfl (Or.inl rfl) (aP (aW hV fC (aC (pv 0)) (aA (aW kS iM (aA aF) (aC (pv 1))))))))))))
   (Fl.aD (fX (L2.aH (i:=6) nd rfl (Or.inl rfl) (eR (aL (bH (pv 3)) (aL (aW dE cG (aC (pv 0)) (aA (aW (dB rfl) cE (aC (pv 1)) (aA aF)))) bI)))))
   (Fl.aD (zQ (L2.rX (i:=6) nd rfl (Or.inl rfl) (by rfl) (N:=["_law_end_here","_law_rooms"]) (js:=[none,some 1]) rfl (.own (.cap rfl (.inl rfl) (.inl rfl) .nil)) (by rfl) (k9 rfl (aC (pv 6)))) (by decide) (by decide) (is:=[0]) (fun cl C b c d=>⟨_,(bC (i:=0) (show (["_law_end_here","_law_rooms"]:List Str).Nodup by decide +kernel) rfl (Or.inl rfl)),(bD 0),Fl.dD,(x6 (Fl.cO aJA aCW (aC (pv 0)) (aC (pv 1)) (b7 _)) (aX (aY rfl) aI (aA (dI (eR (aL dH (aL dH bI))))) (aA (aW o0 lX (aC (pv 0)) (aC (pv 1))))) (bH (pv 0)))⟩))
   (Fl.aN (Fl.bE (aP (dL (aL (aX (aY rfl) aI (aC (pv 6)) (aA aF)) (aL (dX rfl (cC cA rfl T.b_tuple A2 (aG (aC (pv 4)) aK))) (aL (aX (aY rfl) aI (aC (pv 6)) (aA aF)) bI))))))))))))))
def oI:FnScope ["_law_number","_law_rooms","_law_signs","_law_pieces","_law_k","_law_cells"] ["_law_number","_law_rooms","_law_signs"] (aO (top 32)):=by constructor<;>first|rfl|decide +kernel
def v3(T:Txt w K mg)(D:DefAt K mg "_law_mixed_row" (top 32) ["_law_number","_law_rooms","_law_signs"])(a:aT P w K mg base TH 1 "_law_end" ["_law_number","_law_rooms"] iS):aT P w K mg base TH 2 "_law_mixed_row" ["_law_number","_law_rooms","_law_signs"] eY:=
 @cP P w K mg base TH "_law_mixed_row" (top 32) ["_law_number","_law_rooms","_law_signs","_law_pieces","_law_k","_law_cells"] ["_law_number","_law_rooms","_law_signs"] 1 lR D oI (fun f c A outer s H F E b=>by
  have nd:=oI.nd
  exact (Fl.aD (fX (L2.aH (i:=3) nd rfl (Or.inl rfl) (eR bI)))
   (Fl.aD (Fl.dJ (bD 4) (L2.dJ (dS ⟨rfl,rfl⟩) rfl (i8 (gC rfl T.b_range (aG (aA (aW (dB rfl) cE (aC (pv 2)) (aA aF))) aK))) (bC (i:=4) nd rfl (Or.inl rfl))
   (Fl.aD (Fl.aH (L2.aH (i:=0) nd rfl (Or.inl rfl) (aP (aW dE cG (aA (aW (dB rfl) cE (aA (aW kS iM (aC (pv 0)) (aA aF))) (aA aF))) (aA aF)))))
   (Fl.aN (kF rfl (L2.gK (kQ BV BT BU gD (pv 3) (aG (aW hV fC (aC (pv 0)) (aA aF)) aK))))))))
   (Fl.aD (Fl.aH (L2.aH (i:=5) nd rfl (Or.inl rfl) (aP (dX rfl (cC cA rfl T.b_tuple A2 (aG (aA (dI (eH (eG (N:=["_law_piece","_law_rooms"]) (js:=[none,some 1]) rfl (.own (.cap rfl (.inl rfl) (.inl rfl) .nil)) (by rfl) (k9 rfl (aA (sK rfl (aC (pv 3)) (aB1 (aA aF)) aB0)))) (by decide) (by decide) (is:=[0]) (fun cl C d e g=>⟨_,(bC (i:=0) (show (["_law_piece","_law_rooms"]:List Str).Nodup by decide +kernel) rfl (Or.inl rfl)),(bD 0),Fl.dD,(dL (aL (aW dE cG (aC (pv 0)) (aC (pv 1))) (aL (aW o0 lX (aA aF) (aA (aW kS iM (aA (aW hV fC (aA (aW dE cG (aA (aW hV fC (aC (pv 0)) (aA aF))) (aA aF))) (aA aF))) (aA aF)))) bI)))⟩)))) aK))))))
   (Fl.aN (Fl.bE (aP (dL (aL (cR (bQ rfl rfl rfl (bP a (b.mono (by decide)) rfl (b8 fun _ _ _ h=>h) (aE (aP (aX (aY rfl) aI (aC (pv 3)) (aA aF))) (aE (aS (pv 1)) a8))))) (aL (bH (pv 5)) (aL (cR (bQ rfl rfl rfl (bP a (b.mono (by decide)) rfl (b8 fun _ _ _ h=>h) (aE (aP (aX (aY rfl) aI (aC (pv 3)) (aA aF))) (aE (aS (pv 1)) a8))))) bI)))))))))))
def qG:FnScope ["_law_script","_law_at","_law_rooms","_law_signs","_law_rows","_law_room","_law_row"] ["_law_script","_law_at","_law_rooms","_law_signs"] (aO (top 33)):=by constructor<;>first|rfl|decide +kernel
def y6(T:Txt w K mg)(D:DefAt K mg "_law_machine" (top 33) ["_law_script","_law_at","_law_rooms","_law_signs"])(c:aT P w K mg base TH 1 "_law_digit_row" ["_law_number","_law_rooms","_law_signs"] f7)(b:aT P w K mg base TH 2 "_law_mixed_row" ["_law_number","_law_rooms","_law_signs"] eY)(a:aT P w K mg base TH 1 "_law_cell" ["_law_script","_law_k"] bS):aT P w K mg base TH 3 "_law_machine" ["_law_script","_law_at","_law_rooms","_law_signs"] fE:=
 @cP P w K mg base TH "_law_machine" (top 33) ["_law_script","_law_at","_law_rooms","_law_signs","_law_rows","_law_room","_law_row"] ["_law_script","_law_at","_law_rooms","_law_signs"] 2 mZ D qG (fun f e A outer s H F E d=>by
  have nd:=qG.nd
  exact (Fl.aD (fX (L2.aH (i:=4) nd rfl (Or.inl rfl) (eR bI)))
   (Fl.aD (Fl.dJ (bD 5) (L2.dJ (dS ⟨rfl,rfl⟩) rfl (i8 (gC rfl T.b_range (aG (aC (pv 2)) aK))) (bC (i:=5) nd rfl (Or.inl rfl))
   (Fl.aN (Fl.dY (PW.pt (Fl.nJ (Fl.cO qZ mQ (aA (aW (dB rfl) cE (aC (pv 1)) (aC (pv 5)))) (aA (c6 rfl (bF b9 rfl T.b_len A7 (aG (aC (pv 0)) aK)))) (b7 _)) (Fl.mL (Fl.cO (iN rfl d.units) fK (aA (aW dE cG (aA (aX (aY rfl) aI (aC (pv 0)) (aA aF))) (aA aF))) (aA aF) (b7 _))))) (Fl.aN (kF rfl (L2.gK (kQ BV BT BU gD (pv 4) (aG (cR (bQ rfl rfl rfl (bP c (d.mono (by decide)) rfl (b8 fun _ _ _ h=>h) (aE (aP (aX (aY rfl) aI (aC (pv 0)) (aA (aW (dB rfl) cE (aC (pv 1)) (aC (pv 5)))))) (aE (aS (pv 2)) (aE (aS (pv 3)) a8)))))) aK))))) (Fl.aD (Fl.aH (L2.aH (i:=6) nd rfl (Or.inl rfl) (bQ rfl rfl rfl (bP b (d.mono (by decide)) rfl (b8 fun _ _ _ h=>h) (aE (aP (aW dE cG (aA (cR (bQ rfl rfl rfl (bP a (d.mono (by decide)) rfl (b8 fun _ _ _ h=>h) (aE (aS (pv 0)) (aE (aP (aW (dB rfl) cE (aC (pv 1)) (aC (pv 5)))) a8)))))) (aA aF))) (aE (aS (pv 2)) (aE (aS (pv 3)) a8)))))))
   (Fl.aD (Fl.dY (PW.pt (Fl.nJ (Fl.cO (iN rfl d.units) fK (aC (pv 5)) (aA aF) (b7 _)) (Fl.nJ (Fl.eK (jX (bF (gR rfl (o3 _)) rfl T.b_isinstance BM (aG (aA (aX (aY rfl) aI (aC (pv 6)) (aA aF))) (aG (iG (v:=.ty "str") rfl T.b_str C8 rfl) aK))))) (Fl.mL (Fl.cO i7 fW (aA (aW dE cG (aA (aW hV fC (aA (cR (bQ rfl rfl rfl (bP a (d.mono (by decide)) rfl (b8 fun _ _ _ h=>h) (aE (aS (pv 0)) (aE (aS (pv 1)) a8)))))) (aA aF))) (aA aF))) (aA aF) (b7 _)))))) (Fl.aN (Fl.aH (L2.aH (i:=6) nd rfl (Or.inl rfl) (aP (aW (dB rfl) cE (aA (dL (aL (aW dE cG (aA (aW hV fC (aA (cR (bQ rfl rfl rfl (bP a (d.mono (by decide)) rfl (b8 fun _ _ _ h=>h) (aE (aS (pv 0)) (aE (aS (pv 1)) a8)))))) (aA aF))) (aC (pv 2))) bI))) (aA (sK rfl (aC (pv 6)) (aB1 (aA aF)) aB0))))))) Fl.cS)
   (Fl.aN (kF rfl (L2.gK (kQ BV BT BU gD (pv 4) (aG (bH (pv 6)) aK)))))))))))
   (Fl.aN (Fl.bE (aP (dX rfl (cC cA rfl T.b_tuple A2 (aG (aC (pv 4)) aK)))))))))
def tK:FnScope ["_law_script","_law_at","_law_size","_law_signs","_law_number","_law_strip_here","_law_k"] ["_law_script","_law_at","_law_size","_law_signs"] (aO (top 34)):=by constructor<;>first|rfl|decide +kernel
def aBS(T:Txt w K mg)(D:DefAt K mg "_law_strip" (top 34) ["_law_script","_law_at","_law_size","_law_signs"])(a:aT P w K mg base TH 1 "_law_cell" ["_law_script","_law_k"] bS):aT P w K mg base TH 2 "_law_strip" ["_law_script","_law_at","_law_size","_law_signs"] iD:=
 @cP P w K mg base TH "_law_strip" (top 34) ["_law_script","_law_at","_law_size","_law_signs","_law_number","_law_strip_here","_law_k"] ["_law_script","_law_at","_law_size","_law_signs"] 1 kL D tK (fun f c A outer s H F E b=>by
  have nd:=tK.nd
  exact (Fl.aD (Fl.dY (PW.pt (Fl.nJ (Fl.cO qZ mQ (aC (pv 1)) (aA (c6 rfl (bF b9 rfl T.b_len A7 (aG (aC (pv 0)) aK)))) (b7 _)) (Fl.mL (Fl.cO (iN rfl b.units) fK (aA (aW dE cG (aA (aX (aY rfl) aI (aC (pv 0)) (aA aF))) (aA aF))) (aA aF) (b7 _))))) (Fl.aD (Fl.aH (L2.aH (i:=4) nd rfl (Or.inl rfl) (aP (aX (aY rfl) aI (aC (pv 0)) (aC (pv 1))))))
   (Fl.aD (Fl.aH (L2.aH (i:=5) nd rfl (Or.inl rfl) (aP dH)))
   (Fl.aD (Fl.dJ (bD 6) (L2.dJ (dS ⟨rfl,rfl⟩) rfl (i8 (gC rfl T.b_range (aG (aC (pv 2)) aK))) (bC (i:=6) nd rfl (Or.inl rfl))
   (Fl.aD (Fl.aH (L2.aH (i:=5) nd rfl (Or.inl rfl) (aP (aW (dB rfl) cE (aC (pv 5)) (aA (aX (aY rfl) aI (aA dH) (aA (aW dE cG (aC (pv 4)) (aC (pv 3))))))))))
   (Fl.aN (Fl.aH (L2.aH (i:=4) nd rfl (Or.inl rfl) (aP (aW hV fC (aC (pv 4)) (aC (pv 3))))))))))
   (Fl.aN (Fl.bE (aS (pv 5))))))) Fl.cS)
   (Fl.aN (Fl.bE (aP (aO1 rfl (kQ G1 PySem.F.slot_str_join PySem.F.type_str_join aOK (aA dH) (aG (aA (dI (eH (eG (N:=["_law_k","_law_script","_law_at","_law_signs"]) (js:=[none,some 0,some 1,some 3]) rfl (.own (.cap rfl (.inl rfl) (.inl rfl) (.cap rfl (.inl rfl) (.inl rfl) (.cap rfl (.inl rfl) (.inl rfl) .nil)))) (by rfl) (uZ (i8 (gC rfl T.b_range (aG (aC (pv 2)) aK))))) (by decide) (by decide) (is:=[0]) (fun cl C d e g=>⟨_,(bC (i:=0) (show (["_law_k","_law_script","_law_at","_law_signs"]:List Str).Nodup by decide +kernel) rfl (Or.inl rfl)),(bD 0),Fl.dD,(aX (aY rfl) aI (aA dH) (aA (aW dE cG (aA (cR (bQ rfl rfl rfl (bP a (b.mono (by decide)) rfl mB (aE (aS (pv 1)) (aE (aP (aW (dB rfl) cE (aC (pv 2)) (aC (pv 0)))) a8)))))) (aC (pv 3)))))⟩)))) aK)) (by intro ρ x h;cases h;exact ⟨_,rfl⟩)))))))
end
section
variable{P:P9}{w:W9}{K:Frag}{mg:Str->O9 V9}{base:H9}{TH:Hp}
def uO:FnScope ["_law_machine_here","_law_strip_here","_law_stand","_law_place","_law_room","_law_left","_law_cells","_law_right","_law_there","_law_step_here"] ["_law_machine_here","_law_strip_here","_law_stand"] (aO (top 35)):=by constructor<;>first|rfl|decide +kernel
def aEO(T:Txt w K mg)(D:DefAt K mg "_law_step" (top 35) ["_law_machine_here","_law_strip_here","_law_stand"]):aT P w K mg base TH 1 "_law_step" ["_law_machine_here","_law_strip_here","_law_stand"] gA:=
 @cP P w K mg base TH "_law_step" (top 35) ["_law_machine_here","_law_strip_here","_law_stand","_law_place","_law_room","_law_left","_law_cells","_law_right","_law_there","_law_step_here"] ["_law_machine_here","_law_strip_here","_law_stand"] 0 qP D uO (fun f a A outer s H F E b=>by
  have nd:=uO.nd
  exact (Fl.aD (nR (jW rfl (cN (bD 3) (cN (bD 4) iI)) rfl) (iL (bH (pv 2)) (jU rfl (cM (bC (i:=3) nd rfl (Or.inl rfl)) (cM (bC (i:=4) nd rfl (Or.inl rfl)) iH)))))
   (Fl.aD (nR (jW rfl (cN (bD 5) (cN (bD 6) (cN (bD 7) iI))) rfl) (iL (aX (aY rfl) aI (aC (pv 0)) (aC (pv 4))) (jU rfl (cM (bC (i:=5) nd rfl (Or.inl rfl)) (cM (bC (i:=6) nd rfl (Or.inl rfl)) (cM (bC (i:=7) nd rfl (Or.inl rfl)) iH))))))
   (Fl.aD (Fl.dY (PW.pt (Fl.jI (Fl.cO (iN rfl b.units) fK (aC (pv 3)) (aA aF) (b7 _)) (Fl.lD (Fl.cO i7 fW (aC (pv 3)) (aA (c6 rfl (bF b9 rfl T.b_len A7 (aG (aC (pv 1)) aK)))) (b7 _))))) (Fl.aD (Fl.aH (L2.aH (i:=8) nd rfl (Or.inl rfl) (aP (aX (aY rfl) aI (aA (dI (eR (aL (bH (pv 5)) (aL (bH (pv 7)) bI))))) (aA (mR (cC kB rfl T.b_int CJ (aG (aA (jV i7 fW (aC (pv 3)) (aA aF) (b7 _))) aK))))))))
   (Fl.aD (Fl.dY (Fl.eK (jX (bF (gR rfl (o3 _)) rfl T.b_isinstance BM (aG (aC (pv 8)) (aG (iG (v:=.ty "str") rfl T.b_str C8 rfl) aK))))) (Fl.aN (Fl.bE (aP tW))) Fl.cS)
   (Fl.aN (Fl.bE (aP (dL (aL (aX (aY rfl) aI (aA (dI (eR (aL aF (aL (c6 rfl (bF b9 rfl T.b_len A7 (aG (aC (pv 1)) aK))) bI))))) (aA (mR (cC kB rfl T.b_int CJ (aG (aA (jV i7 fW (aC (pv 3)) (aA aF) (b7 _))) aK))))) (aL (bH (pv 8)) bI)))))))) Fl.cS)
   (Fl.aD (nR (jW rfl (cN (bD 8) (cN (bD 9) iI)) rfl) (iL (aX (aY rfl) aI (aC (pv 6)) (aA (aLW (kQ G1 PySem.F.slot_str_index PySem.F.type_str_index aLE (aA dH) (aG (aA (aX (aY rfl) aI (aC (pv 1)) (aA (aW o0 lX (aC (pv 3)) (aA aF))))) aK)) (by intro ρ x h;cases h;exact ⟨_,rfl⟩)))) (jU rfl (cM (bC (i:=8) nd rfl (Or.inl rfl)) (cM (bC (i:=9) nd rfl (Or.inl rfl)) iH)))))
   (Fl.aN (Fl.bE (aP (dL (aL (aW (dB rfl) cE (aC (pv 3)) (aC (pv 9))) (aL (bH (pv 8)) bI)))))))))))
def rQ:FnScope ["_law_machine_here","_law_strip_here","_law_stands_here","_law_met","_law_after"] ["_law_machine_here","_law_strip_here"] (aO (top 36)):=by constructor<;>first|rfl|decide +kernel
def aAU(T:Txt w K mg)(D:DefAt K mg "_law_stands" (top 36) ["_law_machine_here","_law_strip_here"])(a:aT P w K mg base TH 1 "_law_step" ["_law_machine_here","_law_strip_here","_law_stand"] gA):aT P w K mg base TH 2 "_law_stands" ["_law_machine_here","_law_strip_here"] jZ:=
 @cP P w K mg base TH "_law_stands" (top 36) ["_law_machine_here","_law_strip_here","_law_stands_here","_law_met","_law_after"] ["_law_machine_here","_law_strip_here"] 1 oC D rQ (fun f c A outer s H F E b=>by
  have nd:=rQ.nd
  exact (Fl.aD (fX (L2.aH (i:=2) nd rfl (Or.inl rfl) (eR (aL (dL (aL aF (aL aF bI))) bI))))
   (Fl.aD (o5 rfl (L2.aH (i:=3) nd rfl (Or.inl rfl) o4))
   (Fl.aD (Fl.dU (L2.dU (dS ⟨rfl,rfl⟩) (rA rfl rfl (mM (wR b.units) (aX (aY rfl) aI (aC (pv 2)) (aA (xW q9 nO (aA aF)))) (pv 3) (by with_unfolding_all rfl)))
   (Fl.aD (Fl.o6 rfl rfl (iL iW (qU (pv 3) (aX (aY rfl) aI (aC (pv 2)) (aA (xW q9 nO (aA aF)))) (mS b.units))))
   (Fl.aD (Fl.aH (L2.aH (i:=4) nd rfl (Or.inl rfl) (bQ rfl rfl rfl (bP a (b.mono (by decide)) rfl (b8 fun _ _ _ h=>h) (aE (aS (pv 0)) (aE (aS (pv 1)) (aE (aP (aX (aY rfl) aI (aC (pv 2)) (aA (xW q9 nO (aA aF))))) a8)))))))
   (Fl.aD (Fl.dY (Fl.cO aJB aCX (aC (pv 4)) (aA tW) (b7 _)) (Fl.aN (p6 2 (Fl.bE (aS (pv 2))))) Fl.cS)
   (Fl.aN (kF rfl (L2.gK (kQ BV BT BU gD (pv 2) (aG (bH (pv 4)) aK))))))))))
   (Fl.aN (p6 2 (Fl.bE (aS (pv 2)))))))))
def uP:FnScope ["_law_machine_here","_law_strip_here","_law_place","_law_room"] ["_law_machine_here","_law_strip_here"] (aO (top 37)):=by constructor<;>first|rfl|decide +kernel
def aEP(T:Txt w K mg)(D:DefAt K mg "_law_says" (top 37) ["_law_machine_here","_law_strip_here"])(a:aT P w K mg base TH 2 "_law_stands" ["_law_machine_here","_law_strip_here"] jZ)(b:aT P w K mg base TH 1 "_law_step" ["_law_machine_here","_law_strip_here","_law_stand"] gA):aT P w K mg base TH 3 "_law_says" ["_law_machine_here","_law_strip_here"] eS:=
 @cP P w K mg base TH "_law_says" (top 37) ["_law_machine_here","_law_strip_here","_law_place","_law_room"] ["_law_machine_here","_law_strip_here"] 2 qQ D uP (fun f d A outer s H F E c=>by
  have nd:=uP.nd
  exact (Fl.aD (nR (jW rfl (cN (bD 2) (cN (bD 3) iI)) rfl) (iL (aX (aY rfl) aI (aA (cR (bQ rfl rfl rfl (bP a (c.mono (by decide)) rfl (b8 fun _ _ _ h=>h) (aE (aS (pv 0)) (aE (aS (pv 1)) a8)))))) (aA (xW q9 nO (aA aF)))) (jU rfl (cM (bC (i:=2) nd rfl (Or.inl rfl)) (cM (bC (i:=3) nd rfl (Or.inl rfl)) iH)))))
   (Fl.aD (Fl.dY (Fl.cO aLP aHE (aA (cR (bQ rfl rfl rfl (bP b (c.mono (by decide)) rfl (b8 fun _ _ _ h=>h) (aE (aS (pv 0)) (aE (aS (pv 1)) (aE (aP (dL (aL (bH (pv 2)) (aL (bH (pv 3)) bI)))) a8))))))) (aA tW) (b7 _)) (Fl.aN (Fl.bE (aP dH))) Fl.cS)
   (Fl.aN (Fl.bE (aP (aX (aY rfl) aI (aA (dI (eR (aL (aX (aY rfl) aI (aA (aX (aY rfl) aI (aC (pv 0)) (aC (pv 3)))) (aA aF)) (aL (aX (aY rfl) aI (aA (aX (aY rfl) aI (aC (pv 0)) (aC (pv 3)))) (aA aF)) bI))))) (aA (mR (cC kB rfl T.b_int CJ (aG (aA (jV i7 fW (aC (pv 2)) (aA aF) (b7 _))) aK)))))))))))
def tL:FnScope ["_law_found"] ["_law_found"] (aO (top 38)):=by constructor<;>first|rfl|decide +kernel
def aBT(T:Txt w K mg)(D:DefAt K mg "_law_whole" (top 38) ["_law_found"]):aT P w K mg base TH 1 "_law_whole" ["_law_found"] gG:=
 @cP P w K mg base TH "_law_whole" (top 38) ["_law_found"] ["_law_found"] 0 pQ D tL (fun f a A outer s H F E b=>by
  have nd:=tL.nd
  exact (Fl.aN (Fl.bE (aP (x5 (jX (bF (gR rfl (aO0 _)) rfl T.b_isinstance BM (aG (aC (pv 0)) (aG (iG (v:=.ty "int") rfl T.b_int CJ rfl) aK)))) (xZ (aR3 (jX (bF (gR rfl (aLT _)) rfl T.b_isinstance BM (aG (aC (pv 0)) (aG (iG (v:=.ty "bool") rfl T.b_bool PyProof.Rows.boot_bool rfl) aK)))))))))))
def rR:FnScope ["_law_machine_here","_law_strip_here","_law_place","_law_room","_law_met"] ["_law_machine_here","_law_strip_here","_law_place","_law_room"] (aO (top 39)):=by constructor<;>first|rfl|decide +kernel
def aAV(T:Txt w K mg)(D:DefAt K mg "_law_beyond" (top 39) ["_law_machine_here","_law_strip_here","_law_place","_law_room"])(a:aT P w K mg base TH 1 "_law_step" ["_law_machine_here","_law_strip_here","_law_stand"] gA):aT P w K mg base TH 2 "_law_beyond" ["_law_machine_here","_law_strip_here","_law_place","_law_room"] gS:=
 @cP P w K mg base TH "_law_beyond" (top 39) ["_law_machine_here","_law_strip_here","_law_place","_law_room","_law_met"] ["_law_machine_here","_law_strip_here","_law_place","_law_room"] 1 oD D rR (fun f c A outer s H F E b=>by
  have nd:=rR.nd
  exact (Fl.aD (o5 rfl (L2.aH (i:=4) nd rfl (Or.inl rfl) o4))
   (Fl.aD (Fl.dU (L2.dU (dS ⟨rfl,rfl⟩) (Fl.cO aCV wP (aC (pv 2)) (aA (c6 rfl (bF b9 rfl T.b_len A7 (aG (aC (pv 1)) aK)))) (b7 _))
   (Fl.aD (Fl.dY (rA rfl rfl (mM (zS b.units) (dL (aL (bH (pv 2)) (aL (bH (pv 3)) bI))) (pv 4) (by with_unfolding_all rfl))) (Fl.aN (Fl.bE (aP dH))) Fl.cS)
   (Fl.aD (Fl.o6 rfl rfl (iL iW (qU (pv 4) (dL (aL (bH (pv 2)) (aL (bH (pv 3)) bI))) (mS b.units))))
   (Fl.aD (Fl.dY (PW.pt (Fl.nJ (Fl.cO (iN rfl b.units) fK (aC (pv 2)) (aA aF) (b7 _)) (Fl.mL (Fl.eK (jX (bF (gR rfl (o3 _)) rfl T.b_isinstance BM (aG (aA (aX (aY rfl) aI (aA (aX (aY rfl) aI (aC (pv 0)) (aC (pv 3)))) (aA aF))) (aG (iG (v:=.ty "str") rfl T.b_str C8 rfl) aK)))))))) (Fl.aN (Fl.bE (aP (aX (aY rfl) aI (aA (aX (aY rfl) aI (aC (pv 0)) (aC (pv 3)))) (aA aF))))) Fl.cS)
   (Fl.aN (nR (jW rfl (cN (bD 2) (cN (bD 3) iI)) rfl) (iL (cR (bQ rfl rfl rfl (bP a (b.mono (by decide)) rfl (b8 fun _ _ _ h=>h) (aE (aS (pv 0)) (aE (aS (pv 1)) (aE (aP (dL (aL (bH (pv 2)) (aL (bH (pv 3)) bI)))) a8)))))) (jU rfl (cM (bC (i:=2) nd rfl (Or.inl rfl)) (cM (bC (i:=3) nd rfl (Or.inl rfl)) iH)))))))))))
   (Fl.aN (Fl.bE (aS (pv 3)))))))
def oJ:FnScope ["_law_machine_here","_law_strip_here","_law_backs"] ["_law_machine_here","_law_strip_here"] (aO (top 40)):=by constructor<;>first|rfl|decide +kernel
def wA(T:Txt w K mg)(D:DefAt K mg "_law_beginning" (top 40) ["_law_machine_here","_law_strip_here"])(a:aT P w K mg base TH 2 "_law_beyond" ["_law_machine_here","_law_strip_here","_law_place","_law_room"] gS):aT P w K mg base TH 3 "_law_beginning" ["_law_machine_here","_law_strip_here"] eZ:=
 @cP P w K mg base TH "_law_beginning" (top 40) ["_law_machine_here","_law_strip_here","_law_backs"] ["_law_machine_here","_law_strip_here"] 2 lS D oJ (fun f c A outer s H F E b=>by
  have nd:=oJ.nd
  exact (Fl.aD (zQ (L2.rX (i:=2) nd rfl (Or.inl rfl) (by rfl) (N:=["_law_room","_law_machine_here","_law_strip_here"]) (js:=[none,some 0,some 1]) rfl (.own (.cap rfl (.inl rfl) (.inl rfl) (.cap rfl (.inl rfl) (.inl rfl) .nil))) (by rfl) (uZ (i8 (gC rfl T.b_range (aG (aA (c6 rfl (bF b9 rfl T.b_len A7 (aG (aC (pv 0)) aK)))) aK))))) (by decide) (by decide) (is:=[0]) (fun cl C d e g=>⟨_,(bC (i:=0) (show (["_law_room","_law_machine_here","_law_strip_here"]:List Str).Nodup by decide +kernel) rfl (Or.inl rfl)),(bD 0),Fl.dD,(cR (bQ rfl rfl rfl (bP a (b.mono (by decide)) rfl mB (aE (aS (pv 1)) (aE (aS (pv 2)) (aE (aP (c6 rfl (bF b9 rfl T.b_len A7 (aG (aC (pv 2)) aK)))) (aE (aS (pv 0)) a8)))))))⟩))
   (Fl.aN (Fl.bE (aP (dL (aL (cR (bQ rfl rfl rfl (bP a (b.mono (by decide)) rfl (b8 fun _ _ _ h=>h) (aE (aS (pv 0)) (aE (aS (pv 1)) (aE (aP aF) (aE (aP aF) a8))))))) (aL (dX rfl (cC cA rfl T.b_tuple A2 (aG (aC (pv 2)) aK))) bI))))))))
end
section
variable{P:P9}{w:W9}{K:Frag}{mg:Str->O9 V9}{base:H9}{TH:Hp}
def uQ:FnScope ["_law_machine_here","_law_signs","_law_most","_law_strips","_law_known","_law_rows","_law_row","_law_sign","_law_strip_here","_law_begun"] ["_law_machine_here","_law_signs","_law_most"] (aO (top 41)):=by constructor<;>first|rfl|decide +kernel
def aEQ(T:Txt w K mg)(D:DefAt K mg "_law_ways" (top 41) ["_law_machine_here","_law_signs","_law_most"])(a:aT P w K mg base TH 3 "_law_beginning" ["_law_machine_here","_law_strip_here"] eZ)(b:aT P w K mg base TH 3 "_law_says" ["_law_machine_here","_law_strip_here"] eS):aT P w K mg base TH 4 "_law_ways" ["_law_machine_here","_law_signs","_law_most"] dF:=
 @cP P w K mg base TH "_law_ways" (top 41) ["_law_machine_here","_law_signs","_law_most","_law_strips","_law_known","_law_rows","_law_row","_law_sign","_law_strip_here","_law_begun"] ["_law_machine_here","_law_signs","_law_most"] 3 qR D uQ (fun f d A outer s H F E c=>by
  have nd:=uQ.nd
  exact (Fl.aD (fX (L2.aH (i:=3) nd rfl (Or.inl rfl) (eR (aL dH bI))))
   (Fl.aD (aFQ rfl rfl (L2.aH (i:=4) nd rfl (Or.inl rfl) (aFO c.units (aC8 (cR (bQ rfl rfl rfl (bP a (c.mono (by decide)) rfl (b8 fun _ _ _ h=>h) (aE (aS (pv 0)) (aE (aP dH) a8))))) aF aFP))))
   (Fl.aD (fX (L2.aH (i:=5) nd rfl (Or.inl rfl) (eR bI)))
   (Fl.aD (Fl.dU (L2.dU (dS ⟨rfl,rfl⟩) (Fl.cO qZ mQ (aA (c6 rfl (bF b9 rfl T.b_len A7 (aG (aC (pv 5)) aK)))) (aA (c6 rfl (bF b9 rfl T.b_len A7 (aG (aC (pv 3)) aK)))) (b7 _))
   (Fl.aD (fX (L2.aH (i:=6) nd rfl (Or.inl rfl) (eR bI)))
   (Fl.aD (Fl.dJ (bD 7) (L2.dJ (dS ⟨rfl,rfl⟩) rfl (zM rfl (sK rfl (aA dH) aB0 (aB1 (aC (pv 1))))) (bC (i:=7) nd rfl (Or.inl rfl))
   (Fl.aD (Fl.aH (L2.aH (i:=8) nd rfl (Or.inl rfl) (aP (aW (dB rfl) cE (aA (aX (aY rfl) aI (aC (pv 3)) (aA (c6 rfl (bF b9 rfl T.b_len A7 (aG (aC (pv 5)) aK)))))) (aC (pv 7))))))
   (Fl.aD (Fl.aH (L2.aH (i:=9) nd rfl (Or.inl rfl) (bQ rfl rfl rfl (bP a (c.mono (by decide)) rfl (b8 fun _ _ _ h=>h) (aE (aS (pv 0)) (aE (aS (pv 8)) a8))))))
   (Fl.aD (Fl.dY (rA rfl rfl (mM (wR c.units) (bH (pv 9)) (pv 4) (by with_unfolding_all rfl))) (Fl.aD (Fl.o6 rfl rfl (iL (c6 rfl (bF b9 rfl T.b_len A7 (aG (aC (pv 3)) aK))) (qU (pv 4) (bH (pv 9)) (mS c.units))))
   (Fl.aN (kF rfl (L2.gK (kQ BV BT BU gD (pv 3) (aG (bH (pv 8)) aK)))))) Fl.cS)
   (Fl.aN (kF rfl (L2.gK (kQ BV BT BU gD (pv 6) (aG (vB rfl rfl (vA c.units (pv 4) (bH (pv 9)) (fun _ _=>rfl))) aK))))))))))
   (Fl.aD (kF rfl (L2.gK (kQ BV BT BU gD (pv 5) (aG (dX rfl (cC cA rfl T.b_tuple A2 (aG (aC (pv 6)) aK))) aK))))
   (Fl.aN (Fl.dY (Fl.cO i7 fW (aA (c6 rfl (bF b9 rfl T.b_len A7 (aG (aC (pv 3)) aK)))) (aC (pv 2)) (b7 _)) (Fl.aN (Fl.bE (aP tW))) Fl.cS)))))))
   (Fl.aN (p6 3 (Fl.bE (aP (dL (aL (bH (pv 3)) (aL (dX rfl (cC cA rfl T.b_tuple A2 (aG (aC (pv 5)) aK))) (aL (dX rfl (cC cA rfl T.b_tuple A2 (aG (aA (dI (eH (eG (N:=["_law_strip_here","_law_machine_here"]) (js:=[none,some 0]) rfl (.own (.cap rfl (.inl rfl) (.inl rfl) .nil)) (by rfl) (k9 rfl (aC (pv 3)))) (by decide) (by decide) (is:=[0]) (fun cl C e g j=>⟨_,(bC (i:=0) (show (["_law_strip_here","_law_machine_here"]:List Str).Nodup by decide +kernel) rfl (Or.inl rfl)),(bD 0),Fl.dD,(cR (bQ rfl rfl rfl (bP b (c.mono (by decide)) rfl mB (aE (aS (pv 1)) (aE (aS (pv 0)) a8)))))⟩)))) aK))) bI)))))))))))))
def tM:FnScope ["_law_script","_law_at","_law_signs","_law_rooms","_law_machine_here","_law_ways_here"] ["_law_script","_law_at"] (aO (top 42)):=by constructor<;>first|rfl|decide +kernel
def aBU(T:Txt w K mg)(D:DefAt K mg "_law_small" (top 42) ["_law_script","_law_at"])(c:aT P w K mg base TH 1 "_law_cell" ["_law_script","_law_k"] bS)(a:aT P w K mg base TH 3 "_law_machine" ["_law_script","_law_at","_law_rooms","_law_signs"] fE)(b:aT P w K mg base TH 4 "_law_ways" ["_law_machine_here","_law_signs","_law_most"] dF):aT P w K mg base TH 5 "_law_small" ["_law_script","_law_at"] jE:=
 @cP P w K mg base TH "_law_small" (top 42) ["_law_script","_law_at","_law_signs","_law_rooms","_law_machine_here","_law_ways_here"] ["_law_script","_law_at"] 4 pR D tM (fun f e A outer s H F E d=>by
  have nd:=tM.nd
  exact (Fl.aD (Fl.aH (L2.aH (i:=2) nd rfl (Or.inl rfl) (aP (aW (dB rfl) cE (aA aF) (aA (aW dE cG (aA (cR (bQ rfl rfl rfl (bP c (d.mono (by decide)) rfl (b8 fun _ _ _ h=>h) (aE (aS (pv 0)) (aE (aS (pv 1)) a8)))))) (aA aF)))))))
   (Fl.aD (Fl.aH (L2.aH (i:=3) nd rfl (Or.inl rfl) (aP (aW (dB rfl) cE (aA aF) (aA (aW dE cG (aA (cR (bQ rfl rfl rfl (bP c (d.mono (by decide)) rfl (b8 fun _ _ _ h=>h) (aE (aS (pv 0)) (aE (aP (aW (dB rfl) cE (aC (pv 1)) (aA aF))) a8)))))) (aA (aX (aY rfl) aI (aA (dI (eR (aL aF (aL aF bI))))) (aA (aW o0 lX (aC (pv 2)) (aA aF)))))))))))
   (Fl.aD (Fl.aH (L2.aH (i:=4) nd rfl (Or.inl rfl) (bQ rfl rfl rfl (bP a (d.mono (by decide)) rfl (b8 fun _ _ _ h=>h) (aE (aS (pv 0)) (aE (aP (aW (dB rfl) cE (aC (pv 1)) (aA aF))) (aE (aS (pv 3)) (aE (aS (pv 2)) a8))))))))
   (Fl.aD (Fl.aH (L2.aH (i:=5) nd rfl (Or.inl rfl) (bQ rfl rfl rfl (bP b (d.mono (by decide)) rfl (b8 fun _ _ _ h=>h) (aE (aS (pv 4)) (aE (aS (pv 2)) (aE (aP aF) a8)))))))
   (Fl.aD (Fl.dU (L2.dU (dS ⟨rfl,rfl⟩) (Fl.cO aJB aCX (aC (pv 5)) (aA tW) (b7 _))
   (Fl.aD (Fl.aH (L2.aH (i:=3) nd rfl (Or.inl rfl) (aP (aW o0 lX (aC (pv 3)) (aA aF)))))
   (Fl.aD (Fl.aH (L2.aH (i:=4) nd rfl (Or.inl rfl) (bQ rfl rfl rfl (bP a (d.mono (by decide)) rfl (b8 fun _ _ _ h=>h) (aE (aS (pv 0)) (aE (aP (aW (dB rfl) cE (aC (pv 1)) (aA aF))) (aE (aS (pv 3)) (aE (aS (pv 2)) a8))))))))
   (Fl.aN (Fl.aH (L2.aH (i:=5) nd rfl (Or.inl rfl) (bQ rfl rfl rfl (bP b (d.mono (by decide)) rfl (b8 fun _ _ _ h=>h) (aE (aS (pv 4)) (aE (aS (pv 2)) (aE (aP aF) a8))))))))))))
   (Fl.aN (Fl.bE (aP (dL (aL (bH (pv 4)) (aL (bH (pv 5)) bI))))))))))))
def qH:FnScope ["_law_rows","_law_words","_law_marks","_law_many","_law_keys","_law_numbers","_law_key"] ["_law_rows","_law_words"] (aO (top 43)):=by constructor<;>first|rfl|decide +kernel
def y7(T:Txt w K mg)(D:DefAt K mg "_law_classes" (top 43) ["_law_rows","_law_words"]):aT P w K mg base TH 1 "_law_classes" ["_law_rows","_law_words"] gJ:=
 @cP P w K mg base TH "_law_classes" (top 43) ["_law_rows","_law_words","_law_marks","_law_many","_law_keys","_law_numbers","_law_key"] ["_law_rows","_law_words"] 0 kN D qH (fun f e A outer s H F E d=>by
  have nd:=qH.nd
  exact (Fl.aD (fX (L2.aH (i:=2) nd rfl (Or.inr rfl) (aOX rfl (cC aCA rfl T.b_list PyProof.Rows.boot_list (aG (aC (pv 1)) aK)))))
   (Fl.aD (Fl.aH (L2.aH (i:=3) nd rfl (Or.inl rfl) (aP aF)))
   (Fl.aD (Fl.dU (L2.dU (dS ⟨rfl,rfl⟩) (Fl.cO i7 fW (aA (aAR rfl (L2.aAQ rfl rfl T.b_len rfl T.b_set (aG (aC (pv 2)) aK)))) (aC (pv 3)) (b7 _))
   (Fl.aD (Fl.aH (L2.aH (i:=3) nd rfl (Or.inl rfl) (aP (aAR rfl (L2.aAQ rfl rfl T.b_len rfl T.b_set (aG (aC (pv 2)) aK))))))
   (Fl.aD (zQ (L2.rX (i:=4) nd rfl (Or.inl rfl) (by rfl) (N:=["_law_room","_law_marks","_law_rows"]) (js:=[none,some 2,some 0]) rfl (.own (.cap rfl (.inl rfl) (.inl rfl) (.cap rfl (.inl rfl) (.inl rfl) .nil))) (by rfl) (uZ (i8 (gC rfl T.b_range (aG (aA (c6 rfl (bF b9 rfl T.b_len A7 (aG (aC (pv 0)) aK)))) aK))))) (by decide) (by decide) (is:=[0]) (fun cl C a b c=>⟨_,(bC (i:=0) (show (["_law_room","_law_marks","_law_rows"]:List Str).Nodup by decide +kernel) rfl (Or.inl rfl)),(bD 0),Fl.dD,(aW (dB rfl) cE (aA (dL (aL (aX (aY rfl) aI (aC (pv 1)) (aC (pv 0))) bI))) (aA (dX rfl (cC cA rfl T.b_tuple A2 (aG (aA (dI (eH (eG (N:=["_law_there","_law_marks"]) (js:=[none,some 1]) rfl (.own (.cap rfl (by first|exact .inl rfl|exact .inr rfl) (by first|exact .inl rfl|exact .inr rfl) .nil)) (by rfl) (k9 rfl (aA (aX (aY rfl) aI (aC (pv 2)) (aC (pv 0)))))) (by decide) (by decide) (is:=[0]) (fun cl C a b c=>⟨_,(bC (i:=0) (show (["_law_there","_law_marks"]:List Str).Nodup by decide +kernel) rfl (Or.inl rfl)),(bD 0),Fl.dD,(aX (aY rfl) aI (aC (pv 1)) (aC (pv 0)))⟩)))) aK)))))⟩))
   (Fl.aD (o5 rfl (L2.aH (i:=5) nd rfl (Or.inr rfl) o4))
   (Fl.aD (p6 4 (Fl.dJ (bD 6) (L2.dJ (dS ⟨rfl,rfl⟩) rfl (zM rfl (bH (pv 4))) (bC (i:=6) nd rfl (Or.inl rfl))
   (Fl.aN (aF4 rfl rfl (L2.gK (aJL GP DI FQ (aJX d.units) (pv 5) (aG (bH (pv 6)) (aG (aPM rfl rfl (bF aJ0 rfl T.b_len A7 (aG (pv 5) aK))) aK)))))))))
   (Fl.aN (fX (L2.aH (i:=2) nd rfl (Or.inr rfl) (eH (eG (N:=["_law_key","_law_numbers"]) (js:=[none,some 5]) rfl (.own (.cap rfl (.inl rfl) (.inl rfl) .nil)) (by rfl) (k9 rfl (aC (pv 4)))) (by decide) (by decide) (is:=[0]) (fun cl C a b c=>⟨_,(bC (i:=0) (show (["_law_key","_law_numbers"]:List Str).Nodup by decide +kernel) rfl (Or.inl rfl)),(bD 0),Fl.dD,(vB rfl rfl (vA d.units (pv 1) (bH (pv 0)) (fun _ _=>rfl)))⟩)))))))))))
   (Fl.aN (p6 2 (Fl.bE (aS (pv 2)))))))))
def rS:FnScope ["_law_found","_law_rooms"] ["_law_found","_law_rooms"] (aO (top 44)):=by constructor<;>first|rfl|decide +kernel
def aAW(T:Txt w K mg)(D:DefAt K mg "_law_is_end" (top 44) ["_law_found","_law_rooms"])(a:aT P w K mg base TH 1 "_law_whole" ["_law_found"] gG):aT P w K mg base TH 2 "_law_is_end" ["_law_found","_law_rooms"] gT:=
 @cP P w K mg base TH "_law_is_end" (top 44) ["_law_found","_law_rooms"] ["_law_found","_law_rooms"] 1 lK D rS (fun f c A outer s H F E b=>by
  have nd:=rS.nd
  exact (Fl.aN (Fl.bE (aP (x6 (Fl.eK (jX (bF (gR rfl (o3 _)) rfl T.b_isinstance BM (aG (aC (pv 0)) (aG (iG (v:=.ty "str") rfl T.b_str C8 rfl) aK))))) (jV (aJC rfl b.units) aCY (aC (pv 0)) (aA (dL (aL dH (aL dH bI)))) (by with_unfolding_all rfl)) (x5 (cR (bQ rfl rfl rfl (bP a (b.mono (by decide)) rfl (b8 fun _ _ _ h=>h) (aE (aS (pv 0)) a8)))) (xZ (aC0 aCV wP qZ mQ (aA aF) (aC (pv 0)) (aC (pv 1))))))))))
def qI:FnScope ["_law_found","_law_rooms"] ["_law_found","_law_rooms"] (aO (top 45)):=by constructor<;>first|rfl|decide +kernel
def y8(T:Txt w K mg)(D:DefAt K mg "_law_is_cell" (top 45) ["_law_found","_law_rooms"])(a:aT P w K mg base TH 1 "_law_whole" ["_law_found"] gG):aT P w K mg base TH 2 "_law_is_cell" ["_law_found","_law_rooms"] iA:=
 @cP P w K mg base TH "_law_is_cell" (top 45) ["_law_found","_law_rooms"] ["_law_found","_law_rooms"] 1 m6 D qI (fun f c A outer s H F E b=>by
  have nd:=qI.nd
  exact (Fl.aD (Fl.dY (PW.pt (Fl.jI (Fl.gB (Fl.eK (jX (bF (gR rfl (p8 _)) rfl T.b_isinstance BM (aG (aC (pv 0)) (aG (iG (v:=.ty "tuple") rfl T.b_tuple A2 rfl) aK)))))) (Fl.jI (Fl.cO (nQ rfl b.units) kE (aA (c6 rfl (bF b9 rfl T.b_len A7 (aG (aC (pv 0)) aK)))) (aA aF) (b7 _)) (Fl.jI (Fl.gB (Fl.eK (cR (bQ rfl rfl rfl (bP a (b.mono (by decide)) rfl (b8 fun _ _ _ h=>h) (aE (aP (aX (aY rfl) aI (aC (pv 0)) (aA aF))) a8)))))) (Fl.lD (Fl.gB (Fl.eK (cR (bQ rfl rfl rfl (bP a (b.mono (by decide)) rfl (b8 fun _ _ _ h=>h) (aE (aP (aX (aY rfl) aI (aC (pv 0)) (aA aF))) a8))))))))))) (Fl.aN (Fl.bE (aP iW))) Fl.cS)
   (Fl.aN (Fl.bE (aP (x5 (aC0 aCV wP qZ mQ (aA aF) (aA (aX (aY rfl) aI (aC (pv 0)) (aA aF))) (aC (pv 1))) (xZ (jV (aJC rfl b.units) aCY (aA (aX (aY rfl) aI (aC (pv 0)) (aA aF))) (aA (dL (aL aF (aL (xW q9 nO (aA aF)) bI)))) (by with_unfolding_all rfl)))))))))
def nW:FnScope ["_law_found","_law_rooms","_law_signs","_law_row"] ["_law_found","_law_rooms","_law_signs"] (aO (top 46)):=by constructor<;>first|rfl|decide +kernel
def uR(T:Txt w K mg)(D:DefAt K mg "_law_is_machine" (top 46) ["_law_found","_law_rooms","_law_signs"])(a:aT P w K mg base TH 2 "_law_is_end" ["_law_found","_law_rooms"] gT)(b:aT P w K mg base TH 2 "_law_is_cell" ["_law_found","_law_rooms"] iA):aT P w K mg base TH 3 "_law_is_machine" ["_law_found","_law_rooms","_law_signs"] gX:=
 @cP P w K mg base TH "_law_is_machine" (top 46) ["_law_found","_law_rooms","_law_signs","_law_row"] ["_law_found","_law_rooms","_law_signs"] 2 lB D nW (fun f d A outer s H F E c=>by
  have nd:=nW.nd
  exact (Fl.aD (Fl.dY (PW.pt (Fl.jI (Fl.gB (Fl.eK (jX (bF (gR rfl (p8 _)) rfl T.b_isinstance BM (aG (aC (pv 0)) (aG (iG (v:=.ty "tuple") rfl T.b_tuple A2 rfl) aK)))))) (Fl.lD (Fl.cO (nQ rfl c.units) kE (aA (c6 rfl (bF b9 rfl T.b_len A7 (aG (aC (pv 0)) aK)))) (aC (pv 1)) (b7 _))))) (Fl.aN (Fl.bE (aP iW))) Fl.cS)
   (Fl.aD (Fl.dJ (bD 3) (L2.dJ (dS ⟨rfl,rfl⟩) rfl (zM rfl (bH (pv 0))) (bC (i:=3) nd rfl (Or.inl rfl))
   (Fl.aD (Fl.dY (PW.pt (Fl.jI (Fl.gB (Fl.eK (jX (bF (gR rfl (p8 _)) rfl T.b_isinstance BM (aG (aC (pv 3)) (aG (iG (v:=.ty "tuple") rfl T.b_tuple A2 rfl) aK)))))) (Fl.jI (Fl.cO (nQ rfl c.units) kE (aA (c6 rfl (bF b9 rfl T.b_len A7 (aG (aC (pv 3)) aK)))) (aA aF) (b7 _)) (Fl.jI (Fl.gB (Fl.eK (jX (bF (gR rfl (p8 _)) rfl T.b_isinstance BM (aG (aA (aX (aY rfl) aI (aC (pv 3)) (aA aF))) (aG (iG (v:=.ty "tuple") rfl T.b_tuple A2 rfl) aK)))))) (Fl.lD (Fl.cO (nQ rfl c.units) kE (aA (c6 rfl (bF b9 rfl T.b_len A7 (aG (aA (aX (aY rfl) aI (aC (pv 3)) (aA aF))) aK)))) (aC (pv 2)) (b7 _))))))) (Fl.aN (Fl.bE (aP iW))) Fl.cS)
   (Fl.aD (Fl.dY (PW.pt (Fl.jI (Fl.gB (Fl.eK (cR (bQ rfl rfl rfl (bP a (c.mono (by decide)) rfl (b8 fun _ _ _ h=>h) (aE (aP (aX (aY rfl) aI (aC (pv 3)) (aA aF))) (aE (aS (pv 1)) a8))))))) (Fl.lD (Fl.gB (Fl.eK (cR (bQ rfl rfl rfl (bP a (c.mono (by decide)) rfl (b8 fun _ _ _ h=>h) (aE (aP (aX (aY rfl) aI (aC (pv 3)) (aA aF))) (aE (aS (pv 1)) a8)))))))))) (Fl.aN (Fl.bE (aP iW))) Fl.cS)
   (Fl.aN (Fl.dY (Fl.gB (Fl.eK (aR5 rfl (bF (aIP rfl) rfl T.b_all PyProof.Rows.boot_all (aG (aA (dI (eH (eG (N:=["_law_cell_here","_law_rooms"]) (js:=[none,some 1]) rfl (.own (.cap rfl (.inl rfl) (.inl rfl) .nil)) (by rfl) (k9 rfl (aA (aX (aY rfl) aI (aC (pv 3)) (aA aF))))) (by decide) (by decide) (is:=[0]) (fun cl C e g j=>⟨_,(bC (i:=0) (show (["_law_cell_here","_law_rooms"]:List Str).Nodup by decide +kernel) rfl (Or.inl rfl)),(bD 0),Fl.dD,(cR (bQ rfl rfl rfl (bP b (c.mono (by decide)) rfl mB (aE (aS (pv 0)) (aE (aS (pv 1)) a8)))))⟩)))) aK))))) (Fl.aN (Fl.bE (aP iW))) Fl.cS))))))
   (Fl.aN (Fl.bE (aP iW))))))
end
section
variable{P:P9}{w:W9}{K:Frag}{mg:Str->O9 V9}{base:H9}{TH:Hp}
def rT:FnScope ["_law_found","_law_met","_law_room","_law_row","_law_left","_law_cells","_law_right","_law_there","_law_step_here"] ["_law_found"] (aO (top 47)):=by constructor<;>first|rfl|decide +kernel
def aAX(T:Txt w K mg)(D:DefAt K mg "_law_shaped" (top 47) ["_law_found"]):aT P w K mg base TH 1 "_law_shaped" ["_law_found"] gY:=
 @cP P w K mg base TH "_law_shaped" (top 47) ["_law_found","_law_met","_law_room","_law_row","_law_left","_law_cells","_law_right","_law_there","_law_step_here"] ["_law_found"] 0 lC D rT (fun f b A outer s H F E a=>by
  have nd:=rT.nd
  exact (Fl.aD (Fl.aH (L2.aH (i:=1) nd rfl (Or.inl rfl) (aP aF)))
   (Fl.aD (Fl.dJ (jW rfl (cN (bD 2) (cN (bD 3) iI)) rfl) (L2.dJ (dS ⟨rfl,rfl⟩) rfl (aF6 rfl (L2.aF5 rfl T.b_enumerate (aG (bH (pv 0)) aK))) (jU rfl (cM (bC (i:=2) nd rfl (Or.inl rfl)) (cM (bC (i:=3) nd rfl (Or.inl rfl)) iH)))
   (Fl.aD (nR (jW rfl (cN (bD 4) (cN (bD 5) (cN (bD 6) iI))) rfl) (iL (bH (pv 3)) (jU rfl (cM (bC (i:=4) nd rfl (Or.inl rfl)) (cM (bC (i:=5) nd rfl (Or.inl rfl)) (cM (bC (i:=6) nd rfl (Or.inl rfl)) iH))))))
   (Fl.aD (Fl.dY (PW.pt (Fl.jI (Fl.cO aJA aCW (aC (pv 2)) (aC (pv 1)) (b7 _)) (Fl.jI (Fl.cO (nQ rfl a.units) kE (aC (pv 4)) (aA (aX (aY rfl) aI (aA (dI (eR (aL aF (aL dH bI))))) (aA (mR (cC kB rfl T.b_int CJ (aG (aA (jV i7 fW (aC (pv 2)) (aA aF) (b7 _))) aK)))))) (b7 _)) (Fl.lD (Fl.gB (Fl.eK (jX (bF (gR rfl (o3 _)) rfl T.b_isinstance BM (aG (aC (pv 6)) (aG (iG (v:=.ty "str") rfl T.b_str C8 rfl) aK)))))))))) (Fl.aN (Fl.bE (aP iW))) Fl.cS)
   (Fl.aN (Fl.dJ (jW rfl (cN (bD 7) (cN (bD 8) iI)) rfl) (L2.dJ (dS ⟨rfl,rfl⟩) rfl (zM rfl (bH (pv 5))) (jU rfl (cM (bC (i:=7) nd rfl (Or.inl rfl)) (cM (bC (i:=8) nd rfl (Or.inl rfl)) iH)))
   (Fl.aD (Fl.dY (PW.pt (Fl.jI (Fl.cO (nQ rfl a.units) kE (aC (pv 8)) (aA aF) (b7 _)) (Fl.lD (Fl.cO i7 fW (aC (pv 7)) (aC (pv 1)) (b7 _))))) (Fl.aN (Fl.bE (aP iW))) Fl.cS)
   (Fl.aN (Fl.aH (L2.aH (i:=1) nd rfl (Or.inl rfl) (aP (aW (dB rfl) cE (aC (pv 1)) (aA (mR (cC kB rfl T.b_int CJ (aG (aA (jV (iN rfl a.units) fK (aC (pv 7)) (aC (pv 1)) (b7 _))) aK)))))))))))))))))
   (Fl.aN (Fl.bE (aP iW))))))
def aKV:FnScope ["_law_script","_law_machine_here","_law_ways_here","_law_strips","_law_rows","_law_words","_law_many","_law_found","_law_k","_law_size","_law_strip_here","_law_one"] ["_law_script"] (aO (top 48)):=by constructor<;>first|rfl|decide +kernel
def aTP(T:Txt w K mg){m:Az}{l:FuncData}(n:Fun K "law" "law" (top 48) m l)(f:aT P w K mg base TH 5 "_law_small" ["_law_script","_law_at"] jE)(d:aT P w K mg base TH 1 "_law_classes" ["_law_rows","_law_words"] gJ)(a:aT P w K mg base TH 15 "stopping" ["machine"] iQ)(e:aT P w K mg base TH 1 "_law_shaped" ["_law_found"] gY)(b:aT P w K mg base TH 3 "_law_is_machine" ["_law_found","_law_rooms","_law_signs"] gX)(j:aT P w K mg base TH 1 "_law_cell" ["_law_script","_law_k"] bS)(g:aT P w K mg base TH 2 "_law_strip" ["_law_script","_law_at","_law_size","_law_signs"] iD)(c:aT P w K mg base TH 3 "_law_says" ["_law_machine_here","_law_strip_here"] eS):FnOk P w K mg base (CXe P w) 16 m l ["_law_script"] (spF (gOf P w K mg base TH) K mg 1 aH2):=
 @aR9 P w K mg base TH "law" (top 48) ["_law_script","_law_machine_here","_law_ways_here","_law_strips","_law_rows","_law_words","_law_many","_law_found","_law_k","_law_size","_law_strip_here","_law_one"] ["_law_script"] 15 m l aH1 n aKV (fun o A outer s H F E k=>by
  have nd:=aKV.nd
  exact (Fl.aD (nR (jW rfl (cN (bD 1) (cN (bD 2) iI)) rfl) (iL (cR (bQ rfl rfl rfl (bP f (k.mono (by decide)) rfl (b8 fun _ _ _ h=>h) (aE (aS (pv 0)) (aE (aP aF) a8))))) (jU rfl (cM (bC (i:=1) nd rfl (Or.inl rfl)) (cM (bC (i:=2) nd rfl (Or.inl rfl)) iH)))))
   (Fl.aD (nR (jW rfl (cN (bD 3) (cN (bD 4) (cN (bD 5) iI))) rfl) (iL (bH (pv 2)) (jU rfl (cM (bC (i:=3) nd rfl (Or.inl rfl)) (cM (bC (i:=4) nd rfl (Or.inl rfl)) (cM (bC (i:=5) nd rfl (Or.inl rfl)) iH))))))
   (Fl.aD (Fl.aH (L2.aH (i:=6) nd rfl (Or.inl rfl) (aP (aAR rfl (L2.aAQ rfl rfl T.b_len rfl T.b_set (aG (aA (cR (bQ rfl rfl rfl (bP d (k.mono (by decide)) rfl (b8 fun _ _ _ h=>h) (aE (aS (pv 4)) (aE (aP (dI (eH (eG (N:=["_law_word"]) (js:=[none]) rfl (.own .nil) (by rfl) (k9 rfl (aC (pv 5)))) (by decide) (by decide) (is:=[0]) (fun cl C q r p=>⟨_,(bC (i:=0) (show (["_law_word"]:List Str).Nodup by decide +kernel) rfl (Or.inl rfl)),(bD 0),Fl.dD,(aX (aY rfl) aI (aA (dI (eR (aL dH (aL dH bI))))) (aA (mR (cC kB rfl T.b_int CJ (aG (aA (jV (iN rfl k.units) fK (aC (pv 0)) (aA dH) (b7 _))) aK)))))⟩)))) a8)))))) aK))))))
   (Fl.aD (Fl.aH (L2.aH (i:=7) nd rfl (Or.inl rfl) (bQ rfl rfl rfl (bP a (k.mono (by decide)) rfl (b8 fun _ _ _ h=>h) (aE (aS (pv 1)) a8)))))
   (Fl.aD (Fl.dY (PW.pt (Fl.jI (Fl.gB (Fl.eK (cR (bQ rfl rfl rfl (bP b (k.mono (by decide)) rfl (b8 fun _ _ _ h=>h) (aE (aS (pv 7)) (aE (aS (pv 6)) (aE (aP (c6 rfl (bF b9 rfl T.b_len A7 (aG (aA (aX (aY rfl) aI (aA (aX (aY rfl) aI (aC (pv 1)) (aA aF))) (aA aF))) aK)))) a8)))))))) (Fl.lD (Fl.gB (Fl.eK (cR (bQ rfl rfl rfl (bP e (k.mono (by decide)) rfl (b8 fun _ _ _ h=>h) (aE (aS (pv 7)) a8))))))))) (Fl.aN (Fl.bE (aP iW))) Fl.cS)
   (Fl.aD (Fl.dJ (bD 8) (L2.dJ (dS ⟨rfl,rfl⟩) rfl (i8 (gC rfl T.b_range (aG (aA aF) aK))) (bC (i:=8) nd rfl (Or.inl rfl))
   (Fl.aD (Fl.aH (L2.aH (i:=9) nd rfl (Or.inl rfl) (aP (aW dE cG (aA (cR (bQ rfl rfl rfl (bP j (k.mono (by decide)) rfl (b8 fun _ _ _ h=>h) (aE (aS (pv 0)) (aE (aP (aW (dB rfl) cE (aA aF) (aC (pv 8)))) a8)))))) (aA aF)))))
   (Fl.aD (Fl.aH (L2.aH (i:=10) nd rfl (Or.inl rfl) (bQ rfl rfl rfl (bP g (k.mono (by decide)) rfl (b8 fun _ _ _ h=>h) (aE (aS (pv 0)) (aE (aP (aW (dB rfl) cE (aA aF) (aC (pv 8)))) (aE (aS (pv 9)) (aE (aP (c6 rfl (bF b9 rfl T.b_len A7 (aG (aA (aX (aY rfl) aI (aA (aX (aY rfl) aI (aC (pv 1)) (aA aF))) (aA aF))) aK)))) a8))))))))
   (Fl.aN (Fl.dJ (bD 11) (L2.dJ (dS ⟨rfl,rfl⟩) rfl (zM rfl (dI (eR (aL (bH (pv 10)) (aL (sK rfl (aC (pv 10)) aB0 (aB1 (aA (aW hV fC (aC (pv 9)) (aA aF))))) (aL (aX (aY rfl) aI (aC (pv 3)) (aA (aW dE cG (aC (pv 8)) (aA (c6 rfl (bF b9 rfl T.b_len A7 (aG (aC (pv 3)) aK))))))) bI)))))) (bC (i:=11) nd rfl (Or.inl rfl))
   (Fl.aN (Fl.dY (Fl.cO (nQ rfl k.units) kE (aA (cR (bQ rfl rfl rfl (bP c (k.mono (by decide)) rfl (b8 fun _ _ _ h=>h) (aE (aS (pv 7)) (aE (aS (pv 11)) a8)))))) (aA (aX (aY rfl) aI (aA (dI (eR (aL dH (aL dH bI))))) (aA (mR (cC kB rfl T.b_int CJ (aG (aA (jV (iN rfl k.units) fK (aA (cR (bQ rfl rfl rfl (bP c (k.mono (by decide)) rfl (b8 fun _ _ _ h=>h) (aE (aS (pv 1)) (aE (aS (pv 11)) a8)))))) (aA dH) (b7 _))) aK)))))) (b7 _)) (Fl.aN (Fl.bE (aP iW))) Fl.cS)))))))))
   (Fl.aN (Fl.bE (aP (x5 (jV (iN rfl k.units) fK (aA (cR (bQ rfl rfl rfl (bP a (k.mono (by decide)) rfl (b8 fun _ _ _ h=>h) (aE (aS (pv 1)) a8))))) (aC (pv 7)) (b7 _)) (xZ (jV (iN rfl k.units) fK (aA (cR (bQ rfl rfl rfl (bP a (k.mono (by decide)) rfl (b8 fun _ _ _ h=>h) (aE (aS (pv 7)) a8))))) (aC (pv 7)) (b7 _))))))))))))))
end
def afW(rs:List Rw)(sg:Nat)(x:Dz):List Dz:=(List.range sg).map (aD4 rs x)
def bfW(rs:List Rw)(sg n:Nat):List Dz:=bfQ (afW rs sg) (aQ rs []) n
def adZ(rs:List Rw)(zs:List (List Nat))(z:List Nat):List (List Nat):=if aQ rs z∈zs.map (aQ rs) then zs else zs++[z]
def eE(sg:Nat)(z:List Nat):List (List Nat):=(List.range sg).map fun k=>z++[97+k]
def zsW(rs:List Rw)(sg:Nat):Nat->List (List Nat)
 | 0=>[[]]
 | n+1=>match (zsW rs sg n)[n]? with
  | some z=>(eE sg z).foldl (adZ rs) (zsW rs sg n)
  | none=>zsW rs sg n
def rW(rs:List Rw)(zs:List (List Nat))(z:List Nat):(adZ rs zs z).map (aQ rs)=adQ (zs.map (aQ rs)) (aQ rs z):=by
 unfold adZ adQ
 split
 · rfl
 · rw [BJ]; rfl
def tH(rs:List Rw)(l:List (List Nat)):∀ zs:List (List Nat),(l.foldl (adZ rs) zs).map (aQ rs)=adA (zs.map (aQ rs)) (l.map (aQ rs)):=by
 induction l with
 | nil=>intro zs;rfl
 | cons z t ih=>intro zs;rw[GS,ih,rW];rfl
def adZ_mem{rs:List Rw}{zs:List (List Nat)}{z x:List Nat}(h:x∈adZ rs zs z):x∈zs\/x=z:=by
 unfold adZ at h
 split at h
 .exact .inl h
 .rcases BK.mp h with h|h
  · exact .inl h
  · exact .inr (AQ.mp h)
def adZs_mem{rs:List Rw}{x:List Nat}(l:List (List Nat)):∀ {zs:List (List Nat)},x∈l.foldl (adZ rs) zs->x∈zs\/x∈l:=by
 induction l with
 | nil=>intro zs h;exact .inl h
 | cons z t ih=>
  intro zs h
  rcases ih (zs:=adZ rs zs z) h with h|h
  .rcases adZ_mem h with h|h
   · exact .inl h
   · exact .inr (by rw [h]; exact AS)
  .exact .inr (AJ _ h)
def aQK(rs:List Rw)(zs:List (List Nat))(z:List Nat):zs <+: adZ rs zs z:=by
 unfold adZ
 split
 · exact D3 _
 · exact List.prefix_append ..
def aM2(rs:List Rw)(l:List (List Nat)):∀ zs:List (List Nat),zs <+: l.foldl (adZ rs) zs:=by
 induction l with
 | nil=>exact fun zs=>D3 _
 | cons z t ih=>exact fun zs=>(aQK rs zs z).trans (ih _)
def aER{rs:List Rw}{sg:Nat}{z:List Nat}(M:Mach rs sg)(S:bA sg z):(eE sg z).map (aQ rs)=afW rs sg (aQ rs z):=by
 unfold eE afW
 rw[A6]
 exact BI fun k a=>(aAI M S (AZ.mp a)).symm
structure ZsOk(rs:List Rw)(sg n:Nat)(zs:List (List Nat)):Prop where
 map:zs.map (aQ rs)=bfW rs sg n
 ok:∀ z∈zs,bA sg z/\z.length<=n
def aQL{sg n:Nat}{z x:List Nat}(S:bA sg z)(c:z.length<=n)(b:n < 900)(h:x∈eE sg z):bA sg x/\x.length<=n+1:=by
 obtain ⟨k,a,rfl⟩:=AN.mp h
 exact ⟨tD S (AZ.mp a) (by omega),by simp;omega⟩
def kO{rs:List Rw}{sg:Nat}(M:Mach rs sg):∀ n,n<=900->ZsOk rs sg n (zsW rs sg n):=by
 intro n
 induction n with
 | zero=>exact fun _=>⟨rfl,fun z a=>by rw[AQ.mp a];exact ⟨⟨by simp,fun c d=>by simp at d⟩,by simp⟩⟩
 | succ n ih=>
  intro f
  obtain ⟨h1,h2⟩:=ih (by omega)
  unfold bfW at h1
  have e:(bfQ (afW rs sg) (aQ rs []) n)[n]? = ((zsW rs sg n)[n]?).map (aQ rs):=by rw[<-h1,AC]
  cases q:(zsW rs sg n)[n]? with
  | none=>
   rw[q] at e
   refine ⟨?_,fun z a=>?_⟩
   .unfold bfW
    rw[zsW,bfQ,q,e];exact h1
   .rw[zsW,q] at a
    have:=h2 z a
    exact ⟨this.1,by omega⟩
  | some z=>
   rw[q] at e
   have a:=h2 z (AM q)
   refine ⟨?_,fun x b=>?_⟩
   .unfold bfW
    rw[zsW,bfQ,q,e]
    simp only[DS]
    rw[tH,h1,aER M a.1]
   .rw[zsW,q] at b
    rcases adZs_mem _ b with b|b
    .have:=h2 x b
     exact ⟨this.1,by omega⟩
    .exact aQL a.1 a.2 (by omega) b
structure EndW(rs:List Rw)(sg most N:Nat):Prop where
 on:∀ m,m < N->m < (bfW rs sg m).length/\(bfW rs sg m).length<=most
 off:(bfW rs sg N).length<=N\/most < (bfW rs sg N).length
def aM3{P:Nat->Prop}:∀ K:Nat,P K->∃ n,n<=K/\P n/\∀ m,m < n->¬ P m:=by
 intro K
 induction K using Nat.strongRecOn with
 | _ K ih=>
  intro h
  by_cases q:∃ m,m < K/\P m
  .obtain ⟨m,h1,h2⟩:=q
   obtain ⟨n,a,b,c⟩:=ih m h1 h2
   exact ⟨n,by omega,b,c⟩
  .exact ⟨K,AU _,h,fun m e d=>q ⟨m,e,d⟩⟩
def aGO(rs:List Rw)(sg most:Nat):∃ N,N<=most/\EndW rs sg most N:=by
 obtain ⟨n,h1,h2,a⟩:=aM3 (P:=fun n=>(bfW rs sg n).length<=n\/most < (bfW rs sg n).length) most (by omega)
 exact ⟨n,h1,fun m b=>by have:=a m b;omega,h2⟩
def EndW.full{rs:List Rw}{sg most N:Nat}(E:EndW rs sg most N)(h:(bfW rs sg N).length<=most):(bfW rs sg N).length=N:=by
 rcases E.off with q|q
 .cases N with
  | zero=>have:(bfW rs sg 0).length=1:=rfl;omega
  | succ n=>
   have h1:=(E.on n (by omega)).1
   have h2:(bfW rs sg n).length<=(bfW rs sg (n+1)).length:=(jQ _ _ n).length_le
   omega
 .omega
def EndW.up{rs:List Rw}{sg most a N:Nat}(E:EndW rs sg most N)(h:(bfW rs sg N).length<=most)(c:most<=a):EndW rs sg a N:=
 ⟨fun m b=>⟨(E.on m b).1,by have:=(E.on m b).2;omega⟩,.inl (by rw[E.full h];omega)⟩
def aWA(rs:List Rw)(sg:Nat):Sq where
 after:=afW rs sg
 x0:=aQ rs []
 stop fs _:=decide (200 < fs.length)
 k1:=4
 k2:=1
 G:=jA 2 eW [.d (.list ((List.range sg).map (iF rs)))]
 D:=jA 2 gN []
def qJ{rs:List Rw}{sg n:Nat}(M:Mach rs sg)(a:n<=900){x:Dz}(h:x∈bfW rs sg n):∃ z,bA sg z/\x=aQ rs z:=by
 obtain ⟨h1,h2⟩:=kO M n a
 rw[<-h1] at h
 obtain ⟨z,b,rfl⟩:=AN.mp h
 exact ⟨z,(h2 z b).1,rfl⟩
def qK{rs:List Rw}{sg:Nat}{z:List Nat}(M:Mach rs sg)(S:bA sg z):gQ (aQ rs z)=true:=by
 obtain ⟨b,a⟩:=aP8 M S
 exact aP9 b a
def aGP{rs:List Rw}{sg most N:Nat}(M:Mach rs sg)(E:EndW rs sg most N)(c:1<=most):(bfW rs sg N).length<=most+3:=by
 cases N with
 | zero=>show 1<=most+3;omega
 | succ n=>
  obtain ⟨h1,h2⟩:=E.on n (by omega)
  have a:(bfQ (afW rs sg) (aQ rs []) n)[n]? = some (bfQ (afW rs sg) (aQ rs []) n)[n]:=AD h1
  have b:=aAE (afW rs sg (bfQ (afW rs sg) (aQ rs []) n)[n]) (bfQ (afW rs sg) (aQ rs []) n)
  rw[<-m9 a] at b
  have d:(afW rs sg (bfQ (afW rs sg) (aQ rs []) n)[n]).length=sg:=by unfold afW;simp
  have:=M.sg3
  unfold bfW at h2 ⊢
  omega
def aQM{rs:List Rw}{sg N:Nat}(M:Mach rs sg)(E:EndW rs sg 200 N)(j:N<=200):(aWA rs sg).ok N where
 on m h:=⟨(E.on m h).1,BA (by have:=(E.on m h).2;unfold bfW at this;show ¬ 200 < (bfQ (afW rs sg) (aQ rs []) m).length;omega)⟩
 off:=E.off.imp id fun h=>AX h
 key:=.inl fun x a=>by
  obtain ⟨z,S,rfl⟩:=qJ M (by omega) (show x∈bfW rs sg N from a)
  exact qK M S
 len:=by have:=aGP M E (by omega);show (bfW rs sg N).length<=_;omega
 hk1:=by show 4<=12;decide
 hk2:=by show 1<=12;decide
 hG m x hm a:=by
  obtain ⟨z,S,rfl⟩:=qJ M (show N<=900 by omega) (AM a)
  have f:=cY (fs:=stN 0) (fe:=eA (aZ 2 jL (aB (vV 1) (aB (vV 0) aM)))) (ρ0:=[none,some (.d (aQ rs z))]) (d:=iF rs) (g:=aD4 rs (aQ rs z)) (xs:=List.range sg) fun k b=>by
   refine ⟨_,rfl,?_⟩
   have b:=AZ.mp b
   have:=aDY M S (c:=97+k) (by unfold cF;exact AX (by omega))
   rw[show 97+k - 97=k by omega,<-aAI M S b] at this
   simp[this]
  have hi:=iV (xs:=(List.range sg).map (iF rs)) (by have:=M.sg3;simp;omega)
  have e:(afW rs sg (aQ rs z)).length=sg:=by unfold afW;simp
  have i:=M.sg3
  refine ⟨⟨.list (afW rs sg (aQ rs z)),?_,iV (by omega)⟩,by show (afW rs sg (aQ rs z)).length<=_;omega⟩
  show jA 2 eW [.d (.list ((List.range sg).map (iF rs)))] [aQ rs z]=_
  unfold jA eW
  simp[hi,eJ,f,dOf]
  rfl
 hD m hm e:=by
  show jA 2 gN [] [.list (bfW rs sg m),.int (m:Int)]=.ok (.bool (decide (200 < (bfW rs sg m).length)))
  unfold jA gN
  simp[jD,dOf]
  omega
def aES(rs:List Rw)(sg N:Nat):Dz:=.tuple [.tuple (c9 (afW rs sg) (bfW rs sg N) N),.tuple ((zsW rs sg N).map fun z=>.str (eD rs z))]
def aTQ{rs:List Rw}{sg N:Nat}(M:Mach rs sg)(E:EndW rs sg 200 N)(v:N<=200):jG [.d (aV rs)]=if 200 < (bfW rs sg N).length then .ex ⟨"TooMany",[]⟩ else .ok (.d (aES rs sg N)):=by
 have O:=aQM M E v
 have e:=aTD O
 obtain ⟨r,t,l,y⟩:=M.cons
 have b:kU [.d (aV rs)]=.ok (.d (.int sg)):=by rw[l,aPR,y]
 have a:=hU (n:=sg) (by have:=M.sg3;omega)
 have k:=aS9 M [some (.d (aV rs)),none,none,none,none] rfl
 rw[show eJ [none,some 0] [some (.d (aV rs)),none,none,none,none]=[none,some (.d (aV rs))] from rfl] at k
 have o:=aUV M
 have Z:=kO M N (by omega)
 have f:=cY (fs:=stN 0) (fe:=eA (aZ 2 fP (aB (vV 1) (aB (vV 0) aM)))) (ρ0:=[none,some (.d (aV rs))]) (d:=aQ rs) (g:=fun z=>.str (eD rs z)) (xs:=zsW rs sg N) fun z u=>by
  refine ⟨_,rfl,?_⟩
  have:=aTH M (Z.ok z u).1
  simp[this]
 rw[Z.map] at f
 have s:=aGP M E (by omega)
 have m:=iV (xs:=bfW rs sg N) (by omega)
 have e:iO [.d (aQ rs []),.g 4 1 (jA 2 eW [.d (.list ((List.range sg).map (iF rs)))]),.g 1 2 (jA 2 gN [])]=.ok (.d (.tuple [.list (bfW rs sg N),.list (c9 (afW rs sg) (bfW rs sg N) N)])):=e
 generalize c:c9 (afW rs sg) (bfW rs sg N) N=i at e
 have x:i.length<=16777216:=by rw[<-c];unfold c9;rw[AB,BO];omega
 have q:dIx (.tuple [.list (bfW rs sg N),.list i]) (.int 0)=.ok (.list (bfW rs sg N)):=rfl
 have p:dIx (.tuple [.list (bfW rs sg N),.list i]) (.int 1)=.ok (.list i):=rfl
 have w:(zsW rs sg N).length<=16777216:=by
  have:((zsW rs sg N).map (aQ rs)).length<=16777216:=by rw[Z.map];omega
  rwa [AB] at this
 by_cases h:200 < (bfW rs sg N).length
 .have j:(200:Int) < ((bfW rs sg N).length:Int):=by omega
  rw[AL h]
  unfold jG qD
  simp[b,a,k,o,vF,pK,sO,zU,jB,vG,e,dOf,q,p,jD,j,vC,few,eJ]
 .have j:¬ (200:Int) < ((bfW rs sg N).length:Int):=by omega
  rw[AK h]
  unfold jG qD aES
  rw[c]
  simp[b,a,k,o,vF,pK,sO,zU,jB,vG,e,dOf,q,p,jD,j,m,eJ,f]
def wyρ(rs:List Rw)(sg most:Nat)(zs:List (List Nat))(gs:List Dz)(u v w x:O9 A):Sg:=[some (.d (aV rs)),some (.d (.int (sg:Int))),some (.d (.int (most:Int))),some (.l (zs.map stD)),some (.m (fN (zs.map (aQ rs)))),some (.l gs),u,v,w,x]
def aQN{sg:Nat}(s1:1<=sg)(a:sg<=3):(sgT sg).cps.toList=(List.range sg).map (97 + ·):=by
 rw[aGF s1 a]
 rcases (by omega:sg=1\/sg=2\/sg=3) with rfl|rfl|rfl<;>rfl
def aTR{rs:List Rw}{sg most:Nat}{zs:List (List Nat)}{gs:List Dz}{z:List Nat}{v w x:O9 A}(M:Mach rs sg)(hz:zs[gs.length]? = some z)(nd:(zs.map (aQ rs)).Nodup)(T:∀ y∈zs,bA sg y)(Y:z.length < 900)(Q:zs.length<=1000) :
  ∃ v' w' x',mG (stN 7) wyF ((List.range sg).map fun k:Nat=>.str ⟨#[97+k]⟩) (wyρ rs sg most zs gs (some (.l [])) v w x)=.ok (.nx (wyρ rs sg most ((eE sg z).foldl (adZ rs) zs) gs (some (.l (((afW rs sg (aQ rs z)).map (nrQ (((eE sg z).foldl (adZ rs) zs).map (aQ rs)))).map fun j:Nat=>.int (j:Int)))) v' w' x')):=by
 have s3:=M.sg3
 have Sz:=T z (AM hz)
 obtain ⟨X,W,v',w',x',U⟩:=f6 (fs:=stN 7) (fb:=wyF) (d:=fun k:Nat=>PyData.str ⟨#[97+k]⟩) (xs:=List.range sg) (ρ:=wyρ rs sg most zs gs (some (.l [])) v w x)
  (fun i ρ=>∃ v' w' x',ρ=wyρ rs sg most (((eE sg z).take i).foldl (adZ rs) zs) gs (some (.l ((((eE sg z).take i).map fun y=>nrQ ((((eE sg z).take i).foldl (adZ rs) zs).map (aQ rs)) (aQ rs y)).map fun j:Nat=>.int (j:Int)))) v' w' x') ⟨v,w,x,rfl⟩ fun i k ρ hi N=>by
  obtain ⟨v',w',x',e⟩:=N
  have a:=(AI.mp hi).1
  rw[AW] at a
  rw[A9 a] at hi
  cases hi
  have c:(eE sg z)[i]? = some (z++[97+i]):=by unfold eE;rw[AC,A9 a];rfl
  have Sy:bA sg (z++[97+i]):=tD Sz a (by omega)
  have V:(eE sg z).take (i+1)=(eE sg z).take i++[z++[97+i]]:=by rw[CY,c];rfl
  have L:∀ x∈((eE sg z).take i).foldl (adZ rs) zs,bA sg x:=fun x b=>by
   rcases adZs_mem _ b with h|h
   .exact T x h
   .obtain ⟨k,B,rfl⟩:=AN.mp (List.mem_of_mem_take h)
    exact tD Sz (AZ.mp B) (by omega)
  have t:∀ y∈(eE sg z).take i,aQ rs y∈(((eE sg z).take i).foldl (adZ rs) zs).map (aQ rs):=fun y c=>by
   rw[tH];exact k6 _ (EB c)
  have G:((((eE sg z).take i).foldl (adZ rs) zs).map (aQ rs)).Nodup:=by rw[tH];exact rM _ nd
  have J:(((eE sg z).take i).foldl (adZ rs) zs)[gs.length]? = some z:=sY (aM2 rs _ zs) hz
  have E:(((eE sg z).take i).foldl (adZ rs) zs).length<=1003:=by
   have h1:=aAE (((eE sg z).take i).map (aQ rs)) (zs.map (aQ rs))
   rw[<-tH,AB,AB,AB,BO] at h1
   omega
  rw[V,EX,GS,List.foldl_nil]
  generalize Z:((eE sg z).take i).foldl (adZ rs) zs=F at *
  have r:((eE sg z).take i++[z++[97+i]]).map (fun y=>nrQ ((adZ rs F (z++[97+i])).map (aQ rs)) (aQ rs y))=((eE sg z).take i).map (fun y=>nrQ (F.map (aQ rs)) (aQ rs y))++[nrQ ((adZ rs F (z++[97+i])).map (aQ rs)) (aQ rs (z++[97+i]))]:=by
   rw[BJ,CS]
   congr 1
   refine BI fun y c=>?_
   rw[rW]
   exact vO (rL _ _) (t y c)
  rw[r]
  have C:=aKG M (z:=⟨(z++[97+i]).toArray⟩) (by simpa using Sy)
  simp only[FM] at C
  have o:dIx (.list (F.map stD)) (.int (gs.length:Int))=.ok (stD z):=lJ (fR (by rw[AC,J];rfl))
  have p:cI (stD z) (.str ⟨#[97+i]⟩)=.ok (.str ⟨(z++[97+i]).toArray⟩):=by
   unfold stD
   have D:z.length+1<=16777216:=by omega
   rw[aJ8 (by show z.toArray.size+1<=16777216;rw[BH];exact D),show (⟨z.toArray⟩:Str)++(⟨#[97+i]⟩:Str)=⟨(z++[97+i]).toArray⟩ by
    show (⟨z.toArray ++ #[97+i]⟩:Str)=_
    simp]
  have B:∀ x∈F.map (aQ rs),gQ x=true:=fun x b=>by
   obtain ⟨y,c,rfl⟩:=AN.mp b
   exact qK M (L y c)
  have f:=qK M Sy
  have s1:=aD1 f B
  have O:((adZ rs F (z++[97+i])).map (aQ rs)).Nodup:=by rw[rW];exact aKI G
  have m:=aAF O (y:=aQ rs (z++[97+i])) (by rw[rW];exact vM _ _)
  have P:∀ x∈(adZ rs F (z++[97+i])).map (aQ rs),gQ x=true:=fun x b=>by
   rw[rW] at b
   by_cases q:aQ rs (z++[97+i])∈F.map (aQ rs)
   .rw[kM q] at b;exact B x b
   .rw[iJ q] at b
    rcases BK.mp b with h|h
    · exact B x h
    · rw [AQ.mp h]; exact f
  have u:=aD1 f P
  have s:(fN (F.map (aQ rs))).length<=16777216:=by rw[vK,AB];omega
  have n:F.length < 16777216:=by omega
  have g:min i (eE sg z).length < 16777216:=by omega
  refine ⟨wyρ rs sg most F gs (some (.l ((((eE sg z).take i).map fun y=>nrQ (F.map (aQ rs)) (aQ rs y)).map fun j:Nat=>.int (j:Int)))) (some (.d (.str ⟨#[97+i]⟩))) w' x',_,by rw[e];simp[wyρ],.inl ?_,some (.d (.str ⟨#[97+i]⟩)),some (.d (.str ⟨(z++[97+i]).toArray⟩)),some (.d (aQ rs (z++[97+i]))),rfl⟩
  by_cases q:aQ rs (z++[97+i])∈F.map (aQ rs)
  .have I:=vL.mpr q
   have K:adZ rs F (z++[97+i])=F:=AL q
   rw[K] at u m ⊢
   simp only[wyF,wyρ,bJ,j3,lI,iR,jO,gP,oQ,sT,kH,iC,fZ,A0,A1,R.bind_ok,jD,o,p,BC,BG,BB,BD,Nat.reduceAdd,CD,C,nS,aF8,s1,I,pN,G6,CH,DU,aDJ,z7,aDK,m,AB,BO,g]
   simp
  .have I:=sX q
   have S:=aAD q
   have K:adZ rs F (z++[97+i])=F++[z++[97+i]]:=AK q
   rw[K] at u m ⊢
   rw[AB] at S
   rw[BJ,CS] at u m
   simp only[wyF,wyρ,bJ,j3,lI,iR,jO,gP,oQ,sT,kH,iC,fZ,A0,A1,R.bind_ok,jD,o,p,BC,BG,BB,BD,Nat.reduceAdd,CD,C,nS,aF8,s1,I,pN,Bool.not_false,aME,S,s,n,z7,aDK,u,m,AB,BO,g]
   simp[stD,n,u,m,g]
 have H:(eE sg z).take (List.range sg).length=eE sg z:=C6 (by unfold eE;simp)
 rw[H] at U
 refine ⟨v',w',x',?_⟩
 rw[W,U,<-aER M Sz]
 simp only[A6]
 rfl
def aQO{rs:List Rw}{sg most m:Nat}{gs:List Dz}{u v w x:O9 A}(M:Mach rs sg)(t:m < 900)(p:gs.length=m)(o:m < (bfW rs sg m).length)(r:(bfW rs sg m).length<=900) :
  ∃ y u' v' w' x',(bfW rs sg m)[m]? = some y/\wyB (wyρ rs sg most (zsW rs sg m) gs u v w x)=if most < (bfW rs sg (m+1)).length then .ok (.rt (.d .none)) else .ok (.nx (wyρ rs sg most (zsW rs sg (m+1)) (gs++[qT (afW rs sg) (bfW rs sg (m+1)) y]) u' v' w' x')):=by
 have Z:=kO M m (by omega)
 have n:=kO M (m+1) (by omega)
 have s:(zsW rs sg m).length=(bfW rs sg m).length:=by rw[<-Z.map,AB]
 have a:(zsW rs sg (m+1)).length=(bfW rs sg (m+1)).length:=by rw[<-n.map,AB]
 have c:(zsW rs sg m)[m]? = some (zsW rs sg m)[m]:=AD (by omega)
 generalize (zsW rs sg m)[m]=z at c
 have Sz:=Z.ok z (AM c)
 have f:(bfW rs sg m)[m]? = some (aQ rs z):=by rw[<-Z.map,AC,c];rfl
 have e1:zsW rs sg (m+1)=(eE sg z).foldl (adZ rs) (zsW rs sg m):=by rw[zsW,c]
 obtain ⟨v',w',x',q⟩:=aTR (most:=most) (v:=v) (w:=w) (x:=x) M (by rw[p];exact c) (by rw[Z.map];exact nV _ _ m) (fun y f=>(Z.ok y f).1) (by have:=Sz.2;omega) (by omega)
 rw[<-e1,n.map] at q
 have i:dSl (.str "abc") none (some (sg:Int))=.ok (.str (sgT sg)):=aNS (by decide)
 have hi:a9 (.str (sgT sg))=.ok ((List.range sg).map fun k:Nat=>.str ⟨#[97+k]⟩):=by
  rw[aMF (by have:=aQA M.sg1 M.sg3;omega),aQN M.sg1 M.sg3,A6];rfl
 have g:((afW rs sg (aQ rs z)).map (nrQ (bfW rs sg (m+1)))).length<=16777216:=by unfold afW;have:=M.sg3;simp;omega
 have e:gs.length < 16777216:=by omega
 refine ⟨aQ rs z,some (.l (((afW rs sg (aQ rs z)).map (nrQ (bfW rs sg (m+1)))).map fun j:Nat=>.int (j:Int))),v',w',x',f,?_⟩
 simp only[wyρ] at q
 have B:decide ((most:Int) < ((bfW rs sg (m+1)).length:Int))=decide (most < (bfW rs sg (m+1)).length):=by
  by_cases h:most < (bfW rs sg (m+1)).length
  · rw [AX h, AX (by omega)]
  · rw [BA h, BA (by omega)]
 have b:(afW rs sg (aQ rs z)).length<=16777216:=by simpa using g
 simp only[wyB,wyρ,bJ,lP,mV,fZ,R.bind_ok,BD,CM,CD,BC,BG,o9,jO,aJ3,jN,aJ4,aJ5,gP,A0,A1,i,hi,q,z7,yJ,e,nS,iR,jD,AB,a]
 by_cases h:most < (bfW rs sg (m+1)).length
 .have h':(most:Int) < ((bfW rs sg (m+1)).length:Int):=by omega
  rw[AL h]
  simp[h',a,b]
 .have h':¬ (most:Int) < ((bfW rs sg (m+1)).length:Int):=by omega
  rw[AK h]
  simp[h',a,b,qT,cV]
def aQP{rs:List Rw}{sg most N:Nat}(M:Mach rs sg)(E:EndW rs sg most N)(P:most<=800)(h1:1<=most)(O:N<=most):∀ (k m:Nat) (u v w x:O9 A),m+k=N->((bfW rs sg m).length<=most)->
  (most < (bfW rs sg N).length/\aJ (bV wyT wyB) wyE (wyρ rs sg most (zsW rs sg m) (c9 (afW rs sg) (bfW rs sg m) m) u v w x)=.ok (.rt (.d .none))) \/
  ((bfW rs sg N).length<=most/\∃ u' v' w' x',aJ (bV wyT wyB) wyE (wyρ rs sg most (zsW rs sg m) (c9 (afW rs sg) (bfW rs sg m) m) u v w x)=wyE (wyρ rs sg most (zsW rs sg N) (c9 (afW rs sg) (bfW rs sg N) N) u' v' w' x')):=by
 have I:∀ (m:Nat) (u v w x:O9 A),m<=N->m<=(bfW rs sg m).length->wyT (wyρ rs sg most (zsW rs sg m) (c9 (afW rs sg) (bfW rs sg m) m) u v w x)=.ok (decide (m < (bfW rs sg m).length)):=fun m u v w x f l=>by
  have Z:=kO M m (by omega)
  have r:(zsW rs sg m).length=(bfW rs sg m).length:=by rw[<-Z.map,AB]
  have p:(c9 (afW rs sg) (bfW rs sg m) m).length=m:=by unfold c9;rw[AB,BO];omega
  simp only[wyT,wyρ,jO,iR,gP,A0,A1,R.bind_ok,jD,AB,r,p]
  simp
 have C:∀ m,m<=N->m<=(bfW rs sg m).length:=fun m h=>by
  cases m with
  | zero=>omega
  | succ n=>have a:=(E.on n (by omega)).1;have b:(bfW rs sg n).length<=(bfW rs sg (n+1)).length:=(jQ _ _ n).length_le;omega
 intro k
 induction k with
 | zero=>
  intro m u v w x G l
  have G:m=N:=by omega
  subst G
  have Q:=E.full l
  refine .inr ⟨l,u,v,w,x,?_⟩
  rw[bJ,eQ (by rw[I m u v w x (AU _) (by omega),BA (by omega)])]
  rfl
 | succ k ih=>
  intro m u v w x G l
  have g:m < N:=by omega
  have F:=C m (by omega)
  have p:(c9 (afW rs sg) (bfW rs sg m) m).length=m:=by unfold c9;rw[AB,BO];omega
  obtain ⟨y,u',v',w',x',i,q⟩:=aQO (most:=most) (u:=u) (v:=v) (w:=w) (x:=x) M (by omega) p (E.on m g).1 (by omega)
  have H:wyT (wyρ rs sg most (zsW rs sg m) (c9 (afW rs sg) (bfW rs sg m) m) u v w x)=.ok true:=by rw[I m u v w x (by omega) F,AX (E.on m g).1]
  by_cases c:most < (bfW rs sg (m+1)).length
  .rw[AL c] at q
   have f:m+1=N:=by
    rcases Nat.lt_or_ge (m+1) N with h|h
    .have:=(E.on _ h).2;omega
    .omega
   rw[f] at c
   refine .inl ⟨c,?_⟩
   rw[bJ,kI H q];rfl
  .rw[AK c] at q
   have e:c9 (afW rs sg) (bfW rs sg m) m++[qT (afW rs sg) (bfW rs sg (m+1)) y]=c9 (afW rs sg) (bfW rs sg (m+1)) (m+1):=by
    unfold c9 bfW at *
    have s:(bfQ (afW rs sg) (aQ rs []) (m+1)).take (m+1)=(bfQ (afW rs sg) (aQ rs []) m).take m++[y]:=by
     obtain ⟨t,L⟩:=jQ (afW rs sg) (aQ rs []) m
     have J:=(AI.mp i).1
     rw[<-L,FJ (by omega),CY,i];rfl
    rw[s,BJ,CS]
    congr 1
    refine BI fun y i=>?_
    unfold qT
    congr 1
    refine BI fun z K=>?_
    obtain ⟨j,o⟩:=FG i
    have B:j < m:=by
     have:=(AI.mp o).1
     rw[BO] at this;omega
    rw[List.getElem?_take,AL B] at o
    refine (vO (jQ (afW rs sg) (aQ rs []) m) ?_).symm
    have D:(bfQ (afW rs sg) (aQ rs []) j)[j]? = some y:=uH (l6 (by omega)) ((E.on j (by omega)).1) o
    have:=k6 (fs:=bfQ (afW rs sg) (aQ rs []) j) _ K
    rw[<-m9 D] at this
    exact (l6 (by omega)).subset this
   rw[e] at q
   have:=ih (m+1) u' v' w' x' (by omega) (by omega)
   rw[bJ,hJ H q]
   rw[bJ] at this
   exact this
def jT(rs:List Rw)(sg N:Nat):Dz:=.tuple [.list ((zsW rs sg N).map stD),.tuple (c9 (afW rs sg) (bfW rs sg N) N),.tuple ((zsW rs sg N).map fun z=>.str (eD rs z))]
def aTS{rs:List Rw}{sg most N:Nat}(M:Mach rs sg)(E:EndW rs sg most N)(p:most<=800)(h1:1<=most)(A:N<=most):dF [.d (aV rs),.d (.int (sg:Int)),.d (.int (most:Int))]=if most < (bfW rs sg N).length then .ok (.d .none) else .ok (.d (jT rs sg N)):=by
 have key:=aQP M E p h1 A N 0 none none none none (by omega) (by show 1<=most;exact h1)
 have n:=aKG M (z:="") ⟨by show 0<=1000;omega,fun c j=>nomatch j⟩
 have n:eZ [.d (aV rs),.d (.str "")]=.ok (.d (aQ rs [])):=n
 have C:=qK M (z:=[]) ⟨by simp,fun c j=>by simp at j⟩
 have B:cK (aQ rs []) []=true:=by unfold cK;rw[C];rfl
 have y:Fl.i9 [] [(aQ rs [],.int 0)]=.ok [(aQ rs [],.int 0)]:=by simp[Fl.i9,B,putM,cQ,eO]
 have run:∀ r,aJ (bV wyT wyB) wyE (wyρ rs sg most (zsW rs sg 0) (c9 (afW rs sg) (bfW rs sg 0) 0) none none none none)=r->dF [.d (aV rs),.d (.int (sg:Int)),.d (.int (most:Int))]=match r with | .bad=>.bad | .ex e=>.ex e | .ok (.rt (.l _))=>.bad | .ok (.rt a)=>.ok a | .ok (.nx _)=>.ok (.d .none) | .ok _=>.bad:=fun r h=>by
  have h:aJ (bV wyT wyB) wyE [some (.d (aV rs)),some (.d (.int (sg:Int))),some (.d (.int (most:Int))),some (.l [.str ""]),some (.m [(aQ rs [],.int 0)]),some (.l []),none,none,none,none]=r:=h
  unfold dF
  rw[qR]
  simp only[jC,bJ,lP,mV,iC,fZ,jN,aMN,aMO,aP2,aHO,kH,oQ,lI,R.bind_ok,BB,BD,Nat.reduceAdd,Nat.reduceSub,AY,BS,BZ,B7,List.replicate,A0,A1,CD,BC,BG,n,aDI,y,Nat.reduceLeDiff,CM]
  rw[bJ] at h
  rw[h]
  cases r with
  | bad=>rfl
  | ex e=>rfl
  | ok w=>
   cases w with
   | rt a=>cases a<;>rfl
   | _=>rfl
 rcases key with ⟨f,q⟩|⟨s,u,v,w,x,q⟩
 .rw[AL f,run _ q]
 .have Z:=kO M N (by omega)
  have D:(zsW rs sg N).length=(bfW rs sg N).length:=by rw[<-Z.map,AB]
  rw[AK (by omega)]
  have k:=cY (fs:=stN 0) (fe:=eA (aZ 2 eS (aB (vV 1) (aB (vV 0) aM)))) (ρ0:=[none,some (.d (aV rs))]) (d:=stD) (g:=fun z=>.str (eD rs z)) (xs:=zsW rs sg N) fun z t=>by
   refine ⟨_,rfl,?_⟩
   have:=aDR M (z:=⟨z.toArray⟩) (by simpa using (Z.ok z t).1)
   simp only[FM] at this
   simp[stD,this]
  have i:=iV (xs:=(zsW rs sg N).map stD) (by simp;omega)
  have o:(c9 (afW rs sg) (bfW rs sg N) N).length<=16777216:=by unfold c9;rw[AB,BO];omega
  have b:(zsW rs sg N).length<=16777216:=by omega
  have:wyE (wyρ rs sg most (zsW rs sg N) (c9 (afW rs sg) (bfW rs sg N) N) u v w x)=.ok (.rt (.d (jT rs sg N))):=by
   simp[wyE,wyρ,i,eJ,k,yJ,b,jT]
  rw[run _ (q.trans this)]
def aQQ{rs:List Rw}{sg:Nat}(M:Mach rs sg)(h1:rs.length=1)(xs:List Dz)(nd:xs.Nodup)(h:∀ x∈xs,∃ z,bA sg z/\x=aQ rs z):xs.length<=16:=by
 classical
 have k:∀ z,bA sg z->tnB 1 (eF rs z (0,0)):=fun z S=>h1▸aAJ M S (qS M z)
 have g:∀ z,bA sg z->tnB 1 (eU rs z ((0:Nat):Int)):=fun z S=>h1▸aAJ M S (yM (by omega))
 let code:List Nat->Nat:=fun z=>tc 1 (eF rs z (0,0)) * 4+tc 1 (eU rs z ((0:Nat):Int))
 let f:Dz->Nat:=fun x=>if h:∃ z,bA sg z/\x=aQ rs z then code h.choose else 0
 have j:∀ x∈xs,∃ z,bA sg z/\x=aQ rs z/\f x=code z:=fun x d=>⟨(h x d).choose,(h x d).choose_spec.1,(h x d).choose_spec.2,dif_pos (h x d)⟩
 refine pW f 16 xs nd (fun x d=>?_) (fun a l b o e=>?_)
 .obtain ⟨z,S,_,e⟩:=j x d
  rw[e]
  have:=yO (k z S)
  have:=yO (g z S)
  show tc 1 (eF rs z (0,0)) * 4+tc 1 (eU rs z ((0:Nat):Int)) < 16
  omega
 .obtain ⟨z,S,e1,e2⟩:=j a l
  obtain ⟨c,i,n,m⟩:=j b o
  rw[e1,n]
  rw[e2,m] at e
  have e:tc 1 (eF rs z (0,0)) * 4+tc 1 (eU rs z ((0:Nat):Int))=tc 1 (eF rs c (0,0)) * 4+tc 1 (eU rs c ((0:Nat):Int)):=e
  have p:=yO (g z S)
  have r:=yO (g c i)
  have e0:tc 1 (eF rs z (0,0))=tc 1 (eF rs c (0,0)):=by omega
  have e1:tc 1 (eU rs z ((0:Nat):Int))=tc 1 (eU rs c ((0:Nat):Int)):=by omega
  refine aD6 (aD5 (k z S) (k c i) e0) fun q s=>?_
  have:q=0:=by omega
  subst this
  exact aD5 (g z S) (g c i) e1
def smT:Sg->R Bool:=(e1 asB (e2 dIs (rV 5) (eC .none)))
def smB:Sg->R Fw:=(aJ (bU 3 (vD (e2 dSub (rV 3) (eC (.int 1)))))
 (aJ (bU 4 (aZ 4 fE (aB (vV 0) (aB (vD (e2 cI (rV 1) (eC (.int 2)))) (aB (vV 3) (aB (vV 2) aM))))))
 (bU 5 (aZ 3 dF (aB (vV 4) (aB (vV 2) (aB (vD (eC (.int 40))) aM)))))))
def aTT:pR=(aJ (bU 2 (vD (e2 cI (eC (.int 1)) (e2 dMod (eA (aZ 2 bS (aB (vV 0) (aB (vV 1) aM)))) (eC (.int 2))))))
 (aJ (bU 3 (vD (e2 cI (eC (.int 1)) (e2 dMod (eA (aZ 2 bS (aB (vV 0) (aB (vD (e2 cI (rV 1) (eC (.int 1)))) aM)))) (e2 dIx (eL (fG (aB (eC (.int 5)) (aB (eC (.int 3)) aM)))) (e2 dSub (rV 2) (eC (.int 1))))))))
 (aJ (bU 4 (aZ 4 fE (aB (vV 0) (aB (vD (e2 cI (rV 1) (eC (.int 2)))) (aB (vV 3) (aB (vV 2) aM))))))
 (aJ (bU 5 (aZ 3 dF (aB (vV 4) (aB (vV 2) (aB (vD (eC (.int 40))) aM)))))
 (aJ (bV smT smB)
 (bM (vD (dP (aB (eV 4) (aB (eV 5) aM)))))))))):=id rfl
structure Sml(rs:List Rw)(sg N:Nat):Prop where
 m:Mach rs sg
 e:EndW rs sg 40 N
 n:N<=40
 few:(bfW rs sg N).length<=40
 s2:sg<=2
 r5:rs.length<=5
def ways40{rs:List Rw}{sg:Nat}(M:Mach rs sg)(c:sg<=2)(e:rs.length<=5):(dF [.d (aV rs),.d (.int (sg:Int)),.d (.int 40)]=.ok (.d .none)/\rs.length≠1)\/∃ N,dF [.d (aV rs),.d (.int (sg:Int)),.d (.int 40)]=.ok (.d (jT rs sg N))/\Sml rs sg N:=by
 obtain ⟨N,a,E⟩:=aGO rs sg 40
 have h:=aTS M E (by decide) (by decide) a
 have h:dF [.d (aV rs),.d (.int (sg:Int)),.d (.int 40)]=_:=h
 by_cases q:40 < (bfW rs sg N).length
 .rw[AL q] at h
  refine .inl ⟨h,fun h1=>?_⟩
  have:(bfW rs sg N).length<=16:=aQQ M h1 (bfW rs sg N) (nV _ _ _) fun x b=>qJ M (n:=N) (by omega) b
  omega
 .rw[AK q] at h
  exact .inr ⟨N,h,M,E,a,by omega,c,e⟩
def aQR{ns:List Int}{at' sg:Nat}(s1:1<=sg)(i:sg<=2):∀ (n:Nat) (rs:List Rw) (y:Dz),1<=n->n<=5->Mach rs sg->rs.length=n->dF [.d (aV rs),.d (.int (sg:Int)),.d (.int 40)]=.ok (.d y)->
  ∃ rs' N,aJ (bV smT smB) (bM (vD (dP (aB (eV 4) (aB (eV 5) aM))))) [some (.d (fA ns)),some (.d (.int (at':Int))),some (.d (.int (sg:Int))),some (.d (.int (n:Int))),some (.d (aV rs)),some (.d y)]=.ok (.rt (.d (.tuple [aV rs',jT rs' sg N])))/\Sml rs' sg N:=by
 intro n
 induction n with
 | zero=>intro rs y h;omega
 | succ n ih=>
  intro rs y h1 q M p c
  rcases ways40 M i (by omega) with ⟨e,l⟩|⟨N,e,S⟩
  .rw[e] at c
   cases c
   have g:smT [some (.d (fA ns)),some (.d (.int (at':Int))),some (.d (.int (sg:Int))),some (.d (.int ((n+1:Nat):Int))),some (.d (aV rs)),some (.d .none)]=.ok true:=by
    simp[smT,j8]
   obtain ⟨a,e2,M2,o⟩:=aKB (ns:=ns) (at':=(at':Int)+2) (n:=n) (sg:=sg) (by omega) (by omega) (by omega) s1 (by omega)
   obtain ⟨f,b⟩:∃ f,dF [.d (aV a),.d (.int (sg:Int)),.d (.int 40)]=.ok (.d f):=by
    rcases ways40 M2 i (by omega) with ⟨e,_⟩|⟨N,e,_⟩
    · exact ⟨_, e⟩
    · exact ⟨_, e⟩
   have m:smB [some (.d (fA ns)),some (.d (.int (at':Int))),some (.d (.int (sg:Int))),some (.d (.int ((n+1:Nat):Int))),some (.d (aV rs)),some (.d .none)]=.ok (.nx [some (.d (fA ns)),some (.d (.int (at':Int))),some (.d (.int (sg:Int))),some (.d (.int (n:Int))),some (.d (aV a)),some (.d f)]):=by
    have k:((n+1:Nat):Int) - 1=(n:Int):=by omega
    simp only[smB,bJ,j3,lI,iR,gP,jN,A1,A0,R.bind_ok,aSV,k,BG,BC,kH,iC,fZ,oQ,rE,BB,BD,Nat.reduceAdd,CD,e2,b]
   obtain ⟨rs',N,j,S⟩:=ih a f (by omega) (by omega) M2 o b
   refine ⟨rs',N,?_,S⟩
   rw[bJ] at j ⊢
   rw[hJ g m]
   exact j
  .rw[e] at c
   cases c
   refine ⟨rs,N,?_,S⟩
   have g:smT [some (.d (fA ns)),some (.d (.int (at':Int))),some (.d (.int (sg:Int))),some (.d (.int ((n+1:Nat):Int))),some (.d (aV rs)),some (.d (jT rs sg N))]=.ok false:=by
    simp[smT,j8,jT]
   rw[bJ,eQ g]
   simp
def aQS(ns:List Int)(at':Nat):∃ rs sg N,jE [.d (fA ns),.d (.int (at':Int))]=.ok (.d (.tuple [aV rs,jT rs sg N]))/\Sml rs sg N:=by
 obtain ⟨f,i⟩:=rH ns (at':Int)
 obtain ⟨a,g⟩:=rH ns ((at':Int)+1)
 have k2:dMod (.int f) (.int 2)=.ok (.int (f % 2)):=dQ (by decide)
 obtain ⟨sg,q,s1,k⟩:∃ sg:Nat,1+f % 2=(sg:Int)/\1<=sg/\sg<=2:=⟨(1+f % 2).toNat,by omega,by omega,by omega⟩
 obtain ⟨m,s,w,u⟩:∃ m:Int,dIx (.list [.int 5,.int 3]) (.int ((sg:Int) - 1))=.ok (.int m)/\1<=m/\m<=5:=by
  have:sg=1\/sg=2:=by omega
  rcases this with rfl|rfl
  · exact ⟨5, rfl, by decide, by decide⟩
  · exact ⟨3, rfl, by decide, by decide⟩
 have k3:dMod (.int a) (.int m)=.ok (.int (a % m)):=dQ (by omega)
 have x:=C4 a (show m≠0 by omega)
 have v:=CK a (show 0 < m by omega)
 obtain ⟨n,l,o,p⟩:∃ n:Nat,1+a % m=(n:Int)/\1<=n/\n<=5:=⟨(1+a % m).toNat,by omega,by omega,by omega⟩
 obtain ⟨b,e2,M2,r⟩:=aKB (ns:=ns) (at':=(at':Int)+2) (n:=n) (sg:=sg) (by omega) (by omega) (by omega) s1 (by omega)
 obtain ⟨h,c⟩:∃ h,dF [.d (aV b),.d (.int (sg:Int)),.d (.int 40)]=.ok (.d h):=by
  rcases ways40 M2 k (by omega) with ⟨e,_⟩|⟨N,e,_⟩
  · exact ⟨_, e⟩
  · exact ⟨_, e⟩
 obtain ⟨j,N,t,S⟩:=aQR (ns:=ns) (at':=at') s1 k n b h o p M2 r c
 refine ⟨j,sg,N,?_,S⟩
 unfold jE
 rw[aTT]
 generalize aJ (bV smT smB) (bM (vD (dP (aB (eV 4) (aB (eV 5) aM)))))=W at *
 simp[i,g,k2,q,s,k3,l,e2,c,t]
section
variable{rs:List Rw}{sg N:Nat}
structure Wy(rs:List Rw)(sg N:Nat):Prop where
 m:Mach rs sg
 len:(bfW rs sg N).length=N
 n:N<=200
def c7(rs:List Rw)(sg N:Nat):List (List Nat):=(bfW rs sg N).map fun x=>(afW rs sg x).map (nrQ (bfW rs sg N))
def cW(rs:List Rw)(sg N:Nat):List Str:=(zsW rs sg N).map (eD rs)
def Sml.wy(S:Sml rs sg N):Wy rs sg N:=⟨S.m,S.e.full S.few,by have:=S.n;omega⟩
def aKW(W:Wy rs sg N):aES rs sg N=rdW (c7 rs sg N) (cW rs sg N):=by
 unfold aES rdW rdD c9 c7 cW qT
 rw[C6 (by rw[W.len];exact AU _),A6,A6]
 rfl
def aTU(W:Wy rs sg N)(E:EndW rs sg 200 N):jG [.d (aV rs)]=.ok (.d (rdW (c7 rs sg N) (cW rs sg N))):=by
 have h:=aTQ W.m E W.n
 rw[AK (by have:=W.len;have:=W.n;omega),aKW W] at h
 exact h
def Wy.pos(W:Wy rs sg N):0 < N:=by
 have:=W.len
 cases N with
 | zero=>simp[bfW,bfQ] at this
 | succ n=>omega
def Wy.zlen(W:Wy rs sg N):(zsW rs sg N).length=N:=by
 have h:=(kO W.m N (by have:=W.n;omega)).map
 have:=CL List.length h
 rw[AB,W.len] at this
 exact this
def Wy.at_(W:Wy rs sg N){i:Nat}(hi:i < N):∃ z,(zsW rs sg N)[i]? = some z/\(bfW rs sg N)[i]? = some (aQ rs z)/\bA sg z/\z.length<=N:=by
 have ok:=kO W.m N (by have:=W.n;omega)
 have b:=W.zlen
 have a:(zsW rs sg N)[i]? = some (zsW rs sg N)[i]:=AD (by omega)
 refine ⟨_,a,?_,ok.ok _ (CQ _)⟩
 rw[<-ok.map,AC,a];rfl
def Wy.rows_len(W:Wy rs sg N):(c7 rs sg N).length=N:=by unfold c7;rw[AB,W.len]
def Wy.on(W:Wy rs sg N){i c:Nat}{z:List Nat}(hi:(bfW rs sg N)[i]? = some (aQ rs z))(S:bA sg z)(j:z.length < 1000)(g:cF sg c=true) :
  stN1 (c7 rs sg N) i c < N/\(bfW rs sg N)[stN1 (c7 rs sg N) i c]? = some (aQ rs (z++[c])):=by
 obtain ⟨h,d⟩:=yQ g
 have a:=aAI W.m S (k:=c - 97) d
 rw[show 97+(c - 97)=c by omega] at a
 have f:aQ rs (z++[c])∈bfW rs sg N:=uK (by have:=W.len;unfold bfW at this;omega) (AM hi) (by
  unfold afW
  exact AN.mpr ⟨c - 97,AZ.mpr d,a⟩)
 have e:stN1 (c7 rs sg N) i c=nrQ (bfW rs sg N) (aQ rs (z++[c])):=by
  unfold stN1 c7
  rw[AG (l:=List.map _ _),AC,hi]
  show ((afW rs sg (aQ rs z)).map (nrQ (bfW rs sg N))).getD (c - 97) 0=_
  unfold afW
  rw[AG,AC,AC,A9 d]
  show nrQ (bfW rs sg N) (aD4 rs (aQ rs z) (c - 97))=_
  rw[a]
 have b:=nU f
 rw[e]
 exact ⟨by have:=(AI.mp b).1;have:=W.len;omega,b⟩
def aE6(M:Mach rs sg){z b:List Nat}(S:bA sg z)(c:bA sg b)(h:aQ rs z=aQ rs b):eD rs z=eD rs b:=by
 have a:=yN M S
 rw[h,yN M c] at a
 injection a with a
 exact a.symm
def Wy.word(W:Wy rs sg N){i:Nat}{z:List Nat}(hi:(bfW rs sg N)[i]? = some (aQ rs z))(S:bA sg z):(cW rs sg N).getD i ""=eD rs z:=by
 have a:=(AI.mp hi).1
 rw[W.len] at a
 obtain ⟨c,h1,h2,b,_⟩:=W.at_ a
 rw[hi] at h2
 unfold cW
 rw[AG,AC,h1]
 exact aE6 W.m b S (BL h2).symm
theorem Wy.run(W:Wy rs sg N):∀ (y:List Nat) {i:Nat} {z:List Nat},(bfW rs sg N)[i]? = some (aQ rs z)->bA sg (z++y)->(bfW rs sg N)[runN (c7 rs sg N) i y]? = some (aQ rs (z++y))
 | [],i,z,hi,_=>by rw[DP];exact hi
 | c::t,i,z,hi,S=>by
  have hc:cF sg c=true:=S.2 c (by simp)
  have b:z.length < 1000:=by have:=S.1;simp at this;omega
  have Sz:bA sg z:=⟨by omega,fun d a=>S.2 d (CG _ a)⟩
  have h:=(W.on hi Sz b hc).2
  have e:z++c::t=(z++[c])++t:=by simp
  rw[e] at S ⊢
  exact W.run t h S
def Wy.says(W:Wy rs sg N){z:List Nat}(S:bA sg z):(cW rs sg N).getD (runN (c7 rs sg N) 0 z) ""=eD rs z:=by
 have a:(bfW rs sg N)[0]? = some (aQ rs []):=nA _ _ _
 have:=W.run z a S
 exact W.word this S
def Wy.rdw(W:Wy rs sg N):Rdw (c7 rs sg N) (cW rs sg N) sg:=by
 have s1:=W.m.sg1
 have i:=W.m.sg3
 have n:=W.n
 have k:=W.pos
 have a:=W.rows_len
 refine ⟨⟨by omega,by omega,by omega,by omega,fun r c=>?_⟩,?_,fun w b=>?_⟩
 .unfold c7 at c
  obtain ⟨x,f,rfl⟩:=AN.mp c
  refine ⟨by rw[AB];unfold afW;rw[AB,AW],fun j g=>?_⟩
  obtain ⟨y,d,rfl⟩:=AN.mp g
  have e:y∈bfW rs sg N:=uK (by have:=W.len;unfold bfW at this;omega) f d
  have:=(AI.mp (nU e)).1
  have:=W.len
  omega
 .unfold cW;rw[AB,W.zlen,a]
 .unfold cW at b
  obtain ⟨z,h,rfl⟩:=AN.mp b
  exact wordW_is W.m ((kO W.m N (by omega)).ok z h).1
def Wy.reach(W:Wy rs sg N){i:Nat}(hi:i < N):∃ z,(zsW rs sg N)[i]? = some z/\bA sg z/\runN (c7 rs sg N) 0 z=i:=by
 obtain ⟨z,h1,h2,S,_⟩:=W.at_ hi
 refine ⟨z,h1,S,?_⟩
 have a:(bfW rs sg N)[0]? = some (aQ rs []):=nA _ _ _
 have:=W.run z a S
 exact aB4 (nV _ _ _) this h2
end
section
variable{a0 r1 r2:List (List Nat)}{ws w1 w2:List Str}{sg:Nat}{L:List Nat}{N:Nat}
def aNZ(q:Nat):afR a0 (.int (q:Int))=(a0.getD q []).map fun j:Nat=>.int (j:Int):=by
 show (a0.getD ((q:Int)).toNat []).map _=_
 rw[show ((q:Int)).toNat=q by omega]
def uS(T:Lst a0 ws L N):(bW a0 L N).length=N:=by unfold bW;rw[AB,T.len]
def aKX(M:Rdr a0 sg)(K:Lk a0 ws sg L)(T:Lst a0 ws L N){n:Nat}(p:n<=N):bfQ (afR (bW a0 L N)) (.int 0) n=(List.range (bfQ (afL a0 L) (.int 0) n).length).map fun x:Nat=>.int (x:Int):=by
 obtain ⟨fs,a⟩:∃ fs,fs=bfQ (afL a0 L) (.int 0) N:=⟨_,rfl⟩
 have m:fs.length=N:=by rw[a];exact T.len
 have o:fs.Nodup:=by rw[a];exact nV _ _ _
 obtain ⟨ps,e1,e2,t⟩:=aGL (Rl:=fun x y=>∃ i:Nat,i < N/\x=.int (i:Int)/\fs[i]? = some y) (after1:=afR (bW a0 L N)) (after2:=afL a0 L) (x1:=.int 0) (x2:=.int 0) ⟨0,aAP T,rfl,by rw[a];exact nA _ _ _⟩
  (fun x y b=>by
   obtain ⟨i,hi,ex,d⟩:=b
   refine ⟨(afL a0 L y).map fun z=>(.int (nrQ fs z:Int),z),?_,?_,?_⟩
   .rw[ex,aNZ,A6]
    have:(bW a0 L N).getD i []=(afL a0 L y).map (nrQ fs):=by
     unfold bW
     rw[<-a,AG,AC,d];rfl
    rw[this,A6];rfl
   .rw[A6]
    conv=>lhs;rw[<-List.map_id (afL a0 L y)]
    rfl
   .intro q u
    obtain ⟨z,s,rfl⟩:=AN.mp u
    have l:z∈fs:=by
     rw[a] at d ⊢
     exact uK (by rw[T.len];exact AU _) (AM d) s
    have e:=nU l
    exact ⟨nrQ fs z,by have:=(AI.mp e).1;omega,rfl,e⟩)
  (fun x y C B k b=>by
   obtain ⟨i,hi,ex,d⟩:=k
   obtain ⟨v,A,ex',c⟩:=b
   rw[ex,ex']
   constructor
   .intro h
    injection h with h
    have:i=v:=by omega
    subst this
    rw[d] at c;exact BL c
   .intro h
    subst h
    rw[aB4 o d c]) n
 rw[e1,e2,AB]
 refine CN fun j=>?_
 rw[AC,AC]
 by_cases g:j < ps.length
 .rw[A9 g,AD g]
  obtain ⟨i,hi,w,r⟩:=t _ (CQ g)
  have f:fs[j]? = some (ps[j]).2:=by
   rw[a]
   refine sY (l6 p) ?_
   rw[e2,AC,AD g];rfl
  show some (ps[j]).1=some _
  rw[w,aB4 o r f]
 .rw[BE (by omega),BE (by rw[AW];omega)];rfl
end
section
variable{a0:List (List Nat)}{ws:List Str}{rs:List Rw}{sg N:Nat}{L:List Nat}
def cZ(w:Str):Str:=if w="ever" then "out" else w
def stopW_is{w:Str}(h:aAM w):cZ w="by"\/cZ w="out":=by
 rcases h with rfl|rfl|rfl
 · exact .inl (by decide)
 · exact .inr (by decide)
 · exact .inr (by decide)
def fO(a0:List (List Nat))(ws:List Str)(q:Nat):Rw:=⟨if q=0 then .n 0 else .w "out",(a0.getD q []).map fun j:Nat=>((j:Int),1),.w (ws.getD q "")⟩
def bZ(a0:List (List Nat))(ws:List Str):List Rw:=(List.range a0.length).map (fO a0 ws)
def aET{q:Nat}(a:q < a0.length):(bZ a0 ws)[q]? = some (fO a0 ws q):=by unfold bZ;rw[AC,A9 a];rfl
def tJ{q:Nat}(a:q < a0.length):bB (bZ a0 ws) (q:Int)=fO a0 ws q:=by
 unfold bB
 rw[show ((q:Int)).toNat=q by omega,AG,aET a];rfl
def Stp(ws:List Str):Prop:=∀ w∈ws,w="by"\/w="out"
def Stp.at_(h:Stp ws){q:Nat}(a:q < ws.length):ws.getD q ""="by"\/ws.getD q ""="out":=by
 rw[AG,AD a]
 exact h _ (CQ a)
def nX(M:Rdw a0 ws sg)(h:Stp ws):Mach (bZ a0 ws) sg:=by
 have d:(bZ a0 ws).length=a0.length:=by unfold bZ;rw[AB,AW]
 refine ⟨by rw[d];exact M.r.n1,by rw[d];exact M.r.n2,M.r.s1,M.r.s3,fun r a=>?_⟩
 rw[d]
 unfold bZ at a
 obtain ⟨q,b,rfl⟩:=AN.mp a
 have b:=AZ.mp b
 have a:=M.r.at b
 have n1:=M.r.n1
 have g:=h.at_ (q:=q) (by rw[M.wl];exact b)
 refine ⟨⟨?_,?_,fun c i=>?_⟩,?_⟩
 .unfold fO
  by_cases e:q=0
  · rw [AL e]; exact ⟨DJ _, by omega⟩
  · rw [AK e]; exact .inr rfl
 .exact g
 .obtain ⟨j,f,rfl⟩:=AN.mp i
  have:=a.2.2 j f
  exact ⟨by omega,by omega,.inl rfl⟩
 .show ((a0.getD q []).map _).length=sg
  rw[AB,a.2.1]
def aGQ(M:Rdr a0 sg){q k:Nat}(a:q < a0.length)(b:k < sg):ck k (fO a0 ws q)=((stN1 a0 q (97+k):Int),1):=by
 have h:=(iK M a (c:=97+k) (by unfold cF;exact AX (by omega))).1
 rw[show 97+k - 97=k by omega] at h
 unfold ck fO
 rw[AG,AC,h];rfl
def xI(M:Rdw a0 ws sg)(h:Stp ws)(z:List Nat):bA sg z->eF (bZ a0 ws) z (0,0)=.n ((runN a0 0 z:Nat):Int):=by
 have Mm:=nX M h
 refine aMS (P:=fun z=>bA sg z->eF (bZ a0 ws) z (0,0)=.n ((runN a0 0 z:Nat):Int)) (fun _=>?_) (fun z c f S=>?_) z
 .have:=z8 (rs:=bZ a0 ws) (q:=0)
  rw[this]
  have d:=tJ (a0:=a0) (ws:=ws) (q:=0) M.r.n1
  have d:bB (bZ a0 ws) 0=fO a0 ws 0:=d
  rw[d];rfl
 .obtain ⟨Sz,e⟩:=aHV S
  have a:=pA M.r z (q:=0) Sz.2 M.r.n1
  obtain ⟨i,g⟩:=yQ e
  rw[aBJ Mm Sz e,f Sz]
  have b:=aGQ (ws:=ws) M.r a g
  rw[show 97+(c - 97)=c by omega] at b
  rw[w8 (by rw[tJ a,b]),tJ a,b]
  have:runN a0 0 (z++[c])=stN1 a0 (runN a0 0 z) c:=by unfold runN;rw[EX];rfl
  rw[this]
def uT(M:Rdw a0 ws sg)(h:Stp ws){z:List Nat}(S:bA sg z):eD (bZ a0 ws) z=ws.getD (runN a0 0 z) "":=by
 have Mm:=nX M h
 have a:=pA M.r z (q:=0) S.2 M.r.n1
 have:=aDV Mm S
 unfold eD
 have e:(everW:Str)="ever":=rfl
 rw[e] at this
 rw[this,xI M h z S]
 unfold wbR
 dsimp only
 have:f8 (bZ a0 ws) (eU (bZ a0 ws) z) ((runN a0 0 z:Nat):Int)=some (.inr (ws.getD (runN a0 0 z) "")):=by
  unfold f8
  rw[tJ a];rfl
 rw[pX this];rfl
def aU6{w:Str}(h:aAM w):gO [.d (.str w)]=.ok (.d (.str (cZ w))):=by
 have a:=aKH h (v:="ever") (.inr (.inr rfl))
 unfold gO mI cZ
 by_cases q:w="ever"
 .rw[AX q] at a
  rw[AL q]
  simp[a]
 .rw[BA q] at a
  rw[AK q]
  simp[a]
def aQT(M:Rdw a0 ws sg){q:Nat}(f:q < a0.length):hZ [.d (rdW a0 ws),.d (.int (q:Int))]=.ok (.d (cB (fO a0 ws q))):=by
 have p:=M.r.at f
 have s3:=M.r.s3
 have n2:=M.r.n2
 have m:dIx (rdW a0 ws) (.int 0)=.ok (.tuple (a0.map cV)):=rfl
 have c:=aAL (ws:=ws.map .str) M.r f
 have l:dIx (rdW a0 ws) (.int 1)=.ok (.tuple (ws.map .str)):=rfl
 have b:=(M.w f).2
 have h:a9 (cV (a0.getD q []))=.ok ((a0.getD q []).map fun j:Nat=>.int (j:Int)):=eX (by rw[AB];omega)
 have k:=cY (fs:=stN 0) (fe:=dP (aB (eV 0) (aB (eC (.int 1)) aM))) (ρ0:=[none]) (d:=fun j:Nat=>.int (j:Int)) (g:=fun j:Nat=>cJ ((j:Int),1)) (xs:=a0.getD q []) fun j o=>⟨[some (.d (.int (j:Int)))],rfl,by simp[cJ]⟩
 have a:cB (fO a0 ws q)=.tuple [(if q=0 then Tn.n 0 else Tn.w "out").d,.tuple ((a0.getD q []).map fun j:Nat=>cJ ((j:Int),1)),.str (ws.getD q "")]:=by
  unfold cB fO
  rw[A6];rfl
 rw[a]
 generalize ws.getD q ""=w at *
 generalize a0.getD q []=r at *
 unfold hZ mU
 by_cases i:q=0
 .subst i
  have c:dIx (.tuple (a0.map cV)) (.int 0)=.ok (cV r):=c
  have b:dIx (.tuple (ws.map .str)) (.int 0)=.ok (.str w):=b
  simp[eB,m,c,l,b,h,eJ,k,Tn.d]
 .have e:¬ (q:Int)=0:=by omega
  simp[eB,i,e,m,c,l,b,h,eJ,k,Tn.d]
def aKY(M:Rdw a0 ws sg)(e:jG [.d (aV rs)]=.ok (.d (rdW a0 ws)))(K:Lk a0 (ws.map cZ) sg L)(eL:fQ [.d (rdW a0 (ws.map cZ))]=.ok (.d (.list (L.map fun r:Nat=>.int (r:Int)))))(T:Lst a0 (ws.map cZ) L N)(A:N<=60) :
  iQ [.d (aV rs)]=.ok (.d (aV (bZ (bW a0 L N) (c8 a0 (ws.map cZ) L N)))):=by
 have n2:=M.r.n2
 have wl:=M.wl
 have l:Rdw a0 (ws.map cZ) sg:=⟨M.r,by rw[AB];exact M.wl,fun w b=>by
  obtain ⟨v,o,rfl⟩:=AN.mp b
  rcases stopW_is (M.ww v o) with h|h
  · exact .inl h
  · exact .inr (.inl h)⟩
 have u:=aU3 l K eL T
 have M2:=aTN l K T
 have a:=uS T
 have y:dIx (rdW a0 ws) (.int 0)=.ok (.tuple (a0.map cV)):=rfl
 have x:dIx (rdW a0 ws) (.int 1)=.ok (.tuple (ws.map .str)):=rfl
 have m:a9 (.tuple (ws.map PyData.str))=.ok (ws.map PyData.str):=eX (by rw[AB];omega)
 have s:=cY (fs:=stN 0) (fe:=eA (aZ 1 gO (aB (vV 0) aM))) (ρ0:=[none]) (d:=PyData.str) (g:=fun w=>PyData.str (cZ w)) (xs:=ws) fun w b=>⟨[some (.d (.str w))],rfl,by simp[aU6 (M.ww w b)]⟩
 have j:PyData.tuple [.tuple (a0.map cV),.tuple (ws.map fun w=>PyData.str (cZ w))]=rdW a0 (ws.map cZ):=by
  unfold rdW rdD
  rw[A6];rfl
 have t:dIx (rdW (bW a0 L N) (c8 a0 (ws.map cZ) L N)) (.int 0)=.ok (.tuple ((bW a0 L N).map cV)):=rfl
 have k:=hU (n:=N) (by omega)
 have c:=cY (fs:=stN 0) (fe:=eA (aZ 2 hZ (aB (vV 1) (aB (vV 0) aM)))) (ρ0:=[none,some (.d (rdW (bW a0 L N) (c8 a0 (ws.map cZ) L N)))]) (d:=fun q:Nat=>.int (q:Int)) (g:=fun q=>cB (fO (bW a0 L N) (c8 a0 (ws.map cZ) L N) q)) (xs:=List.range N) fun q z=>⟨[some (.d (.int (q:Int))),some (.d (rdW (bW a0 L N) (c8 a0 (ws.map cZ) L N)))],rfl,by
  have:=aQT M2 (q:=q) (by rw[a];exact AZ.mp z)
  simp[this]⟩
 have p:aV (bZ (bW a0 L N) (c8 a0 (ws.map cZ) L N))=.tuple ((List.range N).map fun q=>cB (fO (bW a0 L N) (c8 a0 (ws.map cZ) L N) q)):=by
  unfold aV bZ
  rw[a,A6];rfl
 rw[p]
 have f:dLen (.tuple ((bW a0 L N).map cV))=.ok (.int (N:Int)):=by rw[rF,AB,a]
 generalize rdW (bW a0 L N) (c8 a0 (ws.map cZ) L N)=X at *
 generalize ((List.range N).map fun q=>cB (fO (bW a0 L N) (c8 a0 (ws.map cZ) L N) q))=Y at *
 generalize (bW a0 L N).map cV=Z at *
 have i:¬ (60:Int) < (N:Int):=by omega
 unfold iQ sS
 simp only[jC,bJ,j3,kH,iC,fZ,oQ,AY,BS,BZ,B7,BB,BD,Nat.reduceAdd,Nat.reduceSub,List.replicate,A0,A1,R.bind_ok,CD,e,BC,BG,lI,jO,iR,aHP,sU,gP,jN,x,y,m,eJ,GN,s,yJ,z0,sT,Nat.reduceLeDiff,j,u,t,f]
 simp[i,k,eJ,c]
end
section
variable{a0:List (List Nat)}{ws:List Str}{sg:Nat}{L:List Nat}{N:Nat}
open Classical in
def aKZ(M:Rdw a0 ws sg)(K:Lk a0 ws sg L)(T:Lst a0 ws L N)(u:∀ x,x < a0.length->∃ w,Sgs sg w/\runN a0 0 w=x){i:Nat}(h:∀ x y,x < a0.length->y < a0.length->EqI a0 ws sg i x y->EqA a0 ws sg x y):nRep a0 ws sg i=N:=by
 have f:(roomsL a0 L N).Nodup:=by
  have f:=nV (afL a0 L) (.int 0) N
  rw[l7 M.r K] at f
  exact List.Pairwise.of_map (fun q:Nat=>PyData.int (q:Int)) (fun a b h e=>h (by rw[e])) f
 have d:∀ q,q∈roomsL a0 L N↔q∈(List.range a0.length).filter fun x=>decide (oG a0 ws sg i x):=fun q=>by
  rw[GQ,AZ,FT]
  constructor
  .intro s
   have n:PyData.int (q:Int)∈bfQ (afL a0 L) (.int 0) N:=by rw[l7 M.r K];exact AN.mpr ⟨q,s,rfl⟩
   obtain ⟨m,h1,h2,j⟩:=aHX M.r K N _ n
   injection h2 with h2
   have:q=m:=by omega
   subst this
   refine ⟨h1,fun b t e=>?_⟩
   have l:=h q b h1 (by omega) e
   have:=(K.at_ q h1).2.2.2 b (by rw[j];exact t)
   rw[j] at this
   exact this l
  .rintro ⟨h1,h2⟩
   have p:L.getD q 0=q:=by
    obtain ⟨_,v,k,_⟩:=K.at_ q h1
    rcases Nat.lt_or_ge (L.getD q 0) q with z|z
    · exact absurd (fun w g _ => k w g) (h2 _ z)
    · omega
   obtain ⟨w,g,e⟩:=u q h1
   have c:=aMU M.r K T w (i:=0) (x:=0) g (aAP T) M.r.n1 (yR M.r K T)
   rw[e,p] at c
   rw[<-c.2,AG,AD (by rw[mK T];exact c.1)]
   exact CQ _
 have o:=(List.perm_ext_iff_of_nodup f (List.nodup_range.filter _)).mpr d
 have:=o.length_eq
 rw[mK T,<-List.countP_eq_length_filter] at this
 unfold nRep
 exact this.symm
def clρ(a0:List (List Nat))(W:Dz)(xs:List Dz)(m:Nat)(u4 u5 u6:O9 A):Sg:=[some (.d (.tuple (a0.map cV))),some (.d W),some (.l xs),some (.d (.int (m:Int))),u4,u5,u6]
def clK(a0:List (List Nat))(κ:Nat->Dz)(x:Nat):Dz:=.tuple (κ x::(a0.getD x []).map κ)
def aQU(M:Rdr a0 sg){κ:Nat->Dz}{i:Nat}(D:Kd a0 ws sg i κ){x y:Nat}(hx:x < a0.length)(d:y < a0.length):clK a0 κ x=clK a0 κ y↔EqI a0 ws sg (i+1) x y:=by
 rw[aEB M hx d,<-D.iff x y hx d]
 have g:=M.at hx
 have f:=M.at d
 have b:∀ q,q < a0.length->∀ k,k < sg->(a0.getD q [])[k]? = some (stN1 a0 q (97+k))/\stN1 a0 q (97+k) < a0.length:=fun q e k a=>by
  have:=(iK M e (c:=97+k) (by unfold cF;exact AX (by omega)))
  rw[show 97+k - 97=k by omega] at this
  exact this
 constructor
 .intro h
  unfold clK at h
  injection h with h
  injection h with h1 h2
  refine ⟨h1,fun k a=>(D.iff _ _ (b x hx k a).2 (b y d k a).2).mp ?_⟩
  have:=CL (fun l=>l[k]?) h2
  simp only[AC,(b x hx k a).1,(b y d k a).1,DS,EG] at this
  exact this
 .rintro ⟨h1,h2⟩
  unfold clK
  have:(a0.getD x []).map κ=(a0.getD y []).map κ:=by
   refine CN fun k=>?_
   rw[AC,AC]
   by_cases a:k < sg
   .rw[(b x hx k a).1,(b y d k a).1]
    show some _=some _
    rw[(D.iff _ _ (b x hx k a).2 (b y d k a).2).mpr (h2 k a)]
   .rw[BE (by omega),BE (by omega)]
  rw[h1,this]
def aAY(M:Rdr a0 sg){κ:Nat->Dz}(a:∀ x,x < a0.length->kOk (κ x)){x:Nat}(hx:x < a0.length):gQ (clK a0 κ x)=true:=by
 have g:=M.at hx
 have c:∀ d∈κ x::(a0.getD x []).map κ,kOk d:=fun d b=>by
  rcases AT.mp b with q|q
  .rw[q];exact a x hx
  .obtain ⟨j,e,rfl⟩:=AN.mp q
   exact a j (g.2.2 j e)
 have h2:Sh 1 (clK a0 κ x):=mC fun y f=>(c y f).sh _
 have b:=h2.2
 unfold clK at b ⊢
 unfold gQ
 rw[A3]
 exact ⟨aEJ c,AX (by omega)⟩
def aTV(M:Rdw a0 ws sg){κ:Nat->Dz}{i m:Nat}(D:Kd a0 ws sg i κ){W:Dz}{xs:List Dz}{u4 u6:O9 A} :
  ∃ u6',mG (stN 6) (oP 5 (eV 6) (vH 5)) ((List.range a0.length).map (clK a0 κ)) (clρ a0 W xs m u4 (some (.m [])) u6)=.ok (.nx (clρ a0 W xs m u4 (some (.m (fN (adA [] ((List.range a0.length).map (clK a0 κ)))))) u6')):=by
 have n2:=M.r.n2
 obtain ⟨w,v,u6',t⟩:=f6 (fs:=stN 6) (fb:=oP 5 (eV 6) (vH 5)) (d:=clK a0 κ) (xs:=List.range a0.length) (ρ:=clρ a0 W xs m u4 (some (.m [])) u6)
  (fun n ρ=>∃ a,ρ=clρ a0 W xs m u4 (some (.m (fN (adA [] ((List.range n).map (clK a0 κ)))))) a) ⟨u6,rfl⟩ fun n x ρ l s=>by
  obtain ⟨a,e⟩:=s
  have b:=(AI.mp l).1
  rw[AW] at b
  rw[A9 b] at l
  cases l
  rw[GT,BJ,CS,w5]
  have z:=rM ((List.range n).map (clK a0 κ)) (fs:=[]) CT
  have c:=aAE ((List.range n).map (clK a0 κ)) []
  rw[AB,AW,BD] at c
  have p:∀ x∈adA [] ((List.range n).map (clK a0 κ)),gQ x=true:=fun x k=>by
   rcases adA_mem _ k with h|h
   .cases h
   .obtain ⟨q,y,rfl⟩:=AN.mp h
    exact aAY M.r D.ok (by have:=AZ.mp y;omega)
  rw[e]
  have o:=aAY M.r D.ok b
  generalize adA [] ((List.range n).map (clK a0 κ))=F at *
  have s1:cK (clK a0 κ n) ((fN F).map (·.1))=true:=by
   exact aB5 (B:=clK a0 κ n::F) (.inl fun x k=>by
    rcases AT.mp k with h|h
    · rw [h]; exact o
    · exact p x h) AS (fun x k => AJ _ k)
  have f:F.length<=16777216:=by omega
  refine ⟨clρ a0 W xs m u4 (some (.m (fN F))) (some (.d (clK a0 κ n))),_,by simp[clρ],.inl ?_,some (.d (clK a0 κ n)),rfl⟩
  by_cases j:clK a0 κ n∈F
  .have g:=vL.mpr j
   rw[kM j]
   simp[clρ,s1,g,f,vK]
  .have g:=sX j
   have u:=aAD j
   rw[iJ j]
   simp[clρ,s1,g,u,f,vK]
 rw[AW] at t
 exact ⟨u6',by rw[v,t]⟩
def aQV(M:Rdw a0 ws sg){κ:Nat->Dz}{i m:Nat}(D:Kd a0 ws sg i κ){W:Dz}{u4 u5 u6:O9 A} :
  ∃ κ' v4 v5 v6,Kd a0 ws sg (i+1) κ'/\clB (clρ a0 W ((List.range a0.length).map κ) m u4 u5 u6)=.ok (.nx (clρ a0 W ((List.range a0.length).map κ') (nRep a0 ws sg i) v4 v5 v6)):=by
 have n2:=M.r.n2
 have s3:=M.r.s3
 have c:=D.cnt (by omega)
 have f:∀ x,x < a0.length->dIx (.list ((List.range a0.length).map κ)) (.int (x:Int))=.ok (κ x):=fun x a=>lJ (fR (by rw[AC,A9 a];rfl))
 have o:=hU (n:=a0.length) (by omega)
 have C:=cY (fs:=stN 0) (fe:=e2 cI (dP (aB (e2 dIx (rV 1) (rV 0)) aM)) (e1 dTup (eL (d0 [none,some 1] (e1 a9 (e2 dIx (rV 2) (rV 0))) (stN 0) fH (e2 dIx (rV 1) (rV 0)))))) (ρ0:=[none,some (.l ((List.range a0.length).map κ)),some (.d (.tuple (a0.map cV)))]) (d:=fun x:Nat=>.int (x:Int)) (g:=clK a0 κ) (xs:=List.range a0.length) fun x a=>⟨[some (.d (.int (x:Int))),some (.l ((List.range a0.length).map κ)),some (.d (.tuple (a0.map cV)))],rfl,by
  have a:=AZ.mp a
  have N:=M.r.at a
  have G:=aAL (ws:=ws.map .str) M.r a
  have J:=f x a
  have w:a9 (cV (a0.getD x []))=.ok ((a0.getD x []).map fun j:Nat=>.int (j:Int)):=eX (by rw[AB];omega)
  have s:=cY (fs:=stN 0) (fe:=e2 dIx (rV 1) (rV 0)) (ρ0:=[none,some (.l ((List.range a0.length).map κ))]) (d:=fun j:Nat=>.int (j:Int)) (g:=κ) (xs:=a0.getD x []) fun j E=>⟨[some (.d (.int (j:Int))),some (.l ((List.range a0.length).map κ))],rfl,by
   have:=f j (N.2.2 j E)
   generalize (List.range a0.length).map κ=ks at *
   simp[this]⟩
  have I:cI (.tuple [κ x]) (.tuple ((a0.getD x []).map κ))=.ok (clK a0 κ x):=aJ7 rfl (by simp only[AB,BB,BD];omega)
  generalize (List.range a0.length).map κ=ks at *
  generalize a0.getD x []=r at *
  simp only[iR,z0,iC,fZ,gP,A0,A1,R.bind_ok,J,BB,BD,Nat.reduceAdd,Nat.reduceLeDiff,CD,jO,aHP,sU,G,w,eJ,AY,BS,GN,DH,Option.join_some,s,yJ,I]⟩
 obtain ⟨v,e⟩:=aTV M (m:=nRep a0 ws sg i) D (W:=W) (xs:=(List.range a0.length).map κ) (u4:=some (.d (.list ((List.range a0.length).map (clK a0 κ))))) (u6:=u6)
 have t:a9 (.list ((List.range a0.length).map (clK a0 κ)))=.ok ((List.range a0.length).map (clK a0 κ)):=iV (by rw[AB,AW];omega)
 have L:=rM ((List.range a0.length).map (clK a0 κ)) (fs:=[]) CT
 have b:∀ x,x < a0.length->clK a0 κ x∈adA [] ((List.range a0.length).map (clK a0 κ)):=fun x a=>k6 _ (AN.mpr ⟨x,AZ.mpr a,rfl⟩)
 have u:∀ x∈adA [] ((List.range a0.length).map (clK a0 κ)),gQ x=true:=fun x a=>by
  rcases adA_mem _ a with h|h
  .cases h
  .obtain ⟨q,H,rfl⟩:=AN.mp h
   exact aAY M.r D.ok (AZ.mp H)
 have K:=aQJ (a0:=a0) (ws:=ws) (sg:=sg) (i:=i+1) (κ:=clK a0 κ) (fun x y a z=>aQU M.r D a z)
 generalize adA [] ((List.range a0.length).map (clK a0 κ))=F at *
 have p:=cY (fs:=stN 0) (fe:=nG 1 (eV 0)) (ρ0:=[none,some (.m (fN F))]) (d:=clK a0 κ) (g:=fun x=>PyData.int (nrQ F (clK a0 κ x):Int)) (xs:=List.range a0.length) fun x a=>⟨[some (.d (clK a0 κ x)),some (.m (fN F))],rfl,by
  have a:=AZ.mp a
  have s1:cK (clK a0 κ x) ((fN F).map (·.1))=true:=aB5 (B:=F) (.inl u) (b x a) (fun x a=>a)
  have g:=aAF L (b x a)
  simp[s1,g]⟩
 refine ⟨_,some (.d (.list ((List.range a0.length).map (clK a0 κ)))),some (.m (fN F)),v,K,?_⟩
 have k:dLen (.tuple (a0.map cV))=.ok (.int (a0.length:Int)):=by rw[rF,AB]
 unfold clρ at e ⊢
 generalize (List.range a0.length).map κ=ks at *
 generalize ((List.range a0.length).map fun x=>PyData.int (nrQ F (clK a0 κ x):Int))=fr at *
 generalize (List.range a0.length).map (clK a0 κ)=O at *
 simp only[clB,bJ,j3,lI,jO,gP,A0,A1,R.bind_ok,c,BC,BG,lP,sU,oR,k,o,eJ,AY,BS,GN,DH,Option.join_some,C,pO,aSU,aUQ,o9,sT,t,e,p]
def aGR{κ:Nat->Dz}{i m:Nat}(D:Kd a0 ws sg i κ)(a:a0.length < 4000){W:Dz}{u4 u5 u6:O9 A}:clT (clρ a0 W ((List.range a0.length).map κ) m u4 u5 u6)=.ok (decide (m < nRep a0 ws sg i)):=by
 have:=D.cnt a
 simp[clT,clρ,this]
open Classical in
def aTW(M:Rdw a0 ws sg):∃ marks i,gJ [.d (.tuple (a0.map cV)),.d (.list (ws.map .str))]=.ok (.d (.list marks))/\dSetN (.list marks)=.ok (.int (nRep a0 ws sg i:Nat))/\∀ x y,x < a0.length->y < a0.length->EqI a0 ws sg i x y->EqA a0 ws sg x y:=by
 have n2:=M.r.n2
 have wl:=M.wl
 have pos:0 < nRep a0 ws sg 0:=by
  unfold nRep
  exact List.countP_pos_iff.mpr ⟨0,AZ.mpr M.r.n1,AX fun b C=>by omega⟩
 have g:∀ (k i:Nat) (κ:Nat->Dz) (m:Nat) (u4 u5 u6:O9 A),Kd a0 ws sg i κ->a0.length<=m+k->(m=0/\i=0\/∃ j,i=j+1/\m=nRep a0 ws sg j)->
   ∃ a f,aJ (bV clT clB) (sFz 2 (bM (vV 2))) (clρ a0 (.list (ws.map .str)) ((List.range a0.length).map κ) m u4 u5 u6)=.ok (.rt (.d (.list ((List.range a0.length).map a))))/\Kd a0 ws sg (f+1) a/\nRep a0 ws sg (f+1)<=nRep a0 ws sg f:=by
  intro k
  induction k with
  | zero=>
   intro i κ m u4 u5 u6 D B o
   have c:=aGR (m:=m) D (by omega) (W:=.list (ws.map .str)) (u4:=u4) (u5:=u5) (u6:=u6)
   have n:=aGK (a0:=a0) (ws:=ws) (sg:=sg) i
   rw[BA (by omega)] at c
   rw[bJ,eQ c]
   rcases o with ⟨h1,h2⟩|⟨j,h1,h2⟩
   .have:=M.r.n1;omega
   .subst h1
    exact ⟨κ,j,by simp[clρ],D,by omega⟩
  | succ k ih=>
   intro i κ m u4 u5 u6 D B o
   have c:=aGR (m:=m) D (by omega) (W:=.list (ws.map .str)) (u4:=u4) (u5:=u5) (u6:=u6)
   by_cases h:m < nRep a0 ws sg i
   .rw[AX h] at c
    obtain ⟨a,t,v,w,z,e⟩:=aQV M (m:=m) D (W:=.list (ws.map .str)) (u4:=u4) (u5:=u5) (u6:=u6)
    have:=ih (i+1) a (nRep a0 ws sg i) t v w z (by omega) (.inr ⟨i,rfl,rfl⟩)
    rw[bJ] at this ⊢
    rw[hJ c e]
    exact this
   .rw[BA h] at c
    rw[bJ,eQ c]
    rcases o with ⟨rfl,rfl⟩|⟨j,rfl,rfl⟩
    · omega
    · exact ⟨κ, j, by simp [clρ], D, by omega⟩
 obtain ⟨a,f,e,D,n⟩:=g a0.length 0 (fun x=>.str (ws.getD x "")) 0 none none none (aMY M) (by omega) (.inl ⟨rfl,rfl⟩)
 refine ⟨_,f+1,?_,D.cnt (by omega),fun x y s p h=>aTO M.r n s p h.up⟩
 have q:(List.range a0.length).map (fun x=>PyData.str (ws.getD x ""))=ws.map .str:=by
  refine CN fun j=>?_
  rw[AC,AC]
  by_cases u:j < a0.length
  .rw[A9 u]
   show some (PyData.str (ws.getD j _))=_
   rw[AD (l:=ws) (by omega),AG,AD (by omega)];rfl
  .rw[BE (by rw[AW];omega),BE (by omega)];rfl
 rw[q] at e
 unfold gJ
 rw[kN]
 unfold clρ at e
 generalize aJ (bV clT clB) (sFz 2 (bM (vV 2)))=Wl at *
 have e:Wl [some (.d (.tuple (a0.map cV))),some (.d (.list (ws.map .str))),some (.l (ws.map .str)),some (.d (.int 0)),none,none,none]=_:=e
 simp[e]
def gW(m:Nat):List Dz:=(List.range m).map fun x:Nat=>.int (x:Int)
def kP(m:Nat):(gW m).length=m:=by unfold gW;rw[AB,AW]
def aM4{m:Nat}{F:List Dz}(h:F <+: gW m):F=gW F.length:=by
 obtain ⟨t,e⟩:=h
 have a:=CL List.length e
 rw[A5,kP] at a
 have:F=(gW m).take F.length:=by rw[<-e,List.take_left'];rfl
 unfold gW at this ⊢
 rw[<-List.map_take,List.take_range,Nat.min_eq_left (by omega)] at this
 exact this
def aM5{m c j:Nat}(h:adQ (gW m) (.int (j:Int))=gW c):j<=m/\c=m+(if j=m then 1 else 0):=by
 have a:=CL List.length h
 rw[kP] at a
 by_cases q:PyData.int (j:Int)∈gW m
 .rw[kM q,kP] at a
  obtain ⟨x,b,e⟩:=AN.mp q
  injection e with e
  have b:=AZ.mp b
  have:j=x:=by omega
  rw[AK (by omega)]
  omega
 .rw[iJ q,A5,kP] at a
  rw[iJ q] at h
  have:=CL (fun l=>l[m]?) h
  simp only[BB,BD] at a
  rw[CF (by rw[kP];exact AU _),kP,Nat.sub_self] at this
  unfold gW at this
  rw[AC,A9 (by omega)] at this
  have:=BL this
  injection this with this
  have:j=m:=by omega
  rw[AL this]
  omega
def aTX{y:Dz}{a b c d e v7 v8:O9 A}{js:List Nat}{m l:Nat}(h:adA (gW m) (js.map fun j:Nat=>.int (j:Int))=gW l):∃ v7' v8',mG (stT [(stN 7),(stN 8)]) shI (js.map fun j:Nat=>cJ ((j:Int),1)) [some (.d y),some (.d (.int (m:Int))),a,b,c,d,e,v7,v8]=.ok (.nx [some (.d y),some (.d (.int (l:Int))),a,b,c,d,e,v7',v8']):=by
 obtain ⟨z,x,f,v7',v8',u,s⟩:=f6 (fs:=stT [(stN 7),(stN 8)]) (fb:=shI) (d:=fun j:Nat=>cJ ((j:Int),1)) (xs:=js) (ρ:=[some (.d y),some (.d (.int (m:Int))),a,b,c,d,e,v7,v8])
  (fun k ρ=>∃ (f:Nat) (v7 v8:O9 A),ρ=[some (.d y),some (.d (.int (f:Int))),a,b,c,d,e,v7,v8]/\adA (gW m) ((js.take k).map fun j:Nat=>.int (j:Int))=gW f) ⟨m,v7,v8,rfl,rfl⟩ fun k j ρ v o=>by
  obtain ⟨f,v7,v8,n,B⟩:=o
  subst n
  have w:js.take (k+1)=js.take k++[j]:=by rw[CY,v];rfl
  have g:adA (gW m) ((js.take (k+1)).map fun j:Nat=>.int (j:Int))=adQ (gW f) (.int (j:Int)):=by
   rw[w,BJ,CS,w5,B]
  have i:adA (gW m) ((js.take (k+1)).map fun j:Nat=>.int (j:Int)) <+: gW l:=by
   rw[<-h]
   have:adA (gW m) (js.map fun j:Nat=>PyData.int (j:Int))=adA (adA (gW m) ((js.take (k+1)).map fun j:Nat=>.int (j:Int))) ((js.drop (k+1)).map fun j:Nat=>.int (j:Int)):=by
    unfold adA;rw[<-List.foldl_append,<-List.map_append,G3]
   rw[this];exact vN _ _
  have r:=aM4 i
  rw[g] at r
  obtain ⟨h1,h2⟩:=aM5 r
  refine ⟨[some (.d y),some (.d (.int (f:Int))),a,b,c,d,e,some (.d (.int (j:Int))),some (.d (.int 1))],[some (.d y),some (.d (.int ((adQ (gW f) (.int (j:Int))).length:Int))),a,b,c,d,e,some (.d (.int (j:Int))),some (.d (.int 1))],rfl,.inl ?_,_,some (.d (.int (j:Int))),some (.d (.int 1)),rfl,by rw[g];exact r⟩
  rw[h2]
  have p:¬ (f:Int) < (j:Int):=by omega
  by_cases q:j=f
  .subst q
   rw[AL rfl]
   simp[shI,rK,eB,dInt]
  .rw[AK q]
   have t:¬ (j:Int)=(f:Int):=by omega
   simp[shI,rK,eB,dInt,p,t]
 rw[GM,h] at s
 have:f=l:=by have:=CL List.length s;rw[kP,kP] at this;omega
 subst this
 exact ⟨v7',v8',by rw[x,u]⟩
def aU7(M:Rdw a0 ws sg)(h:Stp ws){g:Nat->Nat}(u:g 0=1)(Q:∀ q,q < a0.length->q < g q/\adA (gW (g q)) ((a0.getD q []).map fun j:Nat=>.int (j:Int))=gW (g (q+1))):gY [.d (aV (bZ a0 ws))]=.ok (.d (.bool true)):=by
 have n2:=M.r.n2
 have s3:=M.r.s3
 have s:(bZ a0 ws).length=a0.length:=by unfold bZ;rw[AB,AW]
 have O:a9 (aV (bZ a0 ws))=.ok ((bZ a0 ws).map cB):=eX (by rw[AB,s];omega)
 have P:sP (aV (bZ a0 ws))=.ok ((List.range a0.length).map fun q:Nat=>PyData.tuple [.int (q:Int),cB (fO a0 ws q)]):=by
  rw[aD2 O]
  congr 1
  refine CN fun j=>?_
  rw[AC,FF,AC,AC]
  by_cases N:j < a0.length
  .rw[aET N,A9 N]
   simp[t8]
  .rw[BE (by omega),BE (by rw[AW];omega)];rfl
 obtain ⟨W,v,A,D,m,p,o,l,i,S⟩:=f6 (fs:=stT [(stN 2),(stN 3)]) (fb:=shF) (d:=fun q:Nat=>PyData.tuple [.int (q:Int),cB (fO a0 ws q)]) (xs:=List.range a0.length) (ρ:=[some (.d (aV (bZ a0 ws))),some (.d (.int 1)),none,none,none,none,none,none,none])
  (fun q ρ=>∃ A D m p o l i,ρ=[some (.d (aV (bZ a0 ws))),some (.d (.int (g q:Int))),A,D,m,p,o,l,i]) ⟨none,none,none,none,none,none,none,by rw[u];rfl⟩ fun q x ρ F H=>by
  obtain ⟨A,D,m,p,o,l,i,C⟩:=H
  have f:=(AI.mp F).1
  rw[AW] at f
  rw[A9 f] at F
  cases F
  subst C
  obtain ⟨Y,T⟩:=Q q f
  have Z:=M.r.at f
  have K:=h.at_ (q:=q) (by rw[M.wl];exact f)
  obtain ⟨k,G,B⟩:∃ k:Dz,(if q=0 then Tn.n 0 else Tn.w "out").d=k/\((dIx (.list [.int 0,.str "out"]) (.int (if 0 < q then 1 else 0))).bind fun y=>dNe k y)=.ok (.bool false):=by
   by_cases L:q=0
   .subst L
    refine ⟨.int 0,rfl,?_⟩
    simp[rK]
   .refine ⟨.str "out",by rw[AK L];rfl,?_⟩
    have K:=aNW (w:="out") (.inr (.inl rfl))
    rw[AL (by omega)]
    simp[K]
  have t:cB (fO a0 ws q)=.tuple [k,.tuple ((a0.getD q []).map fun j:Nat=>cJ ((j:Int),1)),.str (ws.getD q "")]:=by
   unfold cB fO
   rw[A6,G];rfl
  have E:a9 (.tuple ((a0.getD q []).map fun j:Nat=>cJ ((j:Int),1)))=.ok ((a0.getD q []).map fun j:Nat=>cJ ((j:Int),1)):=eX (by rw[AB];omega)
  obtain ⟨I,J,v⟩:=aTX (y:=aV (bZ a0 ws)) (a:=some (.d (.int (q:Int)))) (b:=some (.d (cB (fO a0 ws q)))) (c:=some (.d k)) (d:=some (.d (.tuple ((a0.getD q []).map fun j:Nat=>cJ ((j:Int),1))))) (e:=some (.d (.str (ws.getD q "")))) (v7:=l) (v8:=i) T
  refine ⟨[some (.d (aV (bZ a0 ws))),some (.d (.int (g q:Int))),some (.d (.int (q:Int))),some (.d (cB (fO a0 ws q))),m,p,o,l,i],[some (.d (aV (bZ a0 ws))),some (.d (.int (g (q+1):Int))),some (.d (.int (q:Int))),some (.d (cB (fO a0 ws q))),some (.d k),some (.d (.tuple ((a0.getD q []).map fun j:Nat=>cJ ((j:Int),1)))),some (.d (.str (ws.getD q ""))),I,J],rfl,.inl ?_,_,_,_,_,_,_,_,rfl⟩
  have z:¬ (g q:Int)<=(q:Int):=by omega
  have V:(n8 (stT [(stN 4),(stN 5),(stN 6)]) (eV 3)) [some (.d (aV (bZ a0 ws))),some (.d (.int (g q:Int))),some (.d (.int (q:Int))),some (.d (cB (fO a0 ws q))),m,p,o,l,i]=.ok (.nx [some (.d (aV (bZ a0 ws))),some (.d (.int (g q:Int))),some (.d (.int (q:Int))),some (.d (cB (fO a0 ws q))),some (.d k),some (.d (.tuple ((a0.getD q []).map fun j:Nat=>cJ ((j:Int),1)))),some (.d (.str (ws.getD q ""))),l,i]):=by
   have:∀ X:Dz,X=.tuple [k,.tuple ((a0.getD q []).map fun j:Nat=>cJ ((j:Int),1)),.str (ws.getD q "")]->(n8 (stT [(stN 4),(stN 5),(stN 6)]) (eV 3)) [some (.d (aV (bZ a0 ws))),some (.d (.int (g q:Int))),some (.d (.int (q:Int))),some (.d X),m,p,o,l,i]=.ok (.nx [some (.d (aV (bZ a0 ws))),some (.d (.int (g q:Int))),some (.d (.int (q:Int))),some (.d X),some (.d k),some (.d (.tuple ((a0.getD q []).map fun j:Nat=>cJ ((j:Int),1)))),some (.d (.str (ws.getD q ""))),l,i]):=fun X U=>by
    subst U
    simp only[aPO,sT,A0,A1,R.bind_ok,aJ2,aMD,aPP,yG,DH,BC,BG,p7]
   exact this _ t
  generalize cB (fO a0 ws q)=X at *
  generalize ((a0.getD q []).map fun j:Nat=>cJ ((j:Int),1))=cs at *
  generalize ws.getD q ""=w at *
  unfold shF
  rw[bJ,V]
  simp[dInt,z,B,jK,E,v]
 subst S
 unfold gY
 rw[lC]
 simp[P,v]
end
section
variable{a0:List (List Nat)}{ws:List Str}{rs:List Rw}{sg N:Nat}{L:List Nat}
def aU8(M:Mach rs sg)(B:aHT rs sg):∃ N,Wy rs sg N/\EndW rs sg 200 N:=by
 obtain ⟨N,c,E⟩:=aGO rs sg 200
 have b:(bfW rs sg N).length<=200:=B _ (nV _ _ _) fun x a=>qJ M (n:=N) (by omega) a
 exact ⟨N,⟨M,E.full b,c⟩,E⟩
def aM6(M:Rdw a0 ws sg)(h:Stp ws)(c:a0.length<=40):aHT (bZ a0 ws) sg:=by
 have e:(bZ a0 ws).length=a0.length:=by unfold bZ;rw[AB,AW]
 refine aHU (nX M h) (by omega) fun r a k d=>?_
 unfold bZ at a
 obtain ⟨q,b,rfl⟩:=AN.mp a
 rw[aGQ M.r (AZ.mp b) d]
def aQW{z c:List Nat}{a b:Int}(h:aQ rs z=aQ rs c)(h1:eF rs z (0,0)=.n a)(h2:eF rs c (0,0)=.n b):a=b:=by
 unfold aQ jF at h
 rw[h1,h2] at h
 injection h with h
 injection h with h _
 injection h
def aM7(M:Rdw a0 ws sg)(h:Stp ws)(W:Wy (bZ a0 ws) sg N):EqX (c7 (bZ a0 ws) sg N) a0 (cW (bZ a0 ws) sg N) ws sg 0 0:=by
 have n:=W.n
 have step:∀ (w:List Nat) (i x:Nat),Sgs sg w->(∃ z,bA sg z/\z.length<=N/\(bfW (bZ a0 ws) sg N)[i]? = some (aQ (bZ a0 ws) z)/\runN a0 0 z=x)->
   ∃ z,bA sg z/\z.length<=N/\(bfW (bZ a0 ws) sg N)[runN (c7 (bZ a0 ws) sg N) i w]? = some (aQ (bZ a0 ws) z)/\runN a0 0 z=runN a0 x w:=by
  intro w
  induction w with
  | nil=>intro i x _ s;exact s
  | cons c t ih=>
   intro i x o ⟨z,S,r,k,j⟩
   have b:=o c AS
   have a:=W.on k S (by omega) b
   obtain ⟨m,_,h2,l,g⟩:=W.at_ a.1
   refine ih _ _ (fun d f=>o d (AJ _ f)) ⟨m,l,g,h2,?_⟩
   have e:=BL (h2.symm.trans a.2)
   have Sc:bA sg (z++[c]):=⟨by rw[A5];show _+1<=_;omega,fun d f=>by
    rcases BK.mp f with q|q
    · exact S.2 d q
    · rw [AQ.mp q]; exact b⟩
   have:=aQW e (xI M h m l) (xI M h (z++[c]) Sc)
   have u:runN a0 0 (z++[c])=stN1 a0 (runN a0 0 z) c:=by unfold runN;rw[EX];rfl
   rw[u,j] at this
   omega
 intro w p
 obtain ⟨z,S,r,k,j⟩:=step w 0 0 p ⟨[],⟨by simp,fun c b=>nomatch b⟩,by simp,nA _ _ _,rfl⟩
 rw[W.word k S,uT M h S,j]
def aQX(h:Stp ws):ws.map cZ=ws:=by
 conv=>rhs;rw[<-List.map_id ws]
 refine BI fun w a=>?_
 rcases h w a with rfl|rfl<;>rfl
def aH7(M:Rdw a0 ws sg)(h:Stp ws)(o:a0.length<=40)(K:Lk a0 ws sg L)(T:Lst a0 ws L N)(e1:bW a0 L N=a0)(e2:c8 a0 ws L N=ws):iQ [.d (aV (bZ a0 ws))]=.ok (.d (aV (bZ a0 ws))):=by
 obtain ⟨e,i,u⟩:=aU8 (nX M h) (aM6 M h o)
 have f:=aTU i u
 have s:=i.rdw
 have x:Stp (cW (bZ a0 ws) sg e):=fun w q=>by
  unfold cW at q
  obtain ⟨z,v,rfl⟩:=AN.mp q
  have S:=((kO i.m e (by have:=i.n;omega)).ok z v).1
  rw[uT M h S]
  exact h.at_ (by rw[M.wl];exact pA M.r z S.2 M.r.n1)
 have g:=aQX x
 have c:Rdw (c7 (bZ a0 ws) sg e) ((cW (bZ a0 ws) sg e).map cZ) sg:=by rw[g];exact s
 obtain ⟨A,p,k⟩:=aEC c
 obtain ⟨t,j⟩:=aED c.r k
 have l:EqX (c7 (bZ a0 ws) sg e) a0 ((cW (bZ a0 ws) sg e).map cZ) ws sg 0 0:=by rw[g];exact aM7 M h i
 obtain ⟨a,b⟩:=(aBM c M k K j T).mpr l
 rw[e1] at a
 rw[e2] at b
 have y:t<=60:=by have:=uS j;rw[a] at this;omega
 have:=aKY s f k p j y
 rw[a,b] at this
 exact this
end
section
variable{rs:List Rw}{sg N:Nat}
def aN0{w:Str}(h:aAM w):((dEq (.str w) (.str "by")).bind fun x=>(dInt x).bind fun y=>dIx (.list [.str "out",.str "by"]) y)=.ok (.str (cZ w)):=by
 have a:=aKH h (v:="by") (.inl rfl)
 rcases h with rfl|rfl|rfl
 · rw [a]; rfl
 · rw [a]; rfl
 · rw [a]; rfl
def aGS(M:Mach rs sg):∃ r,dIx (aV rs) (.int 0)=.ok r/\∃ cs,dIx r (.int 1)=.ok (.tuple cs)/\cs.length=sg:=by
 have d:=M.len
 obtain ⟨b,t,e⟩:∃ b t,rs=b::t:=by cases rs with
  | nil=>simp at d
  | cons a t=>exact ⟨a,t,rfl⟩
 refine ⟨cB b,by rw[e];unfold aV;rw[AY];exact yK _ _,b.c.map cJ,aJ6 _ _ _,?_⟩
 rw[AB]
 exact (M.row b (by rw[e];exact AS)).2
def aTY{st:List Rw}(M:Mach rs sg)(M2:Mach st sg){z:List Nat}(S:bA sg z)(hw:eD st z=cZ (eD rs z)){a b c d e f g i j:O9 A}:lwI [a,some (.d (aV rs)),b,c,d,e,f,some (.d (aV st)),g,i,j,some (.d (stD z))]=.ok (.nx [a,some (.d (aV rs)),b,c,d,e,f,some (.d (aV st)),g,i,j,some (.d (stD z))]):=by
 have k:=aDR M (z:=⟨z.toArray⟩) (by simpa using S)
 have h:=aDR M2 (z:=⟨z.toArray⟩) (by simpa using S)
 simp only[FM] at k h
 have k:eS [.d (aV rs),.d (stD z)]=.ok (.d (.str (eD rs z))):=k
 have h:eS [.d (aV st),.d (stD z)]=.ok (.d (.str (eD st z))):=h
 have h1:=aN0 (wordW_is M S)
 have h2:=aNW (w:=cZ (eD rs z)) (by rcases stopW_is (wordW_is M S) with q|q<;>simp[q])
 rw[hw] at h
 generalize eD rs z=w at *
 obtain ⟨x,m,h1⟩:∃ x,dEq (.str w) (.str "by")=.ok x/\((dInt x).bind fun y=>dIx (.list [.str "out",.str "by"]) y)=.ok (.str (cZ w)):=by
  cases q:dEq (.str w) (.str "by") with
  | ok x=>rw[q] at h1;exact ⟨x,rfl,h1⟩
  | bad=>rw[q] at h1;cases h1
  | ex e=>rw[q] at h1;cases h1
 obtain ⟨y,l,h1⟩:∃ y,dInt x=.ok y/\dIx (.list [.str "out",.str "by"]) y=.ok (.str (cZ w)):=by
  cases q:dInt x with
  | ok y=>rw[q] at h1;exact ⟨y,rfl,h1⟩
  | bad=>rw[q] at h1;cases h1
  | ex e=>rw[q] at h1;cases h1
 simp[lwI,k,h,m,l,h1,h2]
def aTZ{ns:List Int}{st:List Rw}(M:Mach rs sg)(M2:Mach st sg)(hw:∀ z,bA sg z->eD st z=cZ (eD rs z)){zs:List (List Nat)}(hz:∀ z∈zs,bA sg z)(P:1<=zs.length)(k:Nat){b d e f u9 u10 u11:O9 A} :
  ∃ v9 v10 v11,lwF [some (.d (fA ns)),some (.d (aV rs)),b,some (.d (.list (zs.map stD))),d,e,f,some (.d (aV st)),some (.d (.int (k:Int))),u9,u10,u11]=.ok (.nx [some (.d (fA ns)),some (.d (aV rs)),b,some (.d (.list (zs.map stD))),d,e,f,some (.d (aV st)),some (.d (.int (k:Int))),v9,v10,v11]):=by
 obtain ⟨v,B⟩:=rH ns (10+(k:Int))
 have L:dMod (.int v) (.int 41)=.ok (.int (v % 41)):=dQ (by decide)
 obtain ⟨n,F,C⟩:∃ n:Nat,v % 41=(n:Int)/\n<=40:=⟨(v % 41).toNat,by omega,by omega⟩
 obtain ⟨r,E,cs,H,h⟩:=aGS M
 obtain ⟨z,e1,S,Q⟩:=aPV (ns:=ns) (at':=20+(k:Int)) (m:=n) (sg:=sg) (by omega) (by omega) M.sg1 M.sg3
 have a:dLen (.tuple cs)=.ok (.int (sg:Int)):=by rw[rF,h]
 have O:dDiv (.int (n:Int)) (.int 4)=.ok (.int ((n / 4:Nat):Int)):=by rw[jY (by decide) (by decide)];rfl
 have j:z.length<=16777216:=by rw[m7];omega
 have d1:=aNS (lo:=none) (hi:=some ((n / 4:Nat):Int)) j
 rw[aHN (by omega)] at d1
 have c:(zs.map stD).length=zs.length:=AB ..
 have D:dMod (.int (k:Int)) (.int (zs.length:Int))=.ok (.int ((k % zs.length:Nat):Int)):=by rw[dQ (by omega)];rfl
 have w:k % zs.length < zs.length:=Nat.mod_lt _ (by omega)
 have K:dIx (.list (zs.map stD)) (.int ((k % zs.length:Nat):Int))=.ok (stD (zs[k % zs.length])):=lJ (fR (by rw[AC,AD w];rfl))
 have o:=hz _ (CQ w)
 have I:PyData.str z=stD z.cps.toList:=by unfold stD;rw[Array.toArray_toList]
 have G:PyData.str ⟨(z.cps.toList.take (n / 4)).toArray⟩=stD (z.cps.toList.take (n / 4)):=rfl
 obtain ⟨N,g,v11,J⟩:=f6 (fs:=stN 11) (fb:=lwI) (d:=stD) (xs:=[z.cps.toList,z.cps.toList.take (n / 4),zs[k % zs.length]]) (ρ:=[some (.d (fA ns)),some (.d (aV rs)),b,some (.d (.list (zs.map stD))),d,e,f,some (.d (aV st)),some (.d (.int (k:Int))),some (.d (.int (n:Int))),some (.d (.str z)),u11])
  (fun _ ρ=>∃ v11,ρ=[some (.d (fA ns)),some (.d (aV rs)),b,some (.d (.list (zs.map stD))),d,e,f,some (.d (aV st)),some (.d (.int (k:Int))),some (.d (.int (n:Int))),some (.d (.str z)),v11]) ⟨u11,rfl⟩ fun i y ρ x p=>by
  obtain ⟨v11,l⟩:=p
  subst l
  have Sy:bA sg y:=by
   have:=AM x
   rcases AT.mp this with q|q
   .rw[q];exact S
   .rcases AT.mp q with q|q
    · rw [q]; exact S.take _
    · rw [AQ.mp q]; exact o
  exact ⟨_,_,rfl,.inl (aTY M M2 Sy (hw y Sy)),_,rfl⟩
 subst J
 refine ⟨some (.d (.int (n:Int))),some (.d (.str z)),v11,?_⟩
 rw[G] at d1
 simp only[AY,BS] at g
 rw[<-I] at g
 generalize zs[k % zs.length]=u at *
 generalize k % zs.length=T at *
 generalize n / 4=t at *
 have s:a9 (.list [.str z,stD (z.cps.toList.take t),stD u])=.ok [.str z,stD (z.cps.toList.take t),stD u]:=rfl
 simp only[lwF,bJ,j3,lI,kH,iR,aHO,iC,fZ,oQ,gP,jN,A0,A1,R.bind_ok,rE,BB,BD,Nat.reduceAdd,CD,B,aDI,L,F,BC,BG,jO,E,H,a,e1,o9,aHP,mV,sT,aJ3,aJ4,aJ5,O]
 simp[d1,c,D,K,s,g]
def aM8:∀ ns:List Int,ns.length<=63->aH2 [.d (.list (ns.map .int))]=.ok (.d (.bool true)):=by
 intro ns ai
 rw[show PyData.list (ns.map .int)=fA ns from rfl]
 obtain ⟨rs,sg,N,es,S⟩:=aQS ns 0
 have es:jE [.d (fA ns),.d (.int 0)]=_:=es
 have W:=S.wy
 have E:=S.e.up S.few (show 40<=200 by decide)
 have hN:=S.n
 have M:=S.m
 have f1:=aTU W E
 have Mw:=W.rdw
 have ah:=W.rows_len
 have j:Rdw (c7 rs sg N) ((cW rs sg N).map cZ) sg:=⟨Mw.r,by rw[AB];exact Mw.wl,fun w B=>by
  obtain ⟨v,hv,rfl⟩:=AN.mp B
  rcases stopW_is (Mw.ww v hv) with h|h
  .exact .inl h
  .exact .inr (.inl h)⟩
 obtain ⟨Y,i,ec,ed,hA⟩:=aTW j
 obtain ⟨L,X,K⟩:=aEC j
 obtain ⟨a,T⟩:=aED j.r K
 have F:=aKZ j K T (fun x hx=>by
  obtain ⟨z,_,Sz,e⟩:=W.reach (i:=x) (by omega)
  exact ⟨z,Sz.2,e⟩) hA
 rw[F] at ed
 have al:a<=40:=by have:=T.le;omega
 have fs:=aKY Mw f1 K X T (by omega)
 have M2:=aTN j K T
 have s:=uS T
 have sp:Stp (c8 (c7 rs sg N) ((cW rs sg N).map cZ) L a):=fun w B=>by
  unfold c8 at B
  obtain ⟨q,C,rfl⟩:=AN.mp B
  have P:=uJ j.r K q C
  have o:q < (cW rs sg N).length:=by rw[Mw.wl];exact P
  rw[AG,AC,AD o]
  exact stopW_is (Mw.ww _ (CQ o))
 obtain ⟨L2,af,Z⟩:=aEC M2
 obtain ⟨N2,T2⟩:=aED M2.r Z
 have says:=tF j K T
 obtain ⟨s1,s2⟩:=(aBM M2 j Z K T2 T).mpr says
 have fx:=aH7 M2 sp (by omega) Z T2 s1 s2
 have Ms:=nX M2 sp
 have im:=aMM Ms
 have aa:(bZ (bW (c7 rs sg N) L a) (c8 (c7 rs sg N) ((cW rs sg N).map cZ) L a)).length=a:=by unfold bZ;rw[AB,AW,s]
 rw[aa] at im
 have reach:∀ n,n<=a->bfQ (afR (bW (c7 rs sg N) L a)) (.int 0) n=gW (bfQ (afR (bW (c7 rs sg N) L a)) (.int 0) n).length:=fun n hn=>by
  have:=aKX j.r K T hn
  rw[this,AB,AW];rfl
 have I:=aU7 M2 sp (g:=fun n=>(bfQ (afR (bW (c7 rs sg N) L a)) (.int 0) n).length) rfl (fun q C=>by
  rw[s] at C
  have h1:q < (bfQ (afR (bW (c7 rs sg N) L a)) (.int 0) q).length:=by
   rw[aKX j.r K T (by omega),AB,AW];exact T.on q C
  refine ⟨h1,?_⟩
  rw[<-reach q (by omega),<-reach (q+1) (by omega)]
  have ac:(bfQ (afR (bW (c7 rs sg N) L a)) (.int 0) q)[q]? = some (.int (q:Int)):=by
   rw[reach q (by omega)]
   unfold gW
   rw[AC,A9 h1];rfl
  rw[m9 ac,aNZ])
 have t:∀ z,bA sg z->eD (bZ (bW (c7 rs sg N) L a) (c8 (c7 rs sg N) ((cW rs sg N).map cZ) L a)) z=cZ (eD rs z):=fun z Sz=>by
  rw[uT M2 sp Sz,says z Sz.2,<-W.says Sz]
  have Q:=pA Mw.r z (q:=0) Sz.2 Mw.r.n1
  have o:runN (c7 rs sg N) 0 z < (cW rs sg N).length:=by rw[Mw.wl];exact Q
  rw[AG,AC,AG,AD o];rfl
 have O:∀ z∈zsW rs sg N,bA sg z:=fun z hz=>((kO M N (by omega)).ok z hz).1
 have H:1<=(zsW rs sg N).length:=by rw[W.zlen];exact W.pos
 have A:jT rs sg N=.tuple [.list ((zsW rs sg N).map stD),.tuple ((c7 rs sg N).map cV),.tuple ((cW rs sg N).map .str)]:=by
  have:=aKW W
  unfold aES rdW rdD at this
  unfold jT
  injection this with this
  injection this with h1 h2
  injection h2 with h2
  rw[h1,h2]
 have ad:a9 (.tuple ((cW rs sg N).map PyData.str))=.ok ((cW rs sg N).map PyData.str):=eX (by rw[AB,Mw.wl];omega)
 have hc:=cY (fs:=stN 0) (fe:=e2 dIx (eL (fG (aB (eC (.str "out")) (aB (eC (.str "by")) aM)))) (e1 dInt (e2 dEq (rV 0) (eC (.str "by"))))) (ρ0:=[none]) (d:=PyData.str) (g:=fun w=>PyData.str (cZ w)) (xs:=cW rs sg N) fun w B=>⟨[some (.d (.str w))],rfl,by
  have c:=aN0 (Mw.ww w B)
  cases q:dEq (.str w) (.str "by") with
  | bad=>rw[q] at c;cases c
  | ex e=>rw[q] at c;cases c
  | ok x=>
   rw[q] at c
   cases D:dInt x with
   | bad=>simp only[R.bind_ok,D] at c;cases c
   | ex e=>simp only[R.bind_ok,D] at c;cases c
   | ok y=>
    simp only[R.bind_ok,D] at c
    simp[q,D,c]⟩
 have V:(cW rs sg N).map (fun w=>PyData.str (cZ w))=((cW rs sg N).map cZ).map .str:=by rw[A6];rfl
 rw[V] at hc
 obtain ⟨r,i1,cs,i2,J⟩:=aGS M
 have u:dLen (.tuple cs)=.ok (.int (sg:Int)):=by rw[rF,J]
 have hr:=hU (n:=10) (by decide)
 have C:=aUX Ms
 generalize bZ (bW (c7 rs sg N) L a) (c8 (c7 rs sg N) ((cW rs sg N).map cZ) L a)=st at *
 obtain ⟨ρ',q1,v8,G,p,l,D⟩:=f6 (fs:=stN 8) (fb:=lwF) (d:=fun i:Nat=>PyData.int (i:Int)) (xs:=List.range 10) (ρ:=[some (.d (fA ns)),some (.d (aV rs)),some (.d (jT rs sg N)),some (.d (.list ((zsW rs sg N).map stD))),some (.d (.tuple ((c7 rs sg N).map cV))),some (.d (.tuple ((cW rs sg N).map .str))),some (.d (.int (a:Int))),some (.d (aV st)),none,none,none,none])
  (fun _ ρ=>∃ v8 G p l,ρ=[some (.d (fA ns)),some (.d (aV rs)),some (.d (jT rs sg N)),some (.d (.list ((zsW rs sg N).map stD))),some (.d (.tuple ((c7 rs sg N).map cV))),some (.d (.tuple ((cW rs sg N).map .str))),some (.d (.int (a:Int))),some (.d (aV st)),v8,G,p,l]) ⟨none,none,none,none,rfl⟩ fun i k ρ hk ae=>by
  obtain ⟨v8,G,p,l,e⟩:=ae
  subst e
  obtain ⟨w9,aj,ak,e⟩:=aTZ (ns:=ns) M Ms t O H k (b:=some (.d (jT rs sg N))) (d:=some (.d (.tuple ((c7 rs sg N).map cV)))) (e:=some (.d (.tuple ((cW rs sg N).map .str)))) (f:=some (.d (.int (a:Int)))) (u9:=G) (u10:=p) (u11:=l)
  exact ⟨_,_,rfl,.inl e,_,_,_,_,rfl⟩
 subst D
 unfold aH2
 rw[aH1]
 have U:∀ (fs:List (Dz->Sg->O9 Sg)) (ρ:Sg),stT fs (jT rs sg N) ρ=stL fs [.list ((zsW rs sg N).map stD),.tuple ((c7 rs sg N).map cV),.tuple ((cW rs sg N).map .str)] ρ:=fun fs ρ=>by rw[A];exact aJ2 _ _ _
 generalize jT rs sg N=wd at *
 generalize (zsW rs sg N).map stD=zd at *
 generalize (c7 rs sg N).map cV=rd at *
 generalize (cW rs sg N).map PyData.str=sd at *
 generalize ((cW rs sg N).map cZ).map PyData.str=td at *
 have hr:lE 0 10=.ok ((List.range 10).map fun i:Nat=>.int (i:Int)):=hr
 generalize (List.range 10).map (fun i:Nat=>PyData.int (i:Int))=ag at *
 simp[es,U,ad,eJ,hc,ec,ed,fs,i1,i2,u,im,I,hr,q1,C,fx]
end
section
variable{P:P9}{w:W9}{K:Frag}{mg:Str->O9 V9}{base:H9}{TH:Hp}
def aQY(T:Txt w K mg)(Erp_TooMany:∃ W C,ErrP K mg "TooMany" W C)(D5:DefAt K mg "signs_of" (top 5) ["machine"])(D6:DefAt K mg "cells_of" (top 6) ["machine","number"])(D8:DefAt K mg "reached" (top 8) ["begin","after","done"])(D9:DefAt K mg "never" (top 9) ["found","at"])(au:DefAt K mg "is_word" (top 12) ["part"])(ad:DefAt K mg "without_signs" (top 13) ["machine"])(av:DefAt K mg "gone_on" (top 14) ["backs","cells","room"])(al:DefAt K mg "longer" (top 15) ["begun","cells"])(bc:DefAt K mg "word_behind" (top 16) ["machine","begun"])(ag:DefAtT K mg base TH qsT "one_way" (top 17) ["machine"])(ai:DefAt K mg "firsts" (top 19) ["keys"])(aa:DefAt K mg "behind_signs" (top 20) ["likes","row"])(ax:DefAt K mg "finer" (top 21) ["rows","likes"])(X:DefAt K mg "alike_rooms" (top 22) ["reader"])(bd:DefAtT K mg base TH qsT "least" (top 23) ["reader"])(S:DefAt K mg "stopping_word" (top 25) ["word"])(U:DefAt K mg "stopping_row" (top 26) ["reader","room"])(aj:DefAt K mg "stopping" (top 27) ["machine"])(V:DefAt K mg "_law_cell" (top 29) ["_law_script","_law_k"])(ae:DefAt K mg "_law_end" (top 30) ["_law_number","_law_rooms"])(af:DefAt K mg "_law_digit_row" (top 31) ["_law_number","_law_rooms","_law_signs"])(ac:DefAt K mg "_law_mixed_row" (top 32) ["_law_number","_law_rooms","_law_signs"])(bf:DefAt K mg "_law_machine" (top 33) ["_law_script","_law_at","_law_rooms","_law_signs"])(az:DefAt K mg "_law_strip" (top 34) ["_law_script","_law_at","_law_size","_law_signs"])(aw:DefAt K mg "_law_step" (top 35) ["_law_machine_here","_law_strip_here","_law_stand"])(ak:DefAt K mg "_law_stands" (top 36) ["_law_machine_here","_law_strip_here"])(R:DefAt K mg "_law_says" (top 37) ["_law_machine_here","_law_strip_here"])(be:DefAt K mg "_law_whole" (top 38) ["_law_found"])(am:DefAt K mg "_law_beyond" (top 39) ["_law_machine_here","_law_strip_here","_law_place","_law_room"])(aq:DefAt K mg "_law_beginning" (top 40) ["_law_machine_here","_law_strip_here"])(ay:DefAt K mg "_law_ways" (top 41) ["_law_machine_here","_law_signs","_law_most"])(Z:DefAt K mg "_law_small" (top 42) ["_law_script","_law_at"])(ba:DefAt K mg "_law_classes" (top 43) ["_law_rows","_law_words"])(ap:DefAt K mg "_law_is_end" (top 44) ["_law_found","_law_rooms"])(ao:DefAt K mg "_law_is_cell" (top 45) ["_law_found","_law_rooms"])(Y:DefAt K mg "_law_is_machine" (top 46) ["_law_found","_law_rooms","_law_signs"])(ah:DefAt K mg "_law_shaped" (top 47) ["_law_found"]){fL:Az}{Q:FuncData}(FL:Fun K "law" "law" (top 48) fL Q):FnOk P w K mg base (CXe P w) 16 fL Q ["_law_script"] (aHI K TH):=by
 obtain ⟨Wp_TooMany,Cp_TooMany,j⟩:=Erp_TooMany
 have E:=@aE2 P w K mg base TH T D5
 have F:=@aE3 P w K mg base TH T D6
 have s:=@aH3 P w K mg base TH T D8
 have N:=@aMZ P w K mg base TH T D9
 have x:=@aH4 P w K mg base TH T au
 have l:=@xC P w K mg base TH T ad
 have I:=@aH5 P w K mg base TH T av x
 have L:=@aKT P w K mg base TH T al I
 have t:=@aAS P w K mg base TH T bc x
 have J:=aH6 (P:=P) (w:=w) (base:=base) (TH:=TH) T ag E F L s l t j
 have B:=@aKU P w K mg base TH T ai
 have c:=@yW P w K mg base TH T aa
 have O:=@aM0 P w K mg base TH T ax B c
 have r:=@aAT P w K mg base TH T X B O
 have M:=@aM1 P w K mg base TH T bd r c s N
 have k:=@xH P w K mg base TH T S
 have o:=@yZ P w K mg base TH T U
 have G:=aE4 (P:=P) (w:=w) (base:=base) (TH:=TH) T aj J k M o j
 have a:=@aEN P w K mg base TH T V
 have H:=@aE5 P w K mg base TH T ae
 have h:=@vZ P w K mg base TH T af
 have g:=@v3 P w K mg base TH T ac H
 have n:=@y6 P w K mg base TH T bf h g a
 have z:=@aBS P w K mg base TH T az a
 have b:=@aEO P w K mg base TH T aw
 have y:=@aAU P w K mg base TH T ak b
 have i:=@aEP P w K mg base TH T R y b
 have d:=@aBT P w K mg base TH T be
 have v:=@aAV P w K mg base TH T am b
 have f:=@wA P w K mg base TH T aq v
 have D:=@aEQ P w K mg base TH T ay f i
 have A:=@aBU P w K mg base TH T Z a n D
 have p:=@y7 P w K mg base TH T ba
 have q:=@aAW P w K mg base TH T ap d
 have m:=@y8 P w K mg base TH T ao d
 have e:=@uR P w K mg base TH T Y q m
 have u:=@aAX P w K mg base TH T ah
 exact aSA (aTP (P:=P) (w:=w) (base:=base) (TH:=TH) T FL A p G u e a z i) aM8
end
section
variable{w:W9}{K:Frag}{h:H9}{mg:Str->O9 V9}
def aT0(X:K.In h)(G:h.Ns mainGlobals mg){a:Nat}{b:Nat}(z_all:PySem.W.nsIn K mainGlobals "all"=some none)(z_bool:PySem.W.nsIn K mainGlobals "bool"=some none)(z_enumerate:PySem.W.nsIn K mainGlobals "enumerate"=some none)(z_int:PySem.W.nsIn K mainGlobals "int"=some none)(z_isinstance:PySem.W.nsIn K mainGlobals "isinstance"=some none)(z_len:PySem.W.nsIn K mainGlobals "len"=some none)(z_list:PySem.W.nsIn K mainGlobals "list"=some none)(z_range:PySem.W.nsIn K mainGlobals "range"=some none)(z_set:PySem.W.nsIn K mainGlobals "set"=some none)(z_str:PySem.W.nsIn K mainGlobals "str"=some none)(z_tuple:PySem.W.nsIn K mainGlobals "tuple"=some none)(z_zip:PySem.W.nsIn K mainGlobals "zip"=some none)(s_MOST_BEGINNINGS:PySem.W.nsIn K mainGlobals "MOST_BEGINNINGS"=some (some (.int 200 a)))(s_MOST_ROOMS:PySem.W.nsIn K mainGlobals "MOST_ROOMS"=some (some (.int 60 b))):Txt w K mg:=⟨B3 X G z_all,B3 X G z_bool,B3 X G z_enumerate,B3 X G z_int,B3 X G z_isinstance,B3 X G z_len,B3 X G z_list,B3 X G z_range,B3 X G z_set,B3 X G z_str,B3 X G z_tuple,B3 X G z_zip,⟨a,EY X G s_MOST_BEGINNINGS⟩,⟨b,EY X G s_MOST_ROOMS⟩⟩
def aT1{x:Str}(X:K.In h)(G:h.Ns mainGlobals mg){W C c:Az}{f a:List V9}{d r:Str}{j:Bool}{i:List Str}{b:O9 Bool}{e:O9 Az}{c0 k n l q:O9 V9}{p:V9}{o:O9 Az}{cd:ClassData}{g:Array (O9 V9)}
  (m:PySem.W.nsIn K mainGlobals x=some (some (.ref C)))
  (e1:K.lookup C=some (excClassObj d r C c f (.ref W::SX.k8) true i a j b e c0 k n l q "ValueError.__new__"))
  (e2:PySem.W.findIn K (.ref C) "__setattr__"=some (some (.builtin "object.__setattr__"))) (e3:PySem.W.findIn K (.ref C) "__getattribute__"=some (some (.builtin "BaseException.__getattribute__"))) (e4:PySem.W.findIn K (.ref C) "__getattr__"=some none) (e5:PySem.W.findIn K (.ref C) "__class__"=some (some (.builtin "object.__class__")))
  (e6:PySem.W.specialIn K (.builtin "object.__class__") "__get__"=some (some (.builtin "getset_descriptor.__get__"))) (e7:PySem.W.takesIn K (.builtin "object.__class__")=some true) (e8:PySem.W.keepIn K (.ref C)=true)
  (n1:PySem.W.nsOkIn K c=true) (n2:PySem.W.nsIn K c "__init__"=some none) (w1:K.lookup W=some ⟨p,o,.cls cd,g⟩) (w2:PySem.W.nsOkIn K cd.ns=true) (w3:PySem.W.nsIn K cd.ns "__init__"=some none):∃ W C,ErrP K mg x W C:=
 ⟨W,C,aOH e1 e2 e3 e4 e5 e6 e7 e8,EY X G m,⟨_,_,c,_,_,_,_,_,_,_,_,_,_,_,e1,n1,n2⟩,⟨_,_,cd,_,w1,w2,w3⟩⟩
def rec_in{q:P9}{x:Str}(h:((recsOf q).any fun d=>d.name == x)=true):∃ d∈recsOf q,d.name=x:=by
 obtain ⟨d,a,e⟩:=GK.mp h
 exact ⟨d,a,E1 e⟩
def aT2{i f:Az}{j:V9}{od m:O9 Az}{d:Array (O9 V9)}{kV doc pm b ct:V9}(X:K.In h)(G:h.Ns mainGlobals mg)(g:mg "law"=some (.ref i))(a:PySem.W.nsIn K mainGlobals "law"=some (some (.ref f)))(l:K.lookup f=some ⟨j,od,.func (PySem.W.fnOf "law" "law" (iZ (top 48)) (dR (top 48)) (aO (top 48)) .none kV doc pm m b ct),d⟩)
  (c:PySem.W.codeIn K b "law"=true) (k:PySem.W.keepIn K (.ref f)=true):∃ fd,Fun K "law" "law" (top 48) i fd/\∀ (s:S9) (u:V9),BindsTo s fd ⟨[u],[]⟩ [("_law_script",u)]:=by
 have e:=g.symm.trans (EY X G a)
 cases e
 exact ⟨_,aIK (st:=top 48) l c k,fun s u=>.of_eq rfl⟩
end
end Mc
open PySem.W PyProof.Rows
set_option hygiene false
local macro_rules|`(tactic|trivial)=>`(tactic|(dsimp only[L2.KOf];refine' Mc.bR d G ?a ?l ?c ?k ?b;(case a=>k_is);(case l=>k_is);(case c=>k_is);(case k=>k_is);first|(case b=>exact fun _ _ _ _ _ _=>Mc.bn1 fun _=>rfl)|(case b=>exact fun _ _ _ _ _ _=>Mc.bn2 fun _ _=>rfl)|(case b=>exact fun _ _ _ _ _ _=>Mc.bn3 fun _ _ _=>rfl)|(case b=>exact fun _ _ _ _ _ _=>Mc.bn4 fun _ _ _ _=>rfl)))
set_option hygiene true
set_option maxRecDepth 100000 in
set_option maxHeartbeats 0 in
theorem PySem.Challenge.cw_striproam_k31_machines_that_always_stop_holds : PySem.Challenge.rw_striproam_k31_machines_that_always_stop.Holds := by
 w_on;o_law;k_head;(case hw=>w_witness2)
 k_fill
 refine Fl.aO2 (l:=PySem.Challenge.rw_striproam_k31_machines_that_always_stop) (k:=16) (x:="_law_script") (qs:=Mc.qsT) (xs:=["one_way","least"]) ?hx ?hNT rfl rfl ⟨rfl,by decide,by decide⟩ (fun w h Y=>PySem.W.km_in_of Y) ?F
 case hx=>
  intro x hx
  simp only[AT,CC,D0] at hx
  rcases hx with rfl|rfl<;>exact Mc.rec_in (by decide +kernel)
 case hNT=>
  intro w
  kernel_rfl
 case F=>
  intro w mg fa h d G Q
  have D5:L2.DefAt (L2.KOf d) mg "signs_of" (Mc.top 5) ["machine"]:=by trivial
  have D6:L2.DefAt (L2.KOf d) mg "cells_of" (Mc.top 6) ["machine","number"]:=by trivial
  have D8:L2.DefAt (L2.KOf d) mg "reached" (Mc.top 8) ["begin","after","done"]:=by trivial
  have D9:L2.DefAt (L2.KOf d) mg "never" (Mc.top 9) ["found","at"]:=by trivial
  have L:L2.DefAt (L2.KOf d) mg "is_word" (Mc.top 12) ["part"]:=by trivial
  have r:L2.DefAt (L2.KOf d) mg "without_signs" (Mc.top 13) ["machine"]:=by trivial
  have M:L2.DefAt (L2.KOf d) mg "gone_on" (Mc.top 14) ["backs","cells","room"]:=by trivial
  have E:L2.DefAt (L2.KOf d) mg "longer" (Mc.top 15) ["begun","cells"]:=by trivial
  have U:L2.DefAt (L2.KOf d) mg "word_behind" (Mc.top 16) ["machine","begun"]:=by trivial
  have y:L2.DefAt (L2.KOf d) mg "one_way" (Mc.top 17) ["machine"]:=by trivial
  have A:L2.DefAt (L2.KOf d) mg "firsts" (Mc.top 19) ["keys"]:=by trivial
  have p:L2.DefAt (L2.KOf d) mg "behind_signs" (Mc.top 20) ["likes","row"]:=by trivial
  have O:L2.DefAt (L2.KOf d) mg "finer" (Mc.top 21) ["rows","likes"]:=by trivial
  have j:L2.DefAt (L2.KOf d) mg "alike_rooms" (Mc.top 22) ["reader"]:=by trivial
  have V:L2.DefAt (L2.KOf d) mg "least" (Mc.top 23) ["reader"]:=by trivial
  have f:L2.DefAt (L2.KOf d) mg "stopping_word" (Mc.top 25) ["word"]:=by trivial
  have g:L2.DefAt (L2.KOf d) mg "stopping_row" (Mc.top 26) ["reader","room"]:=by trivial
  have B:L2.DefAt (L2.KOf d) mg "stopping" (Mc.top 27) ["machine"]:=by trivial
  have i:L2.DefAt (L2.KOf d) mg "_law_cell" (Mc.top 29) ["_law_script","_law_k"]:=by trivial
  have t:L2.DefAt (L2.KOf d) mg "_law_end" (Mc.top 30) ["_law_number","_law_rooms"]:=by trivial
  have v:L2.DefAt (L2.KOf d) mg "_law_digit_row" (Mc.top 31) ["_law_number","_law_rooms","_law_signs"]:=by trivial
  have q:L2.DefAt (L2.KOf d) mg "_law_mixed_row" (Mc.top 32) ["_law_number","_law_rooms","_law_signs"]:=by trivial
  have Z:L2.DefAt (L2.KOf d) mg "_law_machine" (Mc.top 33) ["_law_script","_law_at","_law_rooms","_law_signs"]:=by trivial
  have R:L2.DefAt (L2.KOf d) mg "_law_strip" (Mc.top 34) ["_law_script","_law_at","_law_size","_law_signs"]:=by trivial
  have N:L2.DefAt (L2.KOf d) mg "_law_step" (Mc.top 35) ["_law_machine_here","_law_strip_here","_law_stand"]:=by trivial
  have D:L2.DefAt (L2.KOf d) mg "_law_stands" (Mc.top 36) ["_law_machine_here","_law_strip_here"]:=by trivial
  have e:L2.DefAt (L2.KOf d) mg "_law_says" (Mc.top 37) ["_law_machine_here","_law_strip_here"]:=by trivial
  have X:L2.DefAt (L2.KOf d) mg "_law_whole" (Mc.top 38) ["_law_found"]:=by trivial
  have H:L2.DefAt (L2.KOf d) mg "_law_beyond" (Mc.top 39) ["_law_machine_here","_law_strip_here","_law_place","_law_room"]:=by trivial
  have K:L2.DefAt (L2.KOf d) mg "_law_beginning" (Mc.top 40) ["_law_machine_here","_law_strip_here"]:=by trivial
  have P:L2.DefAt (L2.KOf d) mg "_law_ways" (Mc.top 41) ["_law_machine_here","_law_signs","_law_most"]:=by trivial
  have o:L2.DefAt (L2.KOf d) mg "_law_small" (Mc.top 42) ["_law_script","_law_at"]:=by trivial
  have S:L2.DefAt (L2.KOf d) mg "_law_classes" (Mc.top 43) ["_law_rows","_law_words"]:=by trivial
  have J:L2.DefAt (L2.KOf d) mg "_law_is_end" (Mc.top 44) ["_law_found","_law_rooms"]:=by trivial
  have I:L2.DefAt (L2.KOf d) mg "_law_is_cell" (Mc.top 45) ["_law_found","_law_rooms"]:=by trivial
  have n:L2.DefAt (L2.KOf d) mg "_law_is_machine" (Mc.top 46) ["_law_found","_law_rooms","_law_signs"]:=by trivial
  have z:L2.DefAt (L2.KOf d) mg "_law_shaped" (Mc.top 47) ["_law_found"]:=by trivial
  have T:Mc.Txt w (L2.KOf d) mg:=by
   dsimp only[L2.KOf]
   refine' Mc.aT0 d G ?z_all ?z_bool ?z_enumerate ?z_int ?z_isinstance ?z_len ?z_list ?z_range ?z_set ?z_str ?z_tuple ?z_zip ?s_MOST_BEGINNINGS ?s_MOST_ROOMS
   (case z_all=>k_is);(case z_bool=>k_is);(case z_enumerate=>k_is);(case z_int=>k_is);(case z_isinstance=>k_is);(case z_len=>k_is);(case z_list=>k_is);(case z_range=>k_is);(case z_set=>k_is);(case z_str=>k_is);(case z_tuple=>k_is);(case z_zip=>k_is);(case s_MOST_BEGINNINGS=>k_is);(case s_MOST_ROOMS=>k_is)
  have Ep_TooMany:∃ W C,L2.ErrP (L2.KOf d) mg "TooMany" W C:=by
   dsimp only[L2.KOf]
   refine' Mc.aT1 d G ?m ?e1 ?e2 ?e3 ?e4 ?e5 ?e6 ?e7 ?e8 ?n1 ?n2 ?w1 ?w2 ?w3
   (case m=>k_is)
   (case e1=>k_is)
   (case e2=>k_is);(case e3=>k_is);(case e4=>k_is);(case e5=>k_is);(case e6=>k_is);(case e7=>k_is);(case e8=>k_is)
   (case n2=>k_is);(case w1=>k_is);(case w3=>k_is)
   (case n1=>refine' L2.aFR ?l ?h;(case l=>k_is);(case h=>rfl))
   (case w2=>refine' L2.aFR ?l ?h;(case l=>k_is);(case h=>rfl))
  have LL:∃ fd,L2.Fun (L2.KOf d) "law" "law" (Mc.top 48) fa fd/\∀ (s:S9) (u:V9),BindsTo s fd ⟨[u],[]⟩ [("_law_script",u)]:=by
   dsimp only[L2.KOf]
   refine' Mc.aT2 d G Q ?a4 ?l4 ?c4 ?k4
   (case a4=>k_is);(case l4=>k_is);(case c4=>k_is);(case k4=>k_is)
  obtain ⟨fd,FL,hb⟩:=LL
  exact ⟨fd,hb,fun base TH _ _ TL=>Mc.aQY T Ep_TooMany D5 D6 D8 D9 L r M E U (Fl.aSN y d TL (by decide)) A p O j (Fl.aSN V d TL (by decide)) f g B i t v q Z R N D e X H K P o S J I n z FL⟩
end
